/- The laws NumberLimit and NumberParse at the arguments as they read. -/
import Derived.Test.YtpianlannenagaaDoorNumG
namespace Go.Proofs.YtpianlannenagaaDoor
open Go.RowKit

theorem and62 (n : Int) : 0 ≤ bits BinOp.and IntKind.i64 n 4611686018427387903 ∧ bits BinOp.and IntKind.i64 n 4611686018427387903 ≤ 4611686018427387903 := by
  have h2 : (BitVec.ofInt 64 (4611686018427387903 : Int)).toNat = 4611686018427387903 := by decide
  have h3 : (BitVec.ofInt 64 n).toNat &&& 4611686018427387903 ≤ 4611686018427387903 := Nat.and_le_right
  have e : bits BinOp.and IntKind.i64 n 4611686018427387903 = (((BitVec.ofInt 64 n).toNat &&& 4611686018427387903 : Nat) : Int) := by
    show IntKind.i64.wrap ((BitVec.ofInt 64 n &&& BitVec.ofInt 64 4611686018427387903).toNat : Int) = _
    rw [BitVec.toNat_and, h2, IntWalk.i64_in _ (by omega)]
  rw [e]; omega
theorem cat_size (a b : ByteArray) : (a ++ b).size = a.size + b.size := ByteArray.size_append

set_option maxRecDepth 100000 in
set_option maxHeartbeats 1600000 in
theorem numberLimit_any (w : World) (n most : Int) (ht : Tabs w) :
    Calls Tryd.prog 5 #[.int .i64 n, .int .i64 most] w fun e w' => e = .returned (.bool true) ∧ Below w.heap.size w w' := by
  have HT := Lib.hid ht
  clear ht
  obtain ⟨k0, k1⟩ := and62 n
  obtain ⟨m0, m1⟩ := and62 most
  obtain ⟨k, hk⟩ : ∃ k, bits BinOp.and IntKind.i64 n 4611686018427387903 = k := ⟨_, rfl⟩
  obtain ⟨m, hm⟩ : ∃ m, bits BinOp.and IntKind.i64 most 4611686018427387903 = m := ⟨_, rfl⟩
  rw [hk] at k0 k1
  rw [hm] at m0 m1
  have HD : Hid (parseS 10 m (⟨#[48, 48]⟩ ++ fmtS 10 k) = if k ≤ m then (k, 0) else (0, 3)) := Lib.hid (parse_fmt0 (b := 10) (by decide) (by decide) k m k0)
  have HX : Hid (parseS 16 m (fmtS 16 k) = if k < 0 then (0, 2) else if k ≤ m then (k, 0) else (0, 3)) := Lib.hid (parse_fmt (b := 16) (by decide) (by decide) k m)
  have z1 := fmtS_size (b := 10) (by decide) k (by omega)
  have z2 := fmtS_max (b := 16) (by decide) k (by omega)
  have zc : (⟨#[48, 48]⟩ ++ fmtS 10 k : ByteArray).size ≤ maxLen := by
    rw [cat_size]; show 2 + _ ≤ _; unfold maxLen; omega
  have hadd : ∀ W, (Op.stringOp .add ⟨#[48, 48]⟩ (fmtS 10 k)).run Tryd.prog W = .ok (.string (⟨#[48, 48]⟩ ++ fmtS 10 k)) W := fun W =>
    run_string_add_sum (P := Tryd.prog) (w := W) _ _ (by show 2 + _ ≤ _; omega)
  by_cases hc : k ≤ m
  all_goals
    have HC := Lib.hid hc
    go_enter Tryd.func5, Tryd.ntmps5
    go_wp2_with fail
    refine (decimal_any _ _ (by omega) (by omega) HT.out).mono ?_
    rintro e w1 ⟨rfl, hb1⟩
    have HB1 := Lib.hid hb1
    clear hb1
    go_wp2_with fail
    refine (parseDecimal_any _ _ _ zc (by omega) (by omega)).mono ?_
    rintro e w5 ⟨he, rfl⟩
    first | rw [HD.out, if_pos HC.out] at he | rw [HD.out, if_neg (by have := HC.out; omega)] at he
    subst he
    go_wp2_with fail
    refine (hex_any _ _ (by omega) (by omega) (tabs_below HT.out HB1.out)).mono ?_
    rintro e w2 ⟨rfl, hb2⟩
    have HB2 := Lib.hid (below_trans HB1.out hb2)
    clear hb2
    go_wp2_with fail
    refine (parseHex_any _ _ _ z2 (by omega) (by omega)).mono ?_
    rintro e w5 ⟨he, rfl⟩
    first | rw [HX.out, if_neg (Int.not_lt.2 k0), if_pos HC.out] at he | rw [HX.out, if_neg (Int.not_lt.2 k0), if_neg (by have := HC.out; omega)] at he
    subst he
    go_wp2_with fail
    refine (numAwake_any _ (tabs_below HT.out HB2.out)).mono ?_
    rintro e w6 ⟨rfl, hb6⟩
    go_wp2_with fail
    go_ret
    exact ⟨rfl, below_trans HB2.out hb6⟩
end Go.Proofs.YtpianlannenagaaDoor
