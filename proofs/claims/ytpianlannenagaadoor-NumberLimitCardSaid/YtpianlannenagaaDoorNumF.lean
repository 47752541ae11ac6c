/- The contracts of awake and of the laws of layer 2. -/
import Derived.Test.YtpianlannenagaaDoorNumE
import Derived.Test.YtpianlannenagaaDoorNumC
import Derived.Test.YtpianlannenagaaDoorBytes
import Derived.Lib.LaidTab
import Derived.LaidSub
namespace Go.Proofs.YtpianlannenagaaDoor
open Go.RowKit

theorem digs_len {b : Nat} (hb : 2 ≤ b) : ∀ (k n : Nat), n < 2 ^ k → 1 ≤ k → (digs b n).length ≤ k
  | 0, n, _, h => absurd h (by omega)
  | k + 1, n, hn, _ => by
    by_cases h : n < b
    · rw [digs_small h]; simp
    · rw [digs_big hb h, List.length_append]
      have h1 : n / b ≤ n / 2 := Nat.div_le_div_left hb (by omega)
      have h2 : n / 2 < 2 ^ k := by rw [Nat.pow_succ] at hn; omega
      have h3 : 1 ≤ n / b := by
        have : b / b ≤ n / b := Nat.div_le_div_right (by omega)
        rw [Nat.div_self (by omega)] at this; exact this
      have hk : 1 ≤ k := by
        match k, h2 with
        | 0, h2 => simp at h2; omega
        | k + 1, _ => omega
      have := digs_len hb k (n / b) (by omega) hk
      simp; omega
theorem fmtS_size {b : Nat} (hb : 2 ≤ b) (n : Int) (h1 : n ≤ 9223372036854775807) : (fmtS b n).size ≤ 64 := by
  unfold fmtS; split
  · decide
  · show (digs b n.toNat).toArray.size ≤ 64
    simpa using digs_len hb 64 n.toNat (by have : (2 : Nat) ^ 64 = 18446744073709551616 := by decide
                                           omega) (by omega)
theorem fmtS_max {b : Nat} (hb : 2 ≤ b) (n : Int) (h1 : n ≤ 9223372036854775807) : (fmtS b n).size ≤ maxLen := Nat.le_trans (fmtS_size hb n h1) (by decide)
theorem parse_fmt {b : Nat} (hb : 2 ≤ b) (hb16 : b ≤ 16) (n most : Int) : parseS b most (fmtS b n) = if n < 0 then (0, 2) else if n ≤ most then (n, 0) else (0, 3) := by
  unfold fmtS; split
  · exact parse_empty _ _
  · rw [parse_numeral hb hb16]
    have : ((n.toNat : Nat) : Int) = n := by omega
    rw [this]
theorem parse_fmt0 {b : Nat} (hb : 2 ≤ b) (hb16 : b ≤ 16) (n most : Int) (h : 0 ≤ n) : parseS b most (⟨#[48, 48]⟩ ++ fmtS b n) = if n ≤ most then (n, 0) else (0, 3) := by
  unfold fmtS; rw [if_neg (by omega), parse_zeros hb hb16]
  have : ((n.toNat : Nat) : Int) = n := by omega
  rw [this]
theorem below_alloc' (w : World) (o : Obj) : Below w.heap.size w (w.alloc o) := (Below.refl _ _).alloc (Nat.le_refl _) _
theorem isInts_new (w : World) (l : List Int) (hl : l.length ≤ 1000) (h : ∀ x ∈ l, -9223372036854775808 ≤ x ∧ x ≤ 9223372036854775807) : IsInts (w.alloc (.cells (l.map (Value.int .i64)).toArray 3)) (some ⟨w.heap.size, 0, none⟩) l l.length := by
  refine .inr ⟨_, rfl, Nat.le_refl _, by unfold maxLen; omega, fun j hj => ⟨?_, h _ (List.getElem_mem _)⟩⟩
  rw [Addr.add_lit, World.cell?_alloc_new]; simp [hj]

set_option maxRecDepth 100000 in
set_option maxHeartbeats 800000 in
theorem numAwake_any (w : World) (ht : Tabs w) :
    Calls Tryd.prog 14 #[] w fun e w' => e = .returned (.bool true) ∧ Below w.heap.size w w' := by
  have HT := Lib.hid ht
  clear ht
  go_enter Tryd.func14, Tryd.ntmps14
  go_wp2_with fail
  refine (parseHex_any _ _ _ (by decide) (by decide) (by decide)).mono ?_
  rintro e w1 ⟨he, rfl⟩
  rw [show parseS 16 20 ⟨#[48, 70]⟩ = (15, 0) by decide +kernel] at he
  subst he
  go_wp2_with fail
  refine (parseDecimal_any _ _ _ (by decide) (by decide) (by decide)).mono ?_
  rintro e w1 ⟨he, rfl⟩
  rw [show parseS 10 20 ⟨#[50, 49]⟩ = (0, 3) by decide +kernel] at he
  subst he
  go_wp2_with fail
  refine (hex_any _ _ (by decide) (by decide) HT.out).mono ?_
  rintro e w1 ⟨he, hb1⟩
  rw [show fmtS 16 255 = ⟨#[102, 102]⟩ by decide +kernel] at he
  subst he
  have HB1 := Lib.hid hb1
  clear hb1
  go_wp2_with fail
  refine (decimal_any _ _ (by decide) (by decide) (tabs_below HT.out HB1.out)).mono ?_
  rintro e w2 ⟨he, hb2⟩
  rw [show fmtS 10 10 = ⟨#[49, 48]⟩ by decide +kernel] at he
  subst he
  have HB2 := Lib.hid (below_trans HB1.out hb2)
  clear hb2
  go_wp2_with fail
  refine (numAdd_any 10 [7, -3, 8] _ _ _ (by decide) (by decide) (isInts_new w2 [7, -3, 8] (by decide) (by decide))).mono ?_
  rintro e w3 ⟨he, rfl⟩
  rw [show addS 10 [7, -3, 8] = 10 by decide +kernel] at he
  subst he
  go_wp2_with fail
  go_ret
  exact ⟨rfl, below_trans HB2.out (below_alloc' _ _)⟩
end Go.Proofs.YtpianlannenagaaDoor
