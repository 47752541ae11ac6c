/- Contracts of the reference's functions that write a number. -/
import Derived.Test.YtpianlannenagaaDoorNumB
import Derived.IntWalk
import Derived.Laws.Concat
namespace Go.Proofs.YtpianlannenagaaDoor
open Go.RowKit

def hexS : ByteArray := ⟨#[48, 49, 50, 51, 52, 53, 54, 55, 56, 57, 97, 98, 99, 100, 101, 102]⟩
theorem hexS_piece_fin : ∀ d : Fin 16, (hexS.extract d.val (d.val + 1)).data.toList = [dgc d.val] := by decide +kernel
theorem hexS_piece {d : Nat} (h : d < 16) : (⟨#[48, 49, 50, 51, 52, 53, 54, 55, 56, 57, 97, 98, 99, 100, 101, 102]⟩ : ByteArray).extract d (d + 1) = ⟨#[dgc d]⟩ := by
  have := hexS_piece_fin ⟨d, h⟩
  apply ByteArray.ext
  apply Array.toList_inj.1
  exact this
theorem one_cat (c : UInt8) (t : List UInt8) : (⟨#[c]⟩ : ByteArray) ++ ⟨t.toArray⟩ = ⟨(c :: t).toArray⟩ := by
  apply ByteArray.ext; simp

set_option maxHeartbeats 1000000 in
theorem refBase10 (n : Nat) (w : World) (hn : (n : Int) ≤ 9223372036854775807) :
    Calls Tryd.prog 20 #[.int .i64 n, .int .i64 10] w fun e w' => e = .returned (.string (numeral 10 n)) ∧ ∃ j, w' = w.drewN j := by
  go_enter Tryd.func20, Tryd.ntmps20
  go_wp2
  go_loopw [5, 0] (fun s m wr => ∃ (k : Nat) (t : List UInt8) (j : Nat), (t.length : Int) + k ≤ n ∧ (t = [] ∨ 0 < k) ∧ m = .int .i64 k ∧ s = .string ⟨t.toArray⟩ ∧ wr = w.drewN j ∧ Hid (digs 10 n = digs 10 k ++ t)) (fun _ m _ => (intOf m).toNat)
  case atStart => exact ⟨n, [], 0, by simp, .inl rfl, rfl, rfl, by simp [World.drewN_zero], Lib.hid (by simp)⟩
  case round =>
    obtain ⟨k, t, j, hk, hne, rfl, rfl, rfl, HD⟩ := hrel
    have HNE := Lib.hid hne
    have hlen : t.length + 1 ≤ 9223372036854775807 := by
      rcases hne with rfl | h
      · simp
      · omega
    clear hne
    obtain ⟨d, hd⟩ : ∃ d : Nat, k % 10 = d := ⟨_, rfl⟩
    have hd9 : d < 10 := by omega
    have HDD := Lib.hid hd
    have hr : ((k : Int).tmod 10) = (d : Int) := by rw [Int.tmod_eq_emod_of_nonneg (by omega)]; omega
    clear hd
    have hw1 : IntKind.i64.wrap (d : Int) = (d : Int) := IntWalk.i64_in _ (by omega)
    have hw2 : IntKind.i64.wrap ((d : Int) + 1) = (d : Int) + 1 := IntWalk.i64_in _ (by omega)
    have hn1 : ((d : Int) + 1).toNat = d + 1 := by omega
    have hi1 : (0 : Int) ≤ d := by omega
    have hi2 : (0 : Int) ≤ d + 1 := by omega
    have hi3 : (d : Int) + 1 ≤ 16 := by omega
    have hi4 : d + 1 ≤ 16 := by omega
    have hi5 : (d : Int) ≤ d + 1 := by omega
    have hp := hexS_piece (d := d) (by omega)
    have hadd : ∀ W, (Op.stringOp .add ⟨#[dgc d]⟩ ⟨t.toArray⟩).run Tryd.prog W = .ok (.string ⟨(dgc d :: t).toArray⟩) W := fun W => by
      have h := run_string_add_sum (P := Tryd.prog) (w := W) ⟨#[dgc d]⟩ ⟨t.toArray⟩ (by show 1 + (t.toArray).size ≤ _; simp; omega)
      rw [one_cat] at h; exact h
    go_wp2_with fail
    go_quiet (fail)
    clear hr hw1 hw2 hn1 hp hadd hi4
    have hq : (k : Int) / 10 = ((k / 10 : Nat) : Int) := by omega
    by_cases hz : k / 10 = 0
    · have hz1 : (k : Int) / 10 = 0 := by omega
      have HZ := Lib.hid hz
      clear hz hq
      go_wp2
      go_ret
      refine ⟨ret_str ?_, _, rfl⟩
      have hs : k < 10 := by have := HZ.out; omega
      unfold numeral
      rw [HD.out, digs_small hs]
      have : k % 10 = k := Nat.mod_eq_of_lt hs
      rw [← HDD.out, this]; rfl
    · have HZ := Lib.hid hz
      have hz2 : ¬ (k : Int) / 10 = 0 := by omega
      clear hz hq
      go_wp2
      go_roundw
      case rel =>
        have hz := HZ.out
        refine ⟨k / 10, dgc d :: t, _, by simp; omega, .inr (by omega), by first | rfl | simp, rfl, rfl, Lib.hid ?_⟩
        rw [HD.out, digs_big (by omega) (show ¬ k < 10 by omega), ← HDD.out]; simp
      case measure => have hz := HZ.out; simp [intOf]; omega

set_option maxHeartbeats 1000000 in
theorem refBase16 (n : Nat) (w : World) (hn : (n : Int) ≤ 9223372036854775807) :
    Calls Tryd.prog 20 #[.int .i64 n, .int .i64 16] w fun e w' => e = .returned (.string (numeral 16 n)) ∧ ∃ j, w' = w.drewN j := by
  go_enter Tryd.func20, Tryd.ntmps20
  go_wp2
  go_loopw [5, 0] (fun s m wr => ∃ (k : Nat) (t : List UInt8) (j : Nat), (t.length : Int) + k ≤ n ∧ (t = [] ∨ 0 < k) ∧ m = .int .i64 k ∧ s = .string ⟨t.toArray⟩ ∧ wr = w.drewN j ∧ Hid (digs 16 n = digs 16 k ++ t)) (fun _ m _ => (intOf m).toNat)
  case atStart => exact ⟨n, [], 0, by simp, .inl rfl, rfl, rfl, by simp [World.drewN_zero], Lib.hid (by simp)⟩
  case round =>
    obtain ⟨k, t, j, hk, hne, rfl, rfl, rfl, HD⟩ := hrel
    have HNE := Lib.hid hne
    have hlen : t.length + 1 ≤ 9223372036854775807 := by
      rcases hne with rfl | h
      · simp
      · omega
    clear hne
    obtain ⟨d, hd⟩ : ∃ d : Nat, k % 16 = d := ⟨_, rfl⟩
    have hd9 : d < 16 := by omega
    have HDD := Lib.hid hd
    have hr : ((k : Int).tmod 16) = (d : Int) := by rw [Int.tmod_eq_emod_of_nonneg (by omega)]; omega
    clear hd
    have hw1 : IntKind.i64.wrap (d : Int) = (d : Int) := IntWalk.i64_in _ (by omega)
    have hw2 : IntKind.i64.wrap ((d : Int) + 1) = (d : Int) + 1 := IntWalk.i64_in _ (by omega)
    have hn1 : ((d : Int) + 1).toNat = d + 1 := by omega
    have hi1 : (0 : Int) ≤ d := by omega
    have hi2 : (0 : Int) ≤ d + 1 := by omega
    have hi3 : (d : Int) + 1 ≤ 16 := by omega
    have hi4 : d + 1 ≤ 16 := by omega
    have hi5 : (d : Int) ≤ d + 1 := by omega
    have hp := hexS_piece (d := d) (by omega)
    have hadd : ∀ W, (Op.stringOp .add ⟨#[dgc d]⟩ ⟨t.toArray⟩).run Tryd.prog W = .ok (.string ⟨(dgc d :: t).toArray⟩) W := fun W => by
      have h := run_string_add_sum (P := Tryd.prog) (w := W) ⟨#[dgc d]⟩ ⟨t.toArray⟩ (by show 1 + (t.toArray).size ≤ _; simp; omega)
      rw [one_cat] at h; exact h
    go_wp2_with fail
    go_quiet (fail)
    clear hr hw1 hw2 hn1 hp hadd hi4
    have hq : (k : Int) / 16 = ((k / 16 : Nat) : Int) := by omega
    by_cases hz : k / 16 = 0
    · have hz1 : (k : Int) / 16 = 0 := by omega
      have HZ := Lib.hid hz
      clear hz hq
      go_wp2
      go_ret
      refine ⟨ret_str ?_, _, rfl⟩
      have hs : k < 16 := by have := HZ.out; omega
      unfold numeral
      rw [HD.out, digs_small hs]
      have : k % 16 = k := Nat.mod_eq_of_lt hs
      rw [← HDD.out, this]; rfl
    · have HZ := Lib.hid hz
      have hz2 : ¬ (k : Int) / 16 = 0 := by omega
      clear hz hq
      go_wp2
      go_roundw
      case rel =>
        have hz := HZ.out
        refine ⟨k / 16, dgc d :: t, _, by simp; omega, .inr (by omega), by first | rfl | simp, rfl, rfl, Lib.hid ?_⟩
        rw [HD.out, digs_big (by omega) (show ¬ k < 16 by omega), ← HDD.out]; simp
      case measure => have hz := HZ.out; simp [intOf]; omega

def fmtS (b : Nat) (n : Int) : ByteArray := if n < 0 then ⟨#[]⟩ else numeral b n.toNat
theorem below_drewN (w : World) (j : Nat) : Below w.heap.size w (w.drewN j) := ⟨rfl, rfl, rfl, Nat.le_refl _, fun _ _ => rfl⟩
theorem refBase_neg (n b : Int) (w : World) (hn : n < 0) :
    Calls Tryd.prog 20 #[.int .i64 n, .int .i64 b] w fun e w' => e = .returned (.string ⟨#[]⟩) ∧ w = w' := by
  go_enter Tryd.func20, Tryd.ntmps20
  go_wp2
  go_ret
  exact ⟨rfl, rfl⟩

theorem refDecimal_any (n : Int) (w : World) (h0 : -9223372036854775808 ≤ n) (h1 : n ≤ 9223372036854775807) :
    Calls Tryd.prog 10 #[.int .i64 n] w fun e w' => e = .returned (.string (fmtS 10 n)) ∧ Below w.heap.size w w' := by
  by_cases hn : n < 0
  · go_enter Tryd.func10, Tryd.ntmps10
    go_wp2_with (go_at_call 20; refine (refBase_neg _ _ _ hn).mono ?_; rintro e w' ⟨rfl, rfl⟩)
    go_ret
    exact ⟨ret_str (by unfold fmtS; rw [if_pos hn]), Below.refl _ _⟩
  · obtain ⟨k, rfl⟩ : ∃ k : Nat, n = k := ⟨n.toNat, by omega⟩
    go_enter Tryd.func10, Tryd.ntmps10
    go_wp2_with (go_at_call 20; refine (refBase10 _ _ (by omega)).mono ?_; rintro e w' ⟨rfl, j, rfl⟩)
    go_ret
    exact ⟨ret_str (by unfold fmtS; rw [if_neg (by omega)]; rfl), below_drewN _ _⟩
theorem refHex_any (n : Int) (w : World) (h0 : -9223372036854775808 ≤ n) (h1 : n ≤ 9223372036854775807) :
    Calls Tryd.prog 11 #[.int .i64 n] w fun e w' => e = .returned (.string (fmtS 16 n)) ∧ Below w.heap.size w w' := by
  by_cases hn : n < 0
  · go_enter Tryd.func11, Tryd.ntmps11
    go_wp2_with (go_at_call 20; refine (refBase_neg _ _ _ hn).mono ?_; rintro e w' ⟨rfl, rfl⟩)
    go_ret
    exact ⟨ret_str (by unfold fmtS; rw [if_pos hn]), Below.refl _ _⟩
  · obtain ⟨k, rfl⟩ : ∃ k : Nat, n = k := ⟨n.toNat, by omega⟩
    go_enter Tryd.func11, Tryd.ntmps11
    go_wp2_with (go_at_call 20; refine (refBase16 _ _ (by omega)).mono ?_; rintro e w' ⟨rfl, j, rfl⟩)
    go_ret
    exact ⟨ret_str (by unfold fmtS; rw [if_neg (by omega)]; rfl), below_drewN _ _⟩
end Go.Proofs.YtpianlannenagaaDoor
