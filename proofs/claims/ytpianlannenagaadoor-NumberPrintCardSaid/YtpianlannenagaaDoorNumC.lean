/- Contracts of Add, of package number and of its reference. -/
import Derived.Test.YtpianlannenagaaDoorNumB
namespace Go.Proofs.YtpianlannenagaaDoor
open Go.RowKit

/-- The sum of the numbers that are not negative, from acc on, at most most. -/
def sumGo (most : Int) : Int → List Int → Int
  | acc, [] => acc
  | acc, n :: r => if max n 0 > most - acc then most else sumGo most (acc + max n 0) r
def addS (most : Int) (l : List Int) : Int := if most < 0 then 0 else sumGo most 0 l
theorem sumGo_bd (most : Int) : ∀ (l : List Int) (acc : Int), 0 ≤ acc → acc ≤ most → 0 ≤ sumGo most acc l ∧ sumGo most acc l ≤ most
  | [], acc, h0, h1 => ⟨h0, h1⟩
  | n :: r, acc, h0, h1 => by
    rw [sumGo]; split
    · omega
    · exact sumGo_bd most r _ (by omega) (by omega)
theorem addS_bd (most : Int) (l : List Int) : 0 ≤ addS most l ∧ (most < 0 ∨ addS most l ≤ most) := by
  unfold addS; split
  · omega
  · have := sumGo_bd most l 0 (by omega) (by omega); omega
/-- The exact sum. -/
def sumX : List Int → Int
  | [] => 0
  | n :: r => max n 0 + sumX r
theorem sumX_nn : ∀ l, 0 ≤ sumX l
  | [] => Int.le_refl _
  | n :: r => by have := sumX_nn r; rw [sumX]; omega
theorem sumGo_eq (most : Int) : ∀ (l : List Int) (acc : Int), 0 ≤ acc → acc ≤ most → sumGo most acc l = min most (acc + sumX l)
  | [], acc, h0, h1 => by rw [sumGo, sumX]; omega
  | n :: r, acc, h0, h1 => by
    have := sumX_nn r
    rw [sumGo, sumX]; split
    · omega
    · rw [sumGo_eq most r _ (by omega) (by omega)]; omega
theorem addS_eq (most : Int) (l : List Int) : addS most l = if most < 0 then 0 else min most (sumX l) := by
  unfold addS; split
  · rfl
  · rw [sumGo_eq most l 0 (by omega) (by omega)]; omega

/-- The slice at a reads as the numbers l. -/
def IsInts (w : World) (a : Option Addr) (l : List Int) (cap : Nat) : Prop :=
  (a = none ∧ l = [] ∧ cap = 0) ∨ ∃ x, a = some x ∧ l.length ≤ cap ∧ cap ≤ maxLen ∧ ∀ j (hj : j < l.length), w.cell? (x.add j) = some (.int .i64 l[j]) ∧ -9223372036854775808 ≤ l[j] ∧ l[j] ≤ 9223372036854775807

theorem drop_int (l : List Int) (k : Nat) (h : k < l.length) : l.drop k = l[k] :: l.drop (k + 1) := List.drop_eq_getElem_cons h

theorem max_if (n : Int) : max n 0 = if n < 0 then 0 else n := by split <;> omega

set_option maxHeartbeats 1000000 in
theorem numAdd_any (most : Int) (l : List Int) (a : Option Addr) (cap : Nat) (w : World) (hm0 : -9223372036854775808 ≤ most) (hm1 : most ≤ 9223372036854775807) (ha : IsInts w a l cap) :
    Calls Tryd.prog 17 #[.int .i64 most, .slice a l.length cap] w fun e w' => e = .returned (.int .i64 (addS most l)) ∧ w = w' := by
  have hlen : l.length ≤ 2 ^ 63 - 1 := by
    rcases ha with ⟨_, rfl, _⟩ | ⟨x, _, h1, h2, _⟩
    · simp
    · unfold maxLen at h2; omega
  have HA := Lib.hid ha
  clear ha
  by_cases hmost : most < 0
  · have HS := Lib.hid (show addS most l = 0 by unfold addS; rw [if_pos hmost])
    go_enter Tryd.func17, Tryd.ntmps17
    go_wp2
    go_ret
    exact ⟨ret_int HS.out.symm, rfl⟩
  · have HS := Lib.hid (show addS most l = sumGo most 0 l by unfold addS; rw [if_neg hmost])
    go_enter Tryd.func17, Tryd.ntmps17
    go_wp2
    go_loop [5, 12] (fun n i => ∃ (k : Nat) (acc : Int), k ≤ l.length ∧ i = .int .i64 k ∧ n = .int .i64 acc ∧ 0 ≤ acc ∧ acc ≤ most ∧ Hid (addS most l = sumGo most acc (l.drop k))) (fun _ i => l.length - (intOf i).toNat)
    case atStart => exact ⟨0, 0, Nat.zero_le _, rfl, rfl, by omega, by omega, Lib.hid (by rw [HS.out]; rfl)⟩
    case round =>
      obtain ⟨k, acc, hk, rfl, rfl, ha0, ha1, HG⟩ := hrel
      by_cases hlt : k < l.length
      · obtain ⟨x, rfl, hc, b0, b1⟩ : ∃ x, a = some x ∧ w.cell? (x.add k) = some (.int .i64 l[k]) ∧ -9223372036854775808 ≤ l[k] ∧ l[k] ≤ 9223372036854775807 := by
          rcases HA.out with ⟨_, h, _⟩ | ⟨x, h, _, _, hh⟩
          · rw [h] at hlt; simp at hlt
          · exact ⟨x, h, hh k hlt⟩
        by_cases hq : l[k] > most - acc
        · go_wp2
          go_ret
          exact ⟨ret_int (by rw [HG.out, drop_int l k hlt, sumGo, if_pos (by omega)]), rfl⟩
        · go_wp2
          all_goals go_round
          case rel => exact ⟨k + 1, _, by omega, by go_num, rfl, by omega, by omega, Lib.hid (by rw [HG.out, drop_int l k hlt, sumGo, if_neg (by omega), max_if])⟩
          case measure => simp [intOf]; omega
      · go_wp2
        go_ret
        exact ⟨ret_int (by rw [HG.out, List.drop_of_length_le (by omega)]; rfl), rfl⟩
set_option maxHeartbeats 1000000 in
theorem refAdd_any (most : Int) (l : List Int) (a : Option Addr) (cap : Nat) (w : World) (hm0 : -9223372036854775808 ≤ most) (hm1 : most ≤ 9223372036854775807) (ha : IsInts w a l cap) :
    Calls Tryd.prog 18 #[.int .i64 most, .slice a l.length cap] w fun e w' => e = .returned (.int .i64 (addS most l)) ∧ w = w' := by
  have hlen : l.length ≤ 2 ^ 63 - 1 := by
    rcases ha with ⟨_, rfl, _⟩ | ⟨x, _, h1, h2, _⟩
    · simp
    · unfold maxLen at h2; omega
  have HA := Lib.hid ha
  clear ha
  by_cases hmost : most < 0
  · have HS := Lib.hid (show addS most l = 0 by unfold addS; rw [if_pos hmost])
    go_enter Tryd.func18, Tryd.ntmps18
    go_wp2
    go_ret
    exact ⟨ret_int HS.out.symm, rfl⟩
  · have HS := Lib.hid (show addS most l = sumGo most 0 l by unfold addS; rw [if_neg hmost])
    go_enter Tryd.func18, Tryd.ntmps18
    go_wp2
    go_loop [5, 6] (fun n i => ∃ (k : Nat) (acc : Int), k ≤ l.length ∧ i = .int .i64 k ∧ n = .int .i64 acc ∧ 0 ≤ acc ∧ acc ≤ most ∧ Hid (addS most l = sumGo most acc (l.drop k))) (fun _ i => l.length - (intOf i).toNat)
    case atStart => exact ⟨0, 0, Nat.zero_le _, rfl, rfl, by omega, by omega, Lib.hid (by rw [HS.out]; rfl)⟩
    case round =>
      obtain ⟨k, acc, hk, rfl, rfl, ha0, ha1, HG⟩ := hrel
      by_cases hlt : k < l.length
      · obtain ⟨x, rfl, hc, b0, b1⟩ : ∃ x, a = some x ∧ w.cell? (x.add k) = some (.int .i64 l[k]) ∧ -9223372036854775808 ≤ l[k] ∧ l[k] ≤ 9223372036854775807 := by
          rcases HA.out with ⟨_, h, _⟩ | ⟨x, h, _, _, hh⟩
          · rw [h] at hlt; simp at hlt
          · exact ⟨x, h, hh k hlt⟩
        by_cases hq : l[k] > most - acc
        · go_wp2
          go_ret
          exact ⟨ret_int (by rw [HG.out, drop_int l k hlt, sumGo, if_pos (by omega)]), rfl⟩
        · go_wp2
          all_goals go_round
          case rel => exact ⟨k + 1, _, by omega, by go_num, rfl, by omega, by omega, Lib.hid (by rw [HG.out, drop_int l k hlt, sumGo, if_neg (by omega), max_if])⟩
          case measure => simp [intOf]; omega
      · go_wp2
        go_ret
        exact ⟨ret_int (by rw [HG.out, List.drop_of_length_le (by omega)]; rfl), rfl⟩
end Go.Proofs.YtpianlannenagaaDoor
