/- Contracts of the functions that read a number, of package number and of its reference. -/
import Derived.Test.YtpianlannenagaaDoorAsciiA
import Derived.Test.YtpianlannenagaaDoorNumMath
namespace Go.Proofs.YtpianlannenagaaDoor
open Go.RowKit

theorem ret_pair {k : IntKind} {a b : Int} {p : Int × Int} (h : p = (a, b)) : Ending.returned (.tuple #[.int .i64 a, .int k b]) = .returned (.tuple #[.int .i64 p.1, .int k p.2]) := by rw [h]

set_option maxHeartbeats 400000 in
theorem numDigit_any (c : Int) (w : World) (h0 : 0 ≤ c) (h1 : c ≤ 255) :
    Calls Tryd.prog 25 #[.int .u8 c] w fun e w' => e = .returned (.int .i64 (dv c)) ∧ w = w' := by
  go_enter Tryd.func25, Tryd.ntmps25
  go_wp2
  all_goals go_ret
  all_goals exact ⟨ret_int (by unfold dv; (repeat' split) <;> omega), rfl⟩

def dr (b c : Int) : Int := if dv c < b then dv c else -1
set_option maxHeartbeats 400000 in
theorem refDigit_any (c b : Int) (w : World) (h0 : 0 ≤ c) (h1 : c ≤ 255) (hb1 : 2 ≤ b) (hb2 : b ≤ 16) :
    Calls Tryd.prog 26 #[.int .u8 c, .int .i64 b] w fun e w' => e = .returned (.int .i64 (dr b c)) ∧ w = w' := by
  go_enter Tryd.func26, Tryd.ntmps26
  go_wp2_with (go_at_call 28; go_in)
  all_goals go_ret
  all_goals exact ⟨ret_int (by unfold dr dv; (repeat' split) <;> omega), rfl⟩

theorem numS_no {b : Int} {s : ByteArray} {k : Nat} (hlt : k < s.size) (hc : numB b s[k] = false) : numS b s = false := by
  unfold numS
  have : s.data.toList.all (numB b) = false := by
    rw [Bool.eq_false_iff]; intro h
    have := List.all_eq_true.1 h _ (mem_at s k hlt); rw [hc] at this; cases this
  rw [this]; rfl
theorem numS_yes {b : Int} {s : ByteArray} {k : Nat} (hk : k ≤ s.size) (hlt : ¬ k < s.size) (h : (s.data.toList.take k).all (numB b) = true) : numS b s = !s.data.toList.isEmpty := by
  rw [take_all s k hk hlt] at h; unfold numS; rw [h]; rfl

set_option maxHeartbeats 400000 in
theorem isNumeral_any (s : ByteArray) (b : Int) (w : World) (hs : s.size ≤ maxLen) :
    Calls Tryd.prog 24 #[.string s, .int .i64 b] w fun e w' => e = .returned (.bool (numS b s)) ∧ w = w' := by
  unfold maxLen at hs
  go_enter Tryd.func24, Tryd.ntmps24
  go_wp2
  go_loop [8] (fun i => ∃ k : Nat, k ≤ s.size ∧ i = .int .i64 k ∧ Hid ((s.data.toList.take k).all (numB b) = true)) (fun i => s.size - (intOf i).toNat)
  case atStart => exact ⟨0, Nat.zero_le _, rfl, Lib.hid (by simp)⟩
  case round =>
    obtain ⟨k, hk, rfl, HP⟩ := hrel
    by_cases hlt : k < s.size
    · have b1 : (s[k].toNat : Int) ≤ 255 := by have := s[k].toNat_lt; omega
      by_cases hc : b ≤ dv s[k].toNat
      · go_wp2_with (go_at_call 25; refine (numDigit_any _ _ (by omega) (by omega)).mono ?_; rintro e w' ⟨rfl, rfl⟩)
        go_ret
        exact ⟨ret_bool (numS_no hlt (by unfold numB; simpa using hc)).symm, rfl⟩
      · go_wp2_with (go_at_call 25; refine (numDigit_any _ _ (by omega) (by omega)).mono ?_; rintro e w' ⟨rfl, rfl⟩)
        go_round
        case rel => exact ⟨k + 1, by omega, by go_num, Lib.hid (by rw [take_snoc s k hlt, List.all_append, HP.out]; unfold numB; simpa using hc)⟩
        case measure => simp [intOf]; omega
    · go_wp2
      go_ret
      exact ⟨ret_bool (by rw [numS_yes hk hlt HP.out]; simp [toList_isEmpty]), rfl⟩

set_option maxHeartbeats 1000000 in
theorem numParse_yes10 (s : ByteArray) (most : Int) (w : World) (hs : s.size ≤ maxLen) (hn : numS 10 s = true) (hm0 : -9223372036854775808 ≤ most) (hm1 : most ≤ 9223372036854775807) :
    Calls Tryd.prog 21 #[.string s, .int .i64 10, .int .i64 most] w fun e w' => e = .returned (.tuple #[.int .i64 (parseS 10 most s).1, .int .i64 (parseS 10 most s).2]) ∧ w = w' := by
  unfold maxLen at hs
  have hp : parseS 10 most s = pgo 10 most 0 s.data.toList := by unfold parseS; rw [if_pos hn]
  have HP := Lib.hid hp
  clear hp
  go_enter Tryd.func21, Tryd.ntmps21
  go_wp2_with (go_at_call 24; refine (isNumeral_any _ _ _ (by unfold maxLen; omega)).mono ?_; rintro e w' ⟨rfl, rfl⟩)
  go_loop [8, 17] (fun n i => ∃ (k : Nat) (acc : Int), k ≤ s.size ∧ i = .int .i64 k ∧ n = .int .i64 acc ∧ 0 ≤ acc ∧ acc ≤ 9223372036854775807 ∧ Hid (parseS 10 most s = pgo 10 most acc (s.data.toList.drop k))) (fun _ i => s.size - (intOf i).toNat)
  case atStart => exact ⟨0, 0, Nat.zero_le _, rfl, rfl, by omega, by omega, Lib.hid (by rw [HP.out]; rfl)⟩
  case round =>
    obtain ⟨k, acc, hk, rfl, rfl, ha0, ha1, HG⟩ := hrel
    by_cases hlt : k < s.size
    · have b1 : (s[k].toNat : Int) ≤ 255 := by have := s[k].toNat_lt; omega
      have b2 := dv_bd s[k].toNat
      obtain ⟨b20, b21⟩ := b2
      by_cases hd : dv s[k].toNat ≤ most
      · by_cases hq : acc ≤ (most - dv s[k].toNat) / 10
        · go_wp2_with (go_at_call 25; refine (numDigit_any _ _ (by omega) (by omega)).mono ?_; rintro e w' ⟨rfl, rfl⟩)
          go_round
          case rel => exact ⟨k + 1, _, by omega, by go_num, rfl, by omega, by omega, Lib.hid (by rw [HG.out, drop_cons s k hlt, pgo_go hd hq])⟩
          case measure => simp [intOf]; omega
        · go_wp2_with (go_at_call 25; refine (numDigit_any _ _ (by omega) (by omega)).mono ?_; rintro e w' ⟨rfl, rfl⟩)
          go_ret2
          exact ⟨ret_pair (by rw [HG.out, drop_cons s k hlt, pgo_no (.inr (by omega))]), rfl⟩
      · go_wp2_with (go_at_call 25; refine (numDigit_any _ _ (by omega) (by omega)).mono ?_; rintro e w' ⟨rfl, rfl⟩)
        go_ret2
        exact ⟨ret_pair (by rw [HG.out, drop_cons s k hlt, pgo_no (.inl (by omega))]), rfl⟩
    · go_wp2
      go_ret2
      exact ⟨ret_pair (by rw [HG.out, List.drop_of_length_le (by simp; omega)]; rfl), rfl⟩

set_option maxHeartbeats 1000000 in
theorem numParse_yes16 (s : ByteArray) (most : Int) (w : World) (hs : s.size ≤ maxLen) (hn : numS 16 s = true) (hm0 : -9223372036854775808 ≤ most) (hm1 : most ≤ 9223372036854775807) :
    Calls Tryd.prog 21 #[.string s, .int .i64 16, .int .i64 most] w fun e w' => e = .returned (.tuple #[.int .i64 (parseS 16 most s).1, .int .i64 (parseS 16 most s).2]) ∧ w = w' := by
  unfold maxLen at hs
  have hp : parseS 16 most s = pgo 16 most 0 s.data.toList := by unfold parseS; rw [if_pos hn]
  have HP := Lib.hid hp
  clear hp
  go_enter Tryd.func21, Tryd.ntmps21
  go_wp2_with (go_at_call 24; refine (isNumeral_any _ _ _ (by unfold maxLen; omega)).mono ?_; rintro e w' ⟨rfl, rfl⟩)
  go_loop [8, 17] (fun n i => ∃ (k : Nat) (acc : Int), k ≤ s.size ∧ i = .int .i64 k ∧ n = .int .i64 acc ∧ 0 ≤ acc ∧ acc ≤ 9223372036854775807 ∧ Hid (parseS 16 most s = pgo 16 most acc (s.data.toList.drop k))) (fun _ i => s.size - (intOf i).toNat)
  case atStart => exact ⟨0, 0, Nat.zero_le _, rfl, rfl, by omega, by omega, Lib.hid (by rw [HP.out]; rfl)⟩
  case round =>
    obtain ⟨k, acc, hk, rfl, rfl, ha0, ha1, HG⟩ := hrel
    by_cases hlt : k < s.size
    · have b1 : (s[k].toNat : Int) ≤ 255 := by have := s[k].toNat_lt; omega
      have b2 := dv_bd s[k].toNat
      obtain ⟨b20, b21⟩ := b2
      by_cases hd : dv s[k].toNat ≤ most
      · by_cases hq : acc ≤ (most - dv s[k].toNat) / 16
        · go_wp2_with (go_at_call 25; refine (numDigit_any _ _ (by omega) (by omega)).mono ?_; rintro e w' ⟨rfl, rfl⟩)
          go_round
          case rel => exact ⟨k + 1, _, by omega, by go_num, rfl, by omega, by omega, Lib.hid (by rw [HG.out, drop_cons s k hlt, pgo_go hd hq])⟩
          case measure => simp [intOf]; omega
        · go_wp2_with (go_at_call 25; refine (numDigit_any _ _ (by omega) (by omega)).mono ?_; rintro e w' ⟨rfl, rfl⟩)
          go_ret2
          exact ⟨ret_pair (by rw [HG.out, drop_cons s k hlt, pgo_no (.inr (by omega))]), rfl⟩
      · go_wp2_with (go_at_call 25; refine (numDigit_any _ _ (by omega) (by omega)).mono ?_; rintro e w' ⟨rfl, rfl⟩)
        go_ret2
        exact ⟨ret_pair (by rw [HG.out, drop_cons s k hlt, pgo_no (.inl (by omega))]), rfl⟩
    · go_wp2
      go_ret2
      exact ⟨ret_pair (by rw [HG.out, List.drop_of_length_le (by simp; omega)]; rfl), rfl⟩

set_option maxHeartbeats 1000000 in
theorem numParse_any (s : ByteArray) (b most : Int) (w : World) (hs : s.size ≤ maxLen) (hb : b = 10 ∨ b = 16) (hm0 : -9223372036854775808 ≤ most) (hm1 : most ≤ 9223372036854775807) :
    Calls Tryd.prog 21 #[.string s, .int .i64 b, .int .i64 most] w fun e w' => e = .returned (.tuple #[.int .i64 (parseS b most s).1, .int .i64 (parseS b most s).2]) ∧ w = w' := by
  by_cases hn : numS b s = true
  · rcases hb with rfl | rfl
    · exact numParse_yes10 s most w hs hn hm0 hm1
    · exact numParse_yes16 s most w hs hn hm0 hm1
  · unfold maxLen at hs
    have hn' : numS b s = false := by simpa using hn
    clear hn
    have hp : parseS b most s = (0, 2) := by unfold parseS; rw [hn']; rfl
    have HP := Lib.hid hp
    clear hp
    go_enter Tryd.func21, Tryd.ntmps21
    go_wp2_with (go_at_call 24; refine (isNumeral_any _ _ _ (by unfold maxLen; omega)).mono ?_; rintro e w' ⟨rfl, rfl⟩)
    go_ret2
    exact ⟨ret_pair HP.out, rfl⟩

theorem parseDecimal_any (s : ByteArray) (most : Int) (w : World) (hs : s.size ≤ maxLen) (hm0 : -9223372036854775808 ≤ most) (hm1 : most ≤ 9223372036854775807) :
    Calls Tryd.prog 12 #[.string s, .int .i64 most] w fun e w' => e = .returned (.tuple #[.int .i64 (parseS 10 most s).1, .int .i64 (parseS 10 most s).2]) ∧ w = w' := by
  go_enter Tryd.func12, Tryd.ntmps12
  go_wp2_with (go_at_call 21; refine (numParse_any _ _ _ _ hs (by omega) hm0 hm1).mono ?_; rintro e w' ⟨rfl, rfl⟩)
  go_ret2
  exact ⟨rfl, rfl⟩
theorem parseHex_any (s : ByteArray) (most : Int) (w : World) (hs : s.size ≤ maxLen) (hm0 : -9223372036854775808 ≤ most) (hm1 : most ≤ 9223372036854775807) :
    Calls Tryd.prog 13 #[.string s, .int .i64 most] w fun e w' => e = .returned (.tuple #[.int .i64 (parseS 16 most s).1, .int .i64 (parseS 16 most s).2]) ∧ w = w' := by
  go_enter Tryd.func13, Tryd.ntmps13
  go_wp2_with (go_at_call 21; refine (numParse_any _ _ _ _ hs (by omega) hm0 hm1).mono ?_; rintro e w' ⟨rfl, rfl⟩)
  go_ret2
  exact ⟨rfl, rfl⟩
end Go.Proofs.YtpianlannenagaaDoor
