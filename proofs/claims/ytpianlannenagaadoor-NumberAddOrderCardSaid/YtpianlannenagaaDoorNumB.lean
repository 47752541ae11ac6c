/- Contracts of the functions of the reference that read and write a number. -/
import Derived.Test.YtpianlannenagaaDoorNumA
namespace Go.Proofs.YtpianlannenagaaDoor
open Go.RowKit

theorem dr_neg {b c : Int} (h : ¬ dv c < b) : dr b c = -1 := by unfold dr; rw [if_neg h]
theorem dr_pos {b c : Int} (h : dv c < b) : dr b c = dv c := by unfold dr; rw [if_pos h]
theorem numS_at {b : Int} {s : ByteArray} (h : numS b s = true) {k : Nat} (hlt : k < s.size) : dv s[k].toNat < b := by
  unfold numS at h
  have h1 : s.data.toList.all (numB b) = true := by simp only [Bool.and_eq_true] at h; exact h.1
  have := List.all_eq_true.1 h1 _ (mem_at s k hlt)
  unfold numB at this; simpa using this
theorem numS_ne {b : Int} {s : ByteArray} (h : numS b s = true) : s.toList.isEmpty = false := by
  unfold numS at h; simp only [Bool.and_eq_true] at h; rw [toList_isEmpty]; simpa using h.2
theorem numS_empty {b : Int} {s : ByteArray} (h : s.toList.isEmpty = true) : numS b s = false := by
  unfold numS; rw [toList_isEmpty] at h
  have : s.data.toList.isEmpty = true := by simpa using h
  rw [this]; simp

set_option maxHeartbeats 1000000 in
theorem refParse_go10 (s : ByteArray) (most : Int) (w : World) (hs : s.size ≤ maxLen) (hm0 : -9223372036854775808 ≤ most) (hm1 : most ≤ 9223372036854775807) :
    Calls Tryd.prog 22 #[.string s, .int .i64 most, .int .i64 10] w fun e w' => e = .returned (.tuple #[.int .i64 (parseS 10 most s).1, .int .i64 (parseS 10 most s).2]) ∧ w = w' := by
  unfold maxLen at hs
  by_cases hem : s.toList.isEmpty = true
  · have HP := Lib.hid (show parseS 10 most s = (0, 2) by unfold parseS; rw [numS_empty hem]; rfl)
    go_enter Tryd.func22, Tryd.ntmps22
    have hem2 : s.toList = [] := by simpa using hem
    go_wp2
    go_ret2
    exact ⟨ret_pair HP.out, rfl⟩
  · have hem' : s.toList.isEmpty = false := by simpa using hem
    have hem2 : (!s.toList.isEmpty) = true := by rw [hem']; rfl
    have HE := Lib.hid hem'
    clear hem
    go_enter Tryd.func22, Tryd.ntmps22
    go_wp2
    clear hem' hem2
    go_loop [8] (fun i => ∃ k : Nat, k ≤ s.size ∧ i = .int .i64 k ∧ Hid ((s.data.toList.take k).all (numB 10) = true)) (fun i => s.size - (intOf i).toNat)
    case atStart => exact ⟨0, Nat.zero_le _, rfl, Lib.hid (by simp)⟩
    case round =>
      obtain ⟨k, hk, rfl, HP⟩ := hrel
      by_cases hlt : k < s.size
      · have b1 : (s[k].toNat : Int) ≤ 255 := by have := s[k].toNat_lt; omega
        have b2 := dv_bd s[k].toNat
        obtain ⟨b20, b21⟩ := b2
        by_cases hc : dv s[k].toNat < 10
        · have hr := dr_pos hc
          go_wp2_with (go_at_call 26; refine (refDigit_any _ _ _ (by omega) (by omega) (by omega) (by omega)).mono ?_; rintro e w' ⟨rfl, rfl⟩)
          go_round
          case rel => exact ⟨k + 1, by omega, by go_num, Lib.hid (by rw [take_snoc s k hlt, List.all_append, HP.out]; unfold numB; simpa using hc)⟩
          case measure => simp [intOf]; omega
        · have hr := dr_neg hc
          go_wp2_with (go_at_call 26; refine (refDigit_any _ _ _ (by omega) (by omega) (by omega) (by omega)).mono ?_; rintro e w' ⟨rfl, rfl⟩)
          go_ret2
          exact ⟨ret_pair (by unfold parseS; rw [numS_no hlt (by unfold numB; simpa using hc)]; rfl), rfl⟩
      · have hn : numS 10 s = true := by rw [numS_yes hk hlt HP.out]; have := HE.out; rw [toList_isEmpty] at this; simpa using this
        have HN := Lib.hid hn
        have HQ := Lib.hid (show parseS 10 most s = pgo 10 most 0 s.data.toList by unfold parseS; rw [if_pos hn])
        clear hn
        go_wp2
        go_loop [9, 10] (fun n i => ∃ (k : Nat) (acc : Int), k ≤ s.size ∧ i = .int .i64 k ∧ n = .int .i64 acc ∧ 0 ≤ acc ∧ acc ≤ 9223372036854775807 ∧ Hid (parseS 10 most s = pgo 10 most acc (s.data.toList.drop k))) (fun _ i => s.size - (intOf i).toNat)
        case atStart => exact ⟨0, 0, Nat.zero_le _, rfl, rfl, by omega, by omega, Lib.hid (by rw [HQ.out]; rfl)⟩
        case round =>
          obtain ⟨k, acc, hk, rfl, rfl, ha0, ha1, HG⟩ := hrel
          by_cases hlt : k < s.size
          · have b1 : (s[k].toNat : Int) ≤ 255 := by have := s[k].toNat_lt; omega
            have b2 := dv_bd s[k].toNat
            obtain ⟨b20, b21⟩ := b2
            have hr := dr_pos (numS_at HN.out hlt)
            by_cases hd : dv s[k].toNat ≤ most
            · by_cases hq : acc ≤ (most - dv s[k].toNat) / 10
              · go_wp2_with (go_at_call 26; refine (refDigit_any _ _ _ (by omega) (by omega) (by omega) (by omega)).mono ?_; rintro e w' ⟨rfl, rfl⟩)
                go_round
                case rel => exact ⟨k + 1, _, by omega, by go_num, rfl, by omega, by omega, Lib.hid (by rw [HG.out, drop_cons s k hlt, pgo_go hd hq])⟩
                case measure => simp [intOf]; omega
              · go_wp2_with (go_at_call 26; refine (refDigit_any _ _ _ (by omega) (by omega) (by omega) (by omega)).mono ?_; rintro e w' ⟨rfl, rfl⟩)
                go_ret2
                exact ⟨ret_pair (by rw [HG.out, drop_cons s k hlt, pgo_no (.inr (by omega))]), rfl⟩
            · go_wp2_with (go_at_call 26; refine (refDigit_any _ _ _ (by omega) (by omega) (by omega) (by omega)).mono ?_; rintro e w' ⟨rfl, rfl⟩)
              go_ret2
              exact ⟨ret_pair (by rw [HG.out, drop_cons s k hlt, pgo_no (.inl (by omega))]), rfl⟩
          · go_wp2
            go_ret2
            exact ⟨ret_pair (by rw [HG.out, List.drop_of_length_le (by simp; omega)]; rfl), rfl⟩

set_option maxHeartbeats 1000000 in
theorem refParse_go16 (s : ByteArray) (most : Int) (w : World) (hs : s.size ≤ maxLen) (hm0 : -9223372036854775808 ≤ most) (hm1 : most ≤ 9223372036854775807) :
    Calls Tryd.prog 22 #[.string s, .int .i64 most, .int .i64 16] w fun e w' => e = .returned (.tuple #[.int .i64 (parseS 16 most s).1, .int .i64 (parseS 16 most s).2]) ∧ w = w' := by
  unfold maxLen at hs
  by_cases hem : s.toList.isEmpty = true
  · have HP := Lib.hid (show parseS 16 most s = (0, 2) by unfold parseS; rw [numS_empty hem]; rfl)
    go_enter Tryd.func22, Tryd.ntmps22
    have hem2 : s.toList = [] := by simpa using hem
    go_wp2
    go_ret2
    exact ⟨ret_pair HP.out, rfl⟩
  · have hem' : s.toList.isEmpty = false := by simpa using hem
    have hem2 : (!s.toList.isEmpty) = true := by rw [hem']; rfl
    have HE := Lib.hid hem'
    clear hem
    go_enter Tryd.func22, Tryd.ntmps22
    go_wp2
    clear hem' hem2
    go_loop [8] (fun i => ∃ k : Nat, k ≤ s.size ∧ i = .int .i64 k ∧ Hid ((s.data.toList.take k).all (numB 16) = true)) (fun i => s.size - (intOf i).toNat)
    case atStart => exact ⟨0, Nat.zero_le _, rfl, Lib.hid (by simp)⟩
    case round =>
      obtain ⟨k, hk, rfl, HP⟩ := hrel
      by_cases hlt : k < s.size
      · have b1 : (s[k].toNat : Int) ≤ 255 := by have := s[k].toNat_lt; omega
        have b2 := dv_bd s[k].toNat
        obtain ⟨b20, b21⟩ := b2
        by_cases hc : dv s[k].toNat < 16
        · have hr := dr_pos hc
          go_wp2_with (go_at_call 26; refine (refDigit_any _ _ _ (by omega) (by omega) (by omega) (by omega)).mono ?_; rintro e w' ⟨rfl, rfl⟩)
          go_round
          case rel => exact ⟨k + 1, by omega, by go_num, Lib.hid (by rw [take_snoc s k hlt, List.all_append, HP.out]; unfold numB; simpa using hc)⟩
          case measure => simp [intOf]; omega
        · have hr := dr_neg hc
          go_wp2_with (go_at_call 26; refine (refDigit_any _ _ _ (by omega) (by omega) (by omega) (by omega)).mono ?_; rintro e w' ⟨rfl, rfl⟩)
          go_ret2
          exact ⟨ret_pair (by unfold parseS; rw [numS_no hlt (by unfold numB; simpa using hc)]; rfl), rfl⟩
      · have hn : numS 16 s = true := by rw [numS_yes hk hlt HP.out]; have := HE.out; rw [toList_isEmpty] at this; simpa using this
        have HN := Lib.hid hn
        have HQ := Lib.hid (show parseS 16 most s = pgo 16 most 0 s.data.toList by unfold parseS; rw [if_pos hn])
        clear hn
        go_wp2
        go_loop [9, 10] (fun n i => ∃ (k : Nat) (acc : Int), k ≤ s.size ∧ i = .int .i64 k ∧ n = .int .i64 acc ∧ 0 ≤ acc ∧ acc ≤ 9223372036854775807 ∧ Hid (parseS 16 most s = pgo 16 most acc (s.data.toList.drop k))) (fun _ i => s.size - (intOf i).toNat)
        case atStart => exact ⟨0, 0, Nat.zero_le _, rfl, rfl, by omega, by omega, Lib.hid (by rw [HQ.out]; rfl)⟩
        case round =>
          obtain ⟨k, acc, hk, rfl, rfl, ha0, ha1, HG⟩ := hrel
          by_cases hlt : k < s.size
          · have b1 : (s[k].toNat : Int) ≤ 255 := by have := s[k].toNat_lt; omega
            have b2 := dv_bd s[k].toNat
            obtain ⟨b20, b21⟩ := b2
            have hr := dr_pos (numS_at HN.out hlt)
            by_cases hd : dv s[k].toNat ≤ most
            · by_cases hq : acc ≤ (most - dv s[k].toNat) / 16
              · go_wp2_with (go_at_call 26; refine (refDigit_any _ _ _ (by omega) (by omega) (by omega) (by omega)).mono ?_; rintro e w' ⟨rfl, rfl⟩)
                go_round
                case rel => exact ⟨k + 1, _, by omega, by go_num, rfl, by omega, by omega, Lib.hid (by rw [HG.out, drop_cons s k hlt, pgo_go hd hq])⟩
                case measure => simp [intOf]; omega
              · go_wp2_with (go_at_call 26; refine (refDigit_any _ _ _ (by omega) (by omega) (by omega) (by omega)).mono ?_; rintro e w' ⟨rfl, rfl⟩)
                go_ret2
                exact ⟨ret_pair (by rw [HG.out, drop_cons s k hlt, pgo_no (.inr (by omega))]), rfl⟩
            · go_wp2_with (go_at_call 26; refine (refDigit_any _ _ _ (by omega) (by omega) (by omega) (by omega)).mono ?_; rintro e w' ⟨rfl, rfl⟩)
              go_ret2
              exact ⟨ret_pair (by rw [HG.out, drop_cons s k hlt, pgo_no (.inl (by omega))]), rfl⟩
          · go_wp2
            go_ret2
            exact ⟨ret_pair (by rw [HG.out, List.drop_of_length_le (by simp; omega)]; rfl), rfl⟩

theorem refParseDecimal_any (s : ByteArray) (most : Int) (w : World) (hs : s.size ≤ maxLen) (hm0 : -9223372036854775808 ≤ most) (hm1 : most ≤ 9223372036854775807) :
    Calls Tryd.prog 15 #[.string s, .int .i64 most] w fun e w' => e = .returned (.tuple #[.int .i64 (parseS 10 most s).1, .int .i64 (parseS 10 most s).2]) ∧ w = w' := by
  go_enter Tryd.func15, Tryd.ntmps15
  go_wp2_with (go_at_call 22; refine (refParse_go10 _ _ _ hs hm0 hm1).mono ?_; rintro e w' ⟨rfl, rfl⟩)
  go_ret2
  exact ⟨rfl, rfl⟩
theorem refParseHex_any (s : ByteArray) (most : Int) (w : World) (hs : s.size ≤ maxLen) (hm0 : -9223372036854775808 ≤ most) (hm1 : most ≤ 9223372036854775807) :
    Calls Tryd.prog 16 #[.string s, .int .i64 most] w fun e w' => e = .returned (.tuple #[.int .i64 (parseS 16 most s).1, .int .i64 (parseS 16 most s).2]) ∧ w = w' := by
  go_enter Tryd.func16, Tryd.ntmps16
  go_wp2_with (go_at_call 22; refine (refParse_go16 _ _ _ hs hm0 hm1).mono ?_; rintro e w' ⟨rfl, rfl⟩)
  go_ret2
  exact ⟨rfl, rfl⟩
end Go.Proofs.YtpianlannenagaaDoor
