/- Contracts of Fold, Value, Trim, of package ascii and of its reference. -/
import Derived.Test.YtcniajbfgfikjaaDoorAsciiB
import Derived.Test.YtcniajbfgfikjaaDoorAsciiMath
import Derived.Test.YtcniajbfgfikjaaDoorStrs
import Derived.Test.YtcniajbfgfikjaaDoorShelf
import Derived.Shelf.Strings.SlTrimAscii
namespace Go.Proofs.YtcniajbfgfikjaaDoor
open Go.RowKit

set_option maxHeartbeats 400000 in
theorem refFold_any (a b : ByteArray) (w : World) (ha : a.size ≤ maxLen) (hb : b.size ≤ maxLen) :
    Calls Tryd.prog 39 #[.string a, .string b] w fun e w' => e = .returned (.bool (foldS a b)) ∧ Below w.heap.size w w' := by
  go_enter Tryd.func39, Tryd.ntmps39
  go_wp2_with fail
  refine (refLower_any a _ ha).mono ?_
  rintro e w1 ⟨rfl, hb1⟩
  go_wp2_with fail
  refine (refLower_any b _ hb).mono ?_
  rintro e w2 ⟨rfl, hb2⟩
  go_wp2_with fail
  go_ret
  exact ⟨ret_bool rfl, below_trans hb1 hb2⟩

theorem trimLib_any (s : ByteArray) (w : World) (hs : s.size ≤ maxLen) :
    Calls Tryd.prog 67 #[.string s, .string ⟨#[32, 9]⟩] w fun e w' => e = .returned (.string (trimBA s)) ∧ Below w.heap.size w w' :=
  (Any.strings_Trim_laid Tryd.lays160 (by kernel_rfl) s ⟨#[32, 9]⟩ w hs (by decide) (ascii_of_all (by decide))).mono fun _ _ ⟨he, hw⟩ => ⟨he, hw⟩

set_option maxHeartbeats 400000 in
theorem trim_any (s : ByteArray) (w : World) (hs : s.size ≤ maxLen) :
    Calls Tryd.prog 52 #[.string s] w fun e w' => e = .returned (.string (trimBA s)) ∧ Below w.heap.size w w' := by
  go_enter Tryd.func52, Tryd.ntmps52
  go_wp2_with fail
  refine (trimLib_any s _ hs).mono ?_
  rintro e w1 ⟨rfl, hb1⟩
  go_wp2_with fail
  go_ret
  exact ⟨rfl, hb1⟩

set_option maxHeartbeats 400000 in
theorem blank_any (c : UInt8) (w : World) :
    Calls Tryd.prog 65 #[.int .u8 c.toNat] w fun e w' => e = .returned (.bool (blankB c)) ∧ w = w' := by
  have h0 : blankB c = (((c.toNat : Int) == 32) || ((c.toNat : Int) == 9)) := by
    unfold blankB blanks
    rw [Bool.eq_iff_iff]
    simp only [List.contains_cons, List.contains_nil, Bool.or_false, Bool.or_eq_true, beq_iff_eq, ← UInt8.toNat_inj]
    have h1 : (32 : UInt8).toNat = 32 := rfl
    have h2 : (9 : UInt8).toNat = 9 := rfl
    omega
  have H0 := Lib.hid h0
  clear h0
  go_enter Tryd.func65, Tryd.ntmps65
  go_wp2
  all_goals go_ret
  all_goals exact ⟨ret_bool (by rw [H0.out]; try simp [*]), rfl⟩

def strLen : Value → Nat | .string s => s.size | _ => 0

set_option maxHeartbeats 800000 in
theorem refTrim_any (s : ByteArray) (w : World) (hs : s.size ≤ maxLen) :
    Calls Tryd.prog 50 #[.string s] w fun e w' => e = .returned (.string (trimBA s)) ∧ w = w' := by
  unfold maxLen at hs
  go_enter Tryd.func50, Tryd.ntmps50
  go_wp2
  go_loop [0] (fun v => ∃ t : ByteArray, v = .string t ∧ t.size ≤ s.size ∧ Hid (t.data.toList.dropWhile blankB = s.data.toList.dropWhile blankB)) (fun v => strLen v)
  case atStart => exact ⟨s, rfl, Nat.le_refl _, Lib.hid rfl⟩
  case round =>
    obtain ⟨t, rfl, hts, HT⟩ := hrel
    by_cases hgo : ∃ h : 0 < t.size, blankB t[0] = true
    · obtain ⟨hlt, hb⟩ := hgo
      have HB := Lib.hid hb
      have hsz : (t.extract 1 t.size).size = t.size - 1 := by simp
      have HS := Lib.hid hsz
      clear hsz
      go_wp2_with (go_at_call 65; refine (blank_any _ _).mono ?_; rintro e w' ⟨rfl, rfl⟩)
      go_round
      case rel => exact ⟨_, rfl, by rw [HS.out]; omega, Lib.hid (by rw [drop_step t hlt HB.out]; exact HT.out)⟩
      case measure => simp only [strLen]; rw [HS.out]; omega
    · have hE : t.data.toList = s.data.toList.dropWhile blankB := by
        rw [← HT.out]; symm; apply drop_end
        intro h; by_cases hb : blankB t[0] = true
        · exact absurd ⟨h, hb⟩ hgo
        · simpa using hb
      have HE := Lib.hid hE
      clear hE HT
      have hcase : ¬ 0 < t.size ∨ ∃ h : 0 < t.size, blankB t[0] = false := by
        by_cases h : 0 < t.size
        · right; exact ⟨h, by by_cases hb : blankB t[0] = true; exact absurd ⟨h, hb⟩ hgo; simpa using hb⟩
        · left; exact h
      clear hgo
      rcases hcase with hz | ⟨hlt, hb⟩
      all_goals
        go_wp2_with (go_at_call 65; refine (blank_any _ _).mono ?_; rintro e w' ⟨rfl, rfl⟩)
        go_loop [0] (fun v => ∃ t' : ByteArray, v = .string t' ∧ t'.size ≤ s.size ∧ Hid (rdrop blankB t'.data.toList = rdrop blankB t.data.toList)) (fun v => strLen v)
        case atStart => exact ⟨t, rfl, hts, Lib.hid rfl⟩
        case round =>
          obtain ⟨t', rfl, hts', HT'⟩ := hrel
          by_cases hgo : ∃ h : 0 < t'.size, blankB t'[t'.size - 1] = true
          · obtain ⟨hlt', hb'⟩ := hgo
            have HB' := Lib.hid hb'
            have hsz : (t'.extract 0 (t'.size - 1)).size = t'.size - 1 := by simp
            have HS := Lib.hid hsz
            clear hsz
            go_wp2_with (go_at_call 65; refine (blank_any _ _).mono ?_; rintro e w' ⟨rfl, rfl⟩)
            go_round
            case rel => exact ⟨_, rfl, by rw [HS.out]; omega, Lib.hid (by rw [rdrop_step t' hlt' HB'.out]; exact HT'.out)⟩
            case measure => simp only [strLen]; rw [HS.out]; omega
          · have hE' : t'.data.toList = trimL s.data.toList := by
              unfold trimL
              rw [trim_comm, ← HE.out, ← HT'.out]; symm; apply rdrop_end
              intro h; by_cases hb : blankB t'[t'.size - 1] = true
              · exact absurd ⟨h, hb⟩ hgo
              · simpa using hb
            have HE' := Lib.hid hE'
            clear hE' HT'
            have hcase : ¬ 0 < t'.size ∨ ∃ h : 0 < t'.size, blankB t'[t'.size - 1] = false := by
              by_cases h : 0 < t'.size
              · right; exact ⟨h, by by_cases hb : blankB t'[t'.size - 1] = true; exact absurd ⟨h, hb⟩ hgo; simpa using hb⟩
              · left; exact h
            clear hgo
            rcases hcase with hz' | ⟨hlt', hb'⟩
            all_goals
              go_wp2_with (go_at_call 65; refine (blank_any _ _).mono ?_; rintro e w' ⟨rfl, rfl⟩)
              go_ret
              exact ⟨ret_str (ba_ext (by rw [trimBA_list]; exact HE'.out)), rfl⟩

def valB (c : UInt8) : Bool := decide ((c.toNat : Int) = 9) || (decide (32 ≤ (c.toNat : Int)) && !decide ((c.toNat : Int) = 127))
def visS (s : ByteArray) : Bool := s.data.toList.all valB
def valS (s : ByteArray) : Bool := visS s && ((trimBA s).toList == s.toList)

set_option maxHeartbeats 400000 in
theorem isValueByte_any (c : UInt8) (w : World) :
    Calls Tryd.prog 69 #[.int .u8 c.toNat] w fun e w' => e = .returned (.bool (valB c)) ∧ w = w' := by
  go_enter Tryd.func69, Tryd.ntmps69
  go_wp2
  all_goals go_ret
  all_goals exact ⟨ret_bool (by unfold valB; rw [Bool.eq_iff_iff]; simp; omega), rfl⟩

theorem visS_no {s : ByteArray} {k : Nat} (hlt : k < s.size) (hc : valB s[k] = false) : visS s = false := by
  unfold visS
  rw [Bool.eq_false_iff]; intro h
  have := List.all_eq_true.1 h _ (mem_at s k hlt); rw [hc] at this; cases this
theorem visS_yes {s : ByteArray} {k : Nat} (hk : k ≤ s.size) (hlt : ¬ k < s.size) (h : (s.data.toList.take k).all valB = true) : visS s = true := by
  rw [take_all s k hk hlt] at h; exact h

set_option maxHeartbeats 400000 in
theorem value_any (s : ByteArray) (w : World) (hs0 : s.size ≤ maxLen) :
    Calls Tryd.prog 55 #[.string s] w fun e w' => e = .returned (.bool (valS s)) ∧ Below w.heap.size w w' := by
  have hs := hs0
  unfold maxLen at hs
  have HS0 := Lib.hid hs0
  clear hs0
  go_enter Tryd.func55, Tryd.ntmps55
  go_wp2
  go_loop [6] (fun i => ∃ k : Nat, k ≤ s.size ∧ i = .int .i64 k ∧ Hid ((s.data.toList.take k).all valB = true)) (fun i => s.size - (intOf i).toNat)
  case atStart => exact ⟨0, Nat.zero_le _, rfl, Lib.hid (by simp)⟩
  case round =>
    obtain ⟨k, hk, rfl, HP⟩ := hrel
    by_cases hlt : k < s.size
    · by_cases hc : valB s[k] = true
      · go_wp2_with (go_at_call 69; refine (isValueByte_any _ _).mono ?_; rintro e w' ⟨rfl, rfl⟩)
        go_round
        case rel => exact ⟨k + 1, by omega, by go_num, Lib.hid (by rw [take_snoc s k hlt, List.all_append, HP.out]; simpa using hc)⟩
        case measure => simp [intOf]; omega
      · have hc' : valB s[k] = false := by simpa using hc
        clear hc
        go_wp2_with (go_at_call 69; refine (isValueByte_any _ _).mono ?_; rintro e w' ⟨rfl, rfl⟩)
        go_ret
        exact ⟨ret_bool (by unfold valS; rw [visS_no hlt hc']; rfl), Below.refl _ _⟩
    · go_wp2_with fail
      refine (trim_any s _ HS0.out).mono ?_
      rintro e w1 ⟨rfl, hb1⟩
      go_wp2_with fail
      go_ret
      exact ⟨ret_bool (by unfold valS; rw [visS_yes hk hlt HP.out, Bool.true_and, Bool.beq_comm]), hb1⟩

set_option maxHeartbeats 400000 in
theorem visible_any (s : ByteArray) (w : World) (hs : s.size ≤ maxLen) :
    Calls Tryd.prog 58 #[.string s] w fun e w' => e = .returned (.bool (visS s)) ∧ w = w' := by
  unfold maxLen at hs
  go_enter Tryd.func58, Tryd.ntmps58
  go_wp2
  go_loop [3] (fun i => ∃ k : Nat, k ≤ s.size ∧ i = .int .i64 k ∧ Hid ((s.data.toList.take k).all valB = true)) (fun i => s.size - (intOf i).toNat)
  case atStart => exact ⟨0, Nat.zero_le _, rfl, Lib.hid (by simp)⟩
  case round =>
    obtain ⟨k, hk, rfl, HP⟩ := hrel
    by_cases hlt : k < s.size
    · have b1 : (s[k].toNat : Int) ≤ 255 := by have := s[k].toNat_lt; omega
      have hcase : Hid (valB s[k] = true) ∧ (s[k].toNat : Int) = 9 ∨ Hid (valB s[k] = true) ∧ ¬ (s[k].toNat : Int) = 9 ∧ 32 ≤ (s[k].toNat : Int) ∧ ¬ (s[k].toNat : Int) = 127
          ∨ Hid (valB s[k] = false) ∧ ¬ (s[k].toNat : Int) = 9 ∧ (s[k].toNat : Int) < 32 ∨ Hid (valB s[k] = false) ∧ (s[k].toNat : Int) = 127 := by
        unfold Hid valB
        by_cases h9 : (s[k].toNat : Int) = 9 <;> by_cases h32 : 32 ≤ (s[k].toNat : Int) <;> by_cases h127 : (s[k].toNat : Int) = 127 <;> simp [h9, h32, h127] <;> omega
      rcases hcase with ⟨HC, h9⟩ | ⟨HC, h9, h32, h127⟩ | ⟨HC, h9, h32⟩ | ⟨HC, h127⟩
      all_goals try have n9 : ((s[k].toNat : Int) != 9) = true := by rw [bne_iff_ne]; omega
      all_goals try have e127 : ((s[k].toNat : Int) == 127) = false := by rw [beq_eq_false_iff_ne]; omega
      all_goals
        go_wp2
        first
        | (go_round
           case rel => exact ⟨k + 1, by omega, by go_num, Lib.hid (by rw [take_snoc s k hlt, List.all_append, HP.out]; have := HC.out; simpa using this)⟩
           case measure => simp [intOf]; omega)
        | (go_ret
           exact ⟨ret_bool (visS_no hlt HC.out).symm, rfl⟩)
    · go_wp2
      go_ret
      exact ⟨ret_bool (visS_yes hk hlt HP.out).symm, rfl⟩

set_option maxHeartbeats 400000 in
theorem refValue_any (s : ByteArray) (w : World) (hs : s.size ≤ maxLen) :
    Calls Tryd.prog 36 #[.string s] w fun e w' => e = .returned (.bool (valS s)) ∧ w = w' := by
  go_enter Tryd.func36, Tryd.ntmps36
  by_cases hv : visS s = true
  · go_wp2_with fail
    refine (visible_any s _ hs).mono ?_
    rintro e w1 ⟨rfl, rfl⟩
    go_wp2_with fail
    refine (refTrim_any s _ hs).mono ?_
    rintro e w1 ⟨rfl, rfl⟩
    go_wp2_with fail
    go_ret
    exact ⟨ret_bool (by unfold valS; rw [hv, Bool.true_and]), rfl⟩
  · have hv' : visS s = false := by simpa using hv
    clear hv
    go_wp2_with fail
    refine (visible_any s _ hs).mono ?_
    rintro e w1 ⟨rfl, rfl⟩
    go_wp2_with fail
    go_ret
    exact ⟨ret_bool (by unfold valS; rw [hv']; rfl), rfl⟩
end Go.Proofs.YtcniajbfgfikjaaDoor
