/- Contracts of the small functions of package ascii and of its reference: one byte, and loops over the bytes of a string. -/
import Derived.Test.YtcniajbfgfikjaaDoorRows
import Derived.WalkKit
import Derived.WalkSpells
import Derived.WalkLawsBesides
import Derived.BigQuiet
import Derived.Deep.QuietTactic
import Derived.Lib.Bytealg
import Derived.Lib.IndexLaws
import Derived.Lib.Hide
namespace Go.Proofs.YtcniajbfgfikjaaDoor
open Go.RowKit

theorem ret_bool {a b : Bool} (h : a = b) : Ending.returned (.bool a) = .returned (.bool b) := by rw [h]
theorem ret_int {k : IntKind} {a b : Int} (h : a = b) : Ending.returned (.int k a) = .returned (.int k b) := by rw [h]
theorem ret_str {a b : ByteArray} (h : a = b) : Ending.returned (.string a) = .returned (.string b) := by rw [h]

def upB (c : Int) : Bool := decide (65 ≤ c) && decide (c ≤ 90)
def digB (c : Int) : Bool := decide (48 ≤ c) && decide (c ≤ 57)
def loB (c : Int) : Bool := decide (97 ≤ c) && decide (c ≤ 122)
def marks : ByteArray := ⟨#[33, 35, 36, 37, 38, 39, 42, 43, 45, 46, 94, 95, 96, 124, 126]⟩
def hasS (s : ByteArray) (c : UInt8) : Bool := s.data.toList.contains c
def tokB (c : UInt8) : Bool := upB c.toNat || loB c.toNat || digB c.toNat || hasS marks c
def tokS (s : ByteArray) : Bool := s.data.toList.all tokB && !s.data.toList.isEmpty

theorem take_snoc (s : ByteArray) (k : Nat) (h : k < s.size) : s.data.toList.take (k + 1) = s.data.toList.take k ++ [s[k]] := by
  rw [List.take_succ_eq_append_getElem (by simpa using h)]; rfl
theorem take_all (s : ByteArray) (k : Nat) (h : k ≤ s.size) (h2 : ¬ k < s.size) : s.data.toList.take k = s.data.toList := by
  rw [List.take_of_length_le]; simp; omega
theorem mem_at (s : ByteArray) (k : Nat) (h : k < s.size) : s[k] ∈ s.data.toList := by
  show s.data[k] ∈ s.data.toList
  simp

theorem toList_isEmpty (s : ByteArray) : s.toList.isEmpty = s.data.isEmpty := by
  rw [ByteArray.toList_eq s]; simp

set_option maxHeartbeats 400000 in
theorem isUpper_any (c : Int) (w : World) (h0 : 0 ≤ c) (h1 : c ≤ 255) :
    Calls Tryd.prog 70 #[.int .u8 c] w fun e w' => e = .returned (.bool (upB c)) ∧ w = w' := by
  go_enter Tryd.func70, Tryd.ntmps70
  go_wp2
  all_goals go_ret
  all_goals exact ⟨ret_bool (by unfold upB; rw [Bool.eq_iff_iff]; simp; omega), rfl⟩

set_option maxHeartbeats 400000 in
theorem digit_any (c : Int) (w : World) (h0 : 0 ≤ c) (h1 : c ≤ 255) :
    Calls Tryd.prog 56 #[.int .u8 c] w fun e w' => e = .returned (.bool (digB c)) ∧ w = w' := by
  go_enter Tryd.func56, Tryd.ntmps56
  go_wp2
  all_goals go_ret
  all_goals exact ⟨ret_bool (by unfold digB; rw [Bool.eq_iff_iff]; simp; omega), rfl⟩

theorem eqb_of {a b : UInt8} (h : ((a.toNat : Int) == (b.toNat : Int)) = true) : a = b := by
  apply UInt8.toNat_inj.1; simp at h; omega
theorem neb_of {a b : UInt8} (h : ((a.toNat : Int) == (b.toNat : Int)) = false) : ¬ a = b := by
  rintro rfl; simp at h

set_option maxHeartbeats 400000 in
theorem has_any (s : ByteArray) (c : UInt8) (w : World) (hs : s.size ≤ maxLen) :
    Calls Tryd.prog 57 #[.string s, .int .u8 c.toNat] w fun e w' => e = .returned (.bool (hasS s c)) ∧ w = w' := by
  unfold maxLen at hs
  go_enter Tryd.func57, Tryd.ntmps57
  go_wp2
  go_loop [5] (fun i => ∃ k : Nat, k ≤ s.size ∧ i = .int .i64 k ∧ Hid (∀ x ∈ s.data.toList.take k, ¬ x = c)) (fun i => s.size - (intOf i).toNat)
  case atStart => exact ⟨0, Nat.zero_le _, rfl, Lib.hid (by simp)⟩
  case round =>
    obtain ⟨k, hk, rfl, HP⟩ := hrel
    by_cases hlt : k < s.size
    · by_cases hc : s[k] = c
      · have HC := Lib.hid hc
        have hb : ((s[k].toNat : Int) == (c.toNat : Int)) = true := by simp [hc]
        clear hc
        go_wp2
        go_ret
        exact ⟨ret_bool (by unfold hasS; have := mem_at s k hlt; rw [HC.out] at this; symm; simpa using this), rfl⟩
      · have HC := Lib.hid hc
        have hb : ((s[k].toNat : Int) == (c.toNat : Int)) = false := by
          rw [Bool.eq_false_iff]; intro h; exact hc (eqb_of h)
        clear hc
        go_wp2
        go_round
        case rel => exact ⟨k + 1, by omega, by go_num, Lib.hid (by rw [take_snoc s k hlt]; intro x hx; rcases List.mem_append.1 hx with h | h; exact HP.out x h; simp at h; rw [h]; exact HC.out)⟩
        case measure => simp [intOf]; omega
    · go_wp2
      go_ret
      exact ⟨ret_bool (by have := HP.out; rw [take_all s k hk hlt] at this; unfold hasS; symm; rw [Bool.eq_false_iff]; intro h; exact this c (by simpa using h) rfl), rfl⟩

set_option maxRecDepth 100000 in
set_option maxHeartbeats 400000 in
theorem indexByteLite_any (s : ByteArray) (c : UInt8) (w : World) :
    Calls Tryd.prog 85 #[.string s, .int .u8 c.toNat] w fun e w' => e = .returned (.int .i64 (Lib.indexByte s.data.toList c)) ∧ w = w' := by
  go_enter Tryd.func85, Tryd.ntmps85
  go_wp2
  rw [run_callFunc_extern Tryd.func95 (by kernel_rfl) (by kernel_rfl) (by kernel_rfl) (e := Extern.BytealgIndexByte.indexByte) (by kernel_rfl), Lib.run_indexByteString]
  simp only [Result.andThen]
  rw [Oper.upon_value]
  go_wp2
  go_ret
  exact ⟨ret_int (by simp), rfl⟩

set_option maxHeartbeats 400000 in
theorem indexByte_any (s : ByteArray) (c : UInt8) (w : World) :
    Calls Tryd.prog 81 #[.string s, .int .u8 c.toNat] w fun e w' => e = .returned (.int .i64 (Lib.indexByte s.data.toList c)) ∧ w = w' := by
  go_enter Tryd.func81, Tryd.ntmps81
  go_wp2_with (go_at_call 85; refine (indexByteLite_any _ _ _).mono ?_; rintro e w' ⟨rfl, rfl⟩)
  go_ret
  exact ⟨rfl, rfl⟩

theorem indexByte_has (s : ByteArray) (c : UInt8) : decide (0 ≤ Lib.indexByte s.data.toList c) = hasS s c := by
  have hge := Lib.indexByte_ge s.data.toList c
  unfold hasS
  by_cases h : Lib.indexByte s.data.toList c = -1
  · have := Lib.indexByte_none h
    rw [h, Bool.eq_iff_iff]
    simp only [Int.reduceNeg, decide_eq_true_eq, List.contains_iff_mem]
    constructor
    · intro h; omega
    · intro hm; obtain ⟨k, hk⟩ := List.mem_iff_getElem?.1 hm; exact absurd hk (this k)
  · obtain ⟨o, ho⟩ : ∃ o : Nat, Lib.indexByte s.data.toList c = o := ⟨(Lib.indexByte s.data.toList c).toNat, by omega⟩
    have := (Lib.indexByte_some ho).1
    rw [ho, Bool.eq_iff_iff]
    simp only [decide_eq_true_eq, List.contains_iff_mem]
    exact ⟨fun _ => List.mem_of_getElem? this, fun _ => by omega⟩

set_option maxHeartbeats 400000 in
theorem isTokenByte_any (c : UInt8) (w : World) :
    Calls Tryd.prog 68 #[.int .u8 c.toNat] w fun e w' => e = .returned (.bool (tokB c)) ∧ w = w' := by
  have hi := indexByte_has marks c
  have HI := Lib.hid hi
  clear hi
  have b1 : (c.toNat : Int) ≤ 255 := by have := c.toNat_lt; omega
  go_enter Tryd.func68, Tryd.ntmps68
  go_wp2_with (first | (go_at_call 81; refine (indexByte_any marks _ _).mono ?_; rintro e w' ⟨rfl, rfl⟩) | (go_at_call 70; go_in))
  all_goals go_ret
  all_goals exact ⟨ret_bool (by
    unfold tokB
    rw [← HI.out]
    generalize Lib.indexByte marks.data.toList c = n
    rw [Bool.eq_iff_iff]
    simp [upB, loB, digB]
    omega), rfl⟩

theorem tokS_no {s : ByteArray} {k : Nat} (hlt : k < s.size) (hc : tokB s[k] = false) : false = tokS s := by
  unfold tokS
  have : s.data.toList.all tokB = false := by
    rw [Bool.eq_false_iff]; intro h
    have := List.all_eq_true.1 h _ (mem_at s k hlt); rw [hc] at this; cases this
  rw [this]; rfl

set_option maxHeartbeats 400000 in
theorem token_any (s : ByteArray) (w : World) (hs : s.size ≤ maxLen) :
    Calls Tryd.prog 54 #[.string s] w fun e w' => e = .returned (.bool (tokS s)) ∧ w = w' := by
  unfold maxLen at hs
  go_enter Tryd.func54, Tryd.ntmps54
  go_wp2
  go_loop [6] (fun i => ∃ k : Nat, k ≤ s.size ∧ i = .int .i64 k ∧ Hid ((s.data.toList.take k).all tokB = true)) (fun i => s.size - (intOf i).toNat)
  case atStart => exact ⟨0, Nat.zero_le _, rfl, Lib.hid (by simp)⟩
  case round =>
    obtain ⟨k, hk, rfl, HP⟩ := hrel
    by_cases hlt : k < s.size
    · by_cases hc : tokB s[k] = true
      · go_wp2_with (go_at_call 68; refine (isTokenByte_any _ _).mono ?_; rintro e w' ⟨rfl, rfl⟩)
        go_round
        case rel => exact ⟨k + 1, by omega, by go_num, Lib.hid (by rw [take_snoc s k hlt, List.all_append, HP.out]; simpa using hc)⟩
        case measure => simp [intOf]; omega
      · have hc' : tokB s[k] = false := by simpa using hc
        clear hc
        go_wp2_with (go_at_call 68; refine (isTokenByte_any _ _).mono ?_; rintro e w' ⟨rfl, rfl⟩)
        go_ret
        exact ⟨ret_bool (tokS_no hlt hc'), rfl⟩
    · go_wp2
      go_ret
      exact ⟨ret_bool (by have := HP.out; rw [take_all s k hk hlt] at this; unfold tokS; rw [this]; simp [toList_isEmpty]), rfl⟩

set_option maxHeartbeats 400000 in
theorem refToken_any (s : ByteArray) (w : World) (hs : s.size ≤ maxLen) :
    Calls Tryd.prog 35 #[.string s] w fun e w' => e = .returned (.bool (tokS s)) ∧ w = w' := by
  unfold maxLen at hs
  go_enter Tryd.func35, Tryd.ntmps35
  go_wp2
  go_loop [3] (fun i => ∃ k : Nat, k ≤ s.size ∧ i = .int .i64 k ∧ Hid ((s.data.toList.take k).all tokB = true)) (fun i => s.size - (intOf i).toNat)
  case atStart => exact ⟨0, Nat.zero_le _, rfl, Lib.hid (by simp)⟩
  case round =>
    obtain ⟨k, hk, rfl, HP⟩ := hrel
    by_cases hlt : k < s.size
    · have b1 : (s[k].toNat : Int) ≤ 255 := by have := s[k].toNat_lt; omega
      by_cases hd : digB (s[k].toNat : Int) = true <;> by_cases hh : hasS marks s[k] = true <;> try simp only [Bool.not_eq_true] at hd hh
      all_goals go_wp2_with (first | (go_at_call 57; refine (has_any marks _ _ (by decide)).mono ?_; rintro e w' ⟨rfl, rfl⟩) | (go_at_call 56; refine (digit_any _ _ (by omega) (by omega)).mono ?_; rintro e w' ⟨rfl, rfl⟩))
      all_goals first
        | (go_round
           case rel => exact ⟨k + 1, by omega, by go_num, Lib.hid (by rw [take_snoc s k hlt, List.all_append, HP.out]; first | (simp [tokB, upB, loB, hd, hh]; done) | (simp [tokB, upB, loB, hd, hh]; omega) | (exfalso; rename_i hx; simp at hx; omega))⟩
           case measure => simp [intOf]; omega)
        | (go_ret
           exact ⟨ret_bool (tokS_no hlt (by simp [tokB, upB, loB, hd, hh]; try omega)), rfl⟩)
    · go_wp2
      go_ret
      exact ⟨ret_bool (by have := HP.out; rw [take_all s k hk hlt] at this; unfold tokS; rw [this]; simp [toList_isEmpty]), rfl⟩
end Go.Proofs.YtcniajbfgfikjaaDoor
