/- Contracts of the small functions of package ascii and of its reference: one byte, and loops over the bytes of a string. -/
import Derived.Test.YtpgppninmnplkaaRows
import Derived.WalkKit
import Derived.WalkSpells
import Derived.WalkLawsBesides
import Derived.BigQuiet
import Derived.Deep.QuietTactic
import Derived.Lib.Bytealg
import Derived.Lib.IndexLaws
import Derived.Lib.Hide
namespace Go.Proofs.Ytpgppninmnplkaa
open Go.RowKit

theorem ret_bool {a b : Bool} (h : a = b) : Ending.returned (.bool a) = .returned (.bool b) := by rw [h]
theorem ret_int {k : IntKind} {a b : Int} (h : a = b) : Ending.returned (.int k a) = .returned (.int k b) := by rw [h]
theorem ret_str {a b : ByteArray} (h : a = b) : Ending.returned (.string a) = .returned (.string b) := by rw [h]

def upB (c : Int) : Bool := decide (65 ≤ c) && decide (c ≤ 90)
def digB (c : Int) : Bool := decide (48 ≤ c) && decide (c ≤ 57)
def loB (c : Int) : Bool := decide (97 ≤ c) && decide (c ≤ 122)
def marks : ByteArray := ⟨#[33, 35, 36, 37, 38, 39, 42, 43, 45, 46, 94, 95, 96, 124, 126]⟩
def hasS (s : ByteArray) (c : UInt8) : Bool := s.data.toList.contains c
def tokB (c : UInt8) : Bool := upB c.toNat || loB c.toNat || digB c.toNat || hasS marks c
def tokS (s : ByteArray) : Bool := s.data.toList.all tokB && !s.data.toList.isEmpty

theorem take_snoc (s : ByteArray) (k : Nat) (h : k < s.size) : s.data.toList.take (k + 1) = s.data.toList.take k ++ [s[k]] := by
  rw [List.take_succ_eq_append_getElem (by simpa using h)]; rfl
theorem take_all (s : ByteArray) (k : Nat) (h : k ≤ s.size) (h2 : ¬ k < s.size) : s.data.toList.take k = s.data.toList := by
  rw [List.take_of_length_le]; simp; omega
theorem mem_at (s : ByteArray) (k : Nat) (h : k < s.size) : s[k] ∈ s.data.toList := by
  show s.data[k] ∈ s.data.toList
  simp

theorem toList_isEmpty (s : ByteArray) : s.toList.isEmpty = s.data.isEmpty := by
  rw [ByteArray.toList_eq s]; simp

theorem eqb_of {a b : UInt8} (h : ((a.toNat : Int) == (b.toNat : Int)) = true) : a = b := by
  apply UInt8.toNat_inj.1; simp at h; omega
theorem neb_of {a b : UInt8} (h : ((a.toNat : Int) == (b.toNat : Int)) = false) : ¬ a = b := by
  rintro rfl; simp at h

theorem indexByte_has (s : ByteArray) (c : UInt8) : decide (0 ≤ Lib.indexByte s.data.toList c) = hasS s c := by
  have hge := Lib.indexByte_ge s.data.toList c
  unfold hasS
  by_cases h : Lib.indexByte s.data.toList c = -1
  · have := Lib.indexByte_none h
    rw [h, Bool.eq_iff_iff]
    simp only [Int.reduceNeg, decide_eq_true_eq, List.contains_iff_mem]
    constructor
    · intro h; omega
    · intro hm; obtain ⟨k, hk⟩ := List.mem_iff_getElem?.1 hm; exact absurd hk (this k)
  · obtain ⟨o, ho⟩ : ∃ o : Nat, Lib.indexByte s.data.toList c = o := ⟨(Lib.indexByte s.data.toList c).toNat, by omega⟩
    have := (Lib.indexByte_some ho).1
    rw [ho, Bool.eq_iff_iff]
    simp only [decide_eq_true_eq, List.contains_iff_mem]
    exact ⟨fun _ => List.mem_of_getElem? this, fun _ => by omega⟩

theorem tokS_no {s : ByteArray} {k : Nat} (hlt : k < s.size) (hc : tokB s[k] = false) : false = tokS s := by
  unfold tokS
  have : s.data.toList.all tokB = false := by
    rw [Bool.eq_false_iff]; intro h
    have := List.all_eq_true.1 h _ (mem_at s k hlt); rw [hc] at this; cases this
  rw [this]; rfl

end Go.Proofs.Ytpgppninmnplkaa
