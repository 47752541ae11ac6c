/- Plain facts on lists of bytes: trimming from both ends. -/
import Derived.Lib.SlTrimSet
import Derived.Lib.IndexBytes
import Derived.Lib.Split
namespace Go.Proofs.YtcniajbfgfikjaaDoor
open Go

/-- The blanks: 32 and 9. -/
def blanks : List UInt8 := [32, 9]
def blankB (c : UInt8) : Bool := blanks.contains c
def rdrop (p : UInt8 → Bool) (l : List UInt8) : List UInt8 := (l.reverse.dropWhile p).reverse

theorem rdrop_cons (p : UInt8 → Bool) (a : UInt8) (t : List UInt8) : rdrop p (a :: t) = if (rdrop p t).isEmpty then [a].dropWhile p else a :: rdrop p t := by
  unfold rdrop
  rw [List.reverse_cons, List.dropWhile_append]
  have : (t.reverse.dropWhile p).reverse.isEmpty = (t.reverse.dropWhile p).isEmpty := by simp
  rw [this]
  split
  · cases h : p a <;> simp [List.dropWhile, h]
  · simp
theorem rdrop_nil (p : UInt8 → Bool) : rdrop p [] = [] := rfl
theorem rdrop_empty (p : UInt8 → Bool) : ∀ t : List UInt8, (rdrop p t).isEmpty = t.all p
  | [] => rfl
  | a :: t => by
    rw [rdrop_cons, List.all_cons, rdrop_empty p t]
    cases ht : t.all p <;> cases h : p a <;> simp [List.dropWhile, h]
theorem dropWhile_all (p : UInt8 → Bool) : ∀ t : List UInt8, t.all p = true → t.dropWhile p = []
  | [], _ => rfl
  | a :: t, h => by
    rw [List.all_cons, Bool.and_eq_true] at h
    rw [List.dropWhile_cons, if_pos h.1]; exact dropWhile_all p t h.2

theorem trim_comm (p : UInt8 → Bool) : ∀ l : List UInt8, (rdrop p l).dropWhile p = rdrop p (l.dropWhile p)
  | [] => rfl
  | a :: t => by
    cases h : p a
    · have e : (a :: t).dropWhile p = a :: t := by rw [List.dropWhile_cons, if_neg (by simp [h])]
      rw [e, rdrop_cons]
      split
      · simp [List.dropWhile, h]
      · rw [List.dropWhile_cons, if_neg (by simp [h])]
    · have e : (a :: t).dropWhile p = t.dropWhile p := by rw [List.dropWhile_cons, if_pos h]
      rw [e, rdrop_cons, rdrop_empty]
      split
      · rename_i ht
        rw [dropWhile_all p t ht]; simp [List.dropWhile, h, rdrop]
      · rw [List.dropWhile_cons, if_pos h]; exact trim_comm p t

theorem dropWhile_idem (p : UInt8 → Bool) : ∀ l : List UInt8, (l.dropWhile p).dropWhile p = l.dropWhile p
  | [] => rfl
  | a :: t => by
    cases h : p a
    · rw [List.dropWhile_cons, if_neg (by simp [h]), List.dropWhile_cons, if_neg (by simp [h])]
    · rw [List.dropWhile_cons, if_pos h]; exact dropWhile_idem p t
theorem rdrop_idem (p : UInt8 → Bool) (l : List UInt8) : rdrop p (rdrop p l) = rdrop p l := by
  unfold rdrop; rw [List.reverse_reverse, dropWhile_idem]

/-- Trim: the blanks of both ends are cut off. -/
def trimL (l : List UInt8) : List UInt8 := (rdrop blankB l).dropWhile blankB
theorem trimL_eq (l : List UInt8) : Lib.trimS l [32, 9] = trimL l := rfl
theorem trimL_idem (l : List UInt8) : trimL (trimL l) = trimL l := by
  unfold trimL
  rw [trim_comm, dropWhile_idem, ← trim_comm, rdrop_idem]
theorem trimL_front (l : List UInt8) (c : UInt8) (h : blankB c = true) : trimL (c :: l) = trimL l := by
  unfold trimL; rw [trim_comm, trim_comm, List.dropWhile_cons, if_pos h]
theorem trimL_back (l : List UInt8) (c : UInt8) (h : blankB c = true) : trimL (l ++ [c]) = trimL l := by
  unfold trimL rdrop; rw [List.reverse_append]; simp only [List.reverse_cons, List.reverse_nil, List.nil_append, List.cons_append]
  rw [List.dropWhile_cons, if_pos h]
theorem length_dropWhile (p : UInt8 → Bool) : ∀ l : List UInt8, (l.dropWhile p).length ≤ l.length
  | [] => Nat.le_refl _
  | a :: t => by
    rw [List.dropWhile_cons]; split
    · have := length_dropWhile p t; simp; omega
    · exact Nat.le_refl _
theorem trimL_length (l : List UInt8) : (trimL l).length ≤ l.length := by
  unfold trimL
  have h1 := length_dropWhile blankB (rdrop blankB l)
  have h2 : (rdrop blankB l).length ≤ l.length := by
    unfold rdrop; rw [List.length_reverse]; have := length_dropWhile blankB l.reverse; simpa using this
  omega
def trimBA (s : ByteArray) : ByteArray := ⟨(trimL s.data.toList).toArray⟩
theorem trimBA_list (s : ByteArray) : (trimBA s).data.toList = trimL s.data.toList := by simp [trimBA]
theorem trimBA_size (s : ByteArray) : (trimBA s).size ≤ s.size := by
  have := trimL_length s.data.toList
  have h1 : (trimBA s).size = (trimL s.data.toList).length := by show (trimBA s).data.size = _; simp [trimBA]
  have h2 : s.size = s.data.toList.length := by simp
  omega
theorem ba_ext {a b : ByteArray} (h : a.data.toList = b.data.toList) : a = b := by
  cases a; cases b; simp at h; simp [h]
theorem trimBA_idem (s : ByteArray) : trimBA (trimBA s) = trimBA s := ba_ext (by rw [trimBA_list, trimBA_list, trimL_idem])

/-- One step of the loop from the front, and its end. -/
theorem drop_step (t : ByteArray) (h : 0 < t.size) (hb : blankB t[0] = true) : (t.extract 1 t.size).data.toList.dropWhile blankB = t.data.toList.dropWhile blankB := by
  rw [Lib.extract_to_end]
  have e : t.data.toList = t[0] :: t.data.toList.drop 1 := by
    have : 0 < t.data.toList.length := by simpa using h
    rw [← List.drop_zero (l := t.data.toList), List.drop_eq_getElem_cons this]; simp; rfl
  conv => rhs; rw [e]
  rw [List.dropWhile_cons, if_pos hb]
theorem drop_end (t : ByteArray) (hb : ∀ h : 0 < t.size, blankB t[0] = false) : t.data.toList.dropWhile blankB = t.data.toList := by
  by_cases h : 0 < t.size
  · have e : t.data.toList = t[0] :: t.data.toList.drop 1 := by
      have : 0 < t.data.toList.length := by simpa using h
      rw [← List.drop_zero (l := t.data.toList), List.drop_eq_getElem_cons this]; simp; rfl
    rw [e, List.dropWhile_cons, if_neg (by simp [hb h])]
  · have : t.data.toList = [] := by apply List.eq_nil_of_length_eq_zero; have hl : t.data.toList.length = t.size := by simp
                                    omega
    rw [this]; rfl
theorem back_eq (t : ByteArray) (h : 0 < t.size) : t.data.toList = t.data.toList.take (t.size - 1) ++ [t[t.size - 1]] := by
  have h1 : t.size - 1 < t.data.toList.length := by simp; omega
  have : t.data.toList.take (t.size - 1 + 1) = t.data.toList := by rw [List.take_of_length_le]; simp; omega
  rw [List.take_succ_eq_append_getElem h1] at this
  exact this.symm
theorem rdrop_step (t : ByteArray) (h : 0 < t.size) (hb : blankB t[t.size - 1] = true) : rdrop blankB (t.extract 0 (t.size - 1)).data.toList = rdrop blankB t.data.toList := by
  rw [Lib.extract_from_zero]
  conv => rhs; rw [back_eq t h]
  unfold rdrop
  rw [List.reverse_append]; simp only [List.reverse_cons, List.reverse_nil, List.nil_append, List.cons_append]
  rw [List.dropWhile_cons, if_pos hb]
theorem rdrop_end (t : ByteArray) (hb : ∀ h : 0 < t.size, blankB t[t.size - 1] = false) : rdrop blankB t.data.toList = t.data.toList := by
  by_cases h : 0 < t.size
  · conv => lhs; rw [back_eq t h]
    unfold rdrop
    rw [List.reverse_append]; simp only [List.reverse_cons, List.reverse_nil, List.nil_append, List.cons_append]
    rw [List.dropWhile_cons, if_neg (by simp [hb h])]
    rw [List.reverse_cons, List.reverse_reverse]; exact (back_eq t h).symm
  · have : t.data.toList = [] := by apply List.eq_nil_of_length_eq_zero; have hl : t.data.toList.length = t.size := by simp
                                    omega
    rw [this]; rfl
end Go.Proofs.YtcniajbfgfikjaaDoor
