/- Contracts of Lower and Fold, of package ascii and of its reference. -/
import Derived.Test.YtpgppninmnplkaaAsciiA
import Derived.Laws.IdiomStrings
namespace Go.Proofs.Ytpgppninmnplkaa
open Go.RowKit

def lowB (c : UInt8) : UInt8 := if upB c.toNat then c + 32 else c
def lowS (s : ByteArray) : ByteArray := ⟨(s.data.toList.map lowB).toArray⟩
def foldS (a b : ByteArray) : Bool := (lowS a).toList == (lowS b).toList

/-- From block B on, a row of bytes l that may be written. -/
def BytesAt (w : World) (B : Nat) (l : List UInt8) : Prop :=
  ∀ j (hj : j < l.length), w.cell? ⟨B, j, none⟩ = some (.int .u8 (l[j].toNat : Int)) ∧ w.frozen? ⟨B, j, none⟩ = false

theorem BytesAt.set {w : World} {B : Nat} {l : List UInt8} (h : BytesAt w B l) {k : Nat} (hk : k < l.length) (c : UInt8) :
    BytesAt (w.setCell ⟨B, k, none⟩ (.int .u8 (c.toNat : Int))) B (l.set k c) := by
  intro j hj
  have hj' : j < l.length := by simpa using hj
  obtain ⟨h1, h2⟩ := h j hj'
  obtain ⟨k1, _⟩ := h k hk
  constructor
  · by_cases e : k = j
    · subst e
      rw [World.cell?_setCell_same _ _ _ k1]; simp
    · rw [World.cell?_setCell_other _ _ _ _ (by intro hh; apply e; cases hh; rfl)]
      rw [h1, List.getElem_set_ne e]
  · rw [← h2]; exact World.frozen?_setCell ..

theorem bytesAt_new (w : World) (s : ByteArray) (cap : Nat) :
    BytesAt (w.alloc (.cells (bytesRow s cap) 5 ((bytesRow s cap).size, (bytesRow s cap).size + 1))).drew w.heap.size s.data.toList := by
  intro j hj
  have hj' : j < s.data.size := by simpa using hj
  constructor
  · show (w.alloc _).cell? _ = _
    rw [World.cell?_alloc_mark, bytesRow_at s _ j hj']; simp
  · show (w.alloc _).frozen? _ = _
    rw [World.frozen?_alloc_mark]
    have : j < (bytesRow s cap).size := by
      have h := bytesRow_at s cap j hj'
      exact (Array.getElem?_eq_some_iff.1 h).1
    simp; omega

/-- The row after k rounds: the first k bytes lowered. -/
def lowRow (s : ByteArray) (k : Nat) : List UInt8 := (s.data.toList.take k).map lowB ++ s.data.toList.drop k
theorem lowRow_length (s : ByteArray) (k : Nat) : (lowRow s k).length = s.size := by
  unfold lowRow
  have : s.data.toList.length = s.size := by simp
  rw [List.length_append, List.length_map, List.length_take, List.length_drop]; omega
theorem lowRow_at (s : ByteArray) (k : Nat) (h : k < s.size) : (lowRow s k)[k]'(by rw [lowRow_length]; exact h) = s[k] := by
  unfold lowRow
  have hl : ((s.data.toList.take k).map lowB).length = k := by simp; omega
  rw [List.getElem_append_right (by omega), List.getElem_drop]
  have e : k + (k - ((s.data.toList.take k).map lowB).length) = k := by omega
  simp only [e]
  show s.data.toList[k] = s.data[k]
  simp
theorem lowRow_set (s : ByteArray) (k : Nat) (h : k < s.size) : lowRow s (k + 1) = (lowRow s k).set k (lowB s[k]) := by
  unfold lowRow
  have hl : ((s.data.toList.take k).map lowB).length = k := by simp; omega
  have hd : s.data.toList.drop k = s[k] :: s.data.toList.drop (k + 1) := by
    rw [List.drop_eq_getElem_cons (by simpa using h)]; rfl
  rw [hd, List.set_append_right _ _ (by omega), hl, Nat.sub_self, List.set_cons_zero, take_snoc s k h]
  simp
theorem lowRow_same (s : ByteArray) (k : Nat) (h : k < s.size) (hb : upB s[k].toNat = false) : lowRow s (k + 1) = lowRow s k := by
  rw [lowRow_set s k h]
  have : lowB s[k] = (lowRow s k)[k]'(by rw [lowRow_length]; exact h) := by rw [lowRow_at s k h]; unfold lowB; rw [hb]; rfl
  rw [this, List.set_getElem_self]
theorem lowRow_zero (s : ByteArray) : lowRow s 0 = s.data.toList := by simp [lowRow]
theorem lowRow_all (s : ByteArray) (k : Nat) (h : k ≤ s.size) (h2 : ¬ k < s.size) : lowRow s k = (s.data.toList.map lowB) := by
  have e : k = s.size := by omega
  unfold lowRow
  rw [take_all s k h h2, List.drop_of_length_le (by simp; omega)]; simp
theorem lowB_val (c : UInt8) (h : upB c.toNat = true) : ((lowB c).toNat : Int) = (c.toNat : Int) - 65 + 97 := by
  unfold lowB; rw [if_pos h]
  unfold upB at h; simp at h
  rw [UInt8.toNat_add]
  have : (32 : UInt8).toNat = 32 := rfl
  omega
theorem lowB_val' (c : UInt8) (h : upB c.toNat = true) : ((lowB c).toNat : Int) = (c.toNat : Int) + 32 := by
  rw [lowB_val c h]; omega

end Go.Proofs.Ytpgppninmnplkaa
