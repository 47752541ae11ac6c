/- Opening an argument that is a slice of strings. -/
import Derived.Test.YtcniajbfgfikjaaDoorOpen
import Derived.Test.YtcniajbfgfikjaaDoorStrs
import Derived.SliceStrings
namespace Go.Proofs.YtcniajbfgfikjaaDoor
open Go.ChangeShapes Go.WideShapes Go.ChangeAt Go.RowKit

/-- The slice at a reads as the strings l. -/
def StrsIn (w : World) (a : Option Addr) (l : List ByteArray) : Prop :=
  ∀ j (hj : j < l.length), ∃ x, a = some x ∧ w.cell? (x.add j) = some (.string l[j])
theorem StrsIn.keep {w w' : World} {a : Option Addr} {l : List ByteArray} (h : StrsIn w a l) (hb : Below w.heap.size w w') : StrsIn w' a l := fun j hj => by
  obtain ⟨x, e, hc⟩ := h j hj
  exact ⟨x, e, below_cell hb hc⟩
theorem StrsIn.nil (w : World) (a : Option Addr) : StrsIn w a [] := fun _ hj => absurd hj (Nat.not_lt_zero _)
theorem StrsIn.take {w : World} {a : Option Addr} {l : List ByteArray} (h : StrsIn w a l) (k : Nat) : StrsIn w a (l.take k) := fun j hj => by
  have hj' : j < l.length := by rw [List.length_take] at hj; omega
  obtain ⟨x, e, hc⟩ := h j hj'
  exact ⟨x, e, by rw [List.getElem_take]; exact hc⟩
theorem StrsIn.of_at {w : World} {a : Option Addr} {l : List ByteArray} (h : StrsAt w a l) : StrsIn w a l := fun j hj => by
  obtain ⟨b, off, e, hc⟩ := h j hj
  exact ⟨_, e, by rw [show (⟨b, off, none⟩ : Addr).add j = ⟨b, off + j, none⟩ by unfold Addr.add; split <;> simp_all]; exact hc⟩

theorem open_strings_arg {H : Type} {enc : TypeId × Value → H} {W : World} {a : Option Addr} {len cap : Nat} {d : DataW H} {ps : List MemPlace} {base : Nat}
    (h : DataW.Trod enc Tryd.prog W base (fun _ => true) true 30 (.slice a len cap) d ps) :
    ∃ l : List ByteArray, len = l.length ∧ StrsIn W a l ∧ l.length ≤ cap ∧ cap ≤ maxLen ∧ ∀ s ∈ l, s.size ≤ maxLen := by
  obtain ⟨fuel, hf⟩ := h
  rcases open_strings Tryd.underlying30 Tryd.underlying9 (by kernel_rfl) hf with ⟨hcs, _⟩ | ⟨x, l, c, zs, hcs, _, hl, hm, hz, _, hcell, hwz⟩
  · simp [Value.cells] at hcs
    obtain ⟨rfl, rfl, rfl⟩ := hcs
    exact ⟨[], rfl, StrsIn.nil _ _, Nat.le_refl _, Nat.zero_le _, fun s hs => by cases hs⟩
  · simp [Value.cells] at hcs
    obtain ⟨rfl, rfl, rfl⟩ := hcs
    have hz' : zs.length = cap := by simpa using hz
    have hlen : (zs.take len).length = len := by simp; omega
    refine ⟨zs.take len, hlen.symm, fun j hj => ⟨x, rfl, ?_⟩, by rw [hlen]; exact hl, hm, fun s hs => hwz s (List.mem_of_mem_take hs)⟩
    rw [hlen] at hj
    have hj' : j < zs.length := by omega
    have e : zs.getD j ByteArray.empty = zs[j] := by rw [List.getD_eq_getElem?_getD, List.getElem?_eq_getElem hj']; rfl
    have e2 : (zs.take len)[j]'(by rw [hlen]; exact hj) = zs[j] := by simp
    rw [hcell j hj', e, e2]
end Go.Proofs.YtcniajbfgfikjaaDoor
