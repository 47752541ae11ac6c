/- Slices of strings in memory: one that is read, one that the call appends to, one that is kept beside it. -/
import Derived.Test.YtcniajbfgfikjaaDoorAsciiA
import Derived.Deep.AppendLies
namespace Go.Proofs.YtcniajbfgfikjaaDoor
open Go.RowKit

theorem lt_cell {w : World} {a : Addr} {v : Value} (h : w.cell? a = some v) : a.block < w.heap.size := by
  rcases Nat.lt_or_ge a.block w.heap.size with h' | h'
  · exact h'
  · simp [World.cell?, Array.getElem?_eq_none h'] at h
theorem below_trans {w w1 w2 : World} (h : Below w.heap.size w w1) (k : Below w1.heap.size w1 w2) : Below w.heap.size w w2 := h.trans (k.mono h.size)
theorem below_cell {w w' : World} (h : Below w.heap.size w w') {a : Addr} {v : Value} (hc : w.cell? a = some v) : w'.cell? a = some v := by
  rw [h.cell (lt_cell hc)]; exact hc

/-- The slice at a holds the strings l. -/
def StrsAt (w : World) (a : Option Addr) (l : List ByteArray) : Prop :=
  ∀ j (hj : j < l.length), ∃ b off, a = some ⟨b, off, none⟩ ∧ w.cell? ⟨b, off + j, none⟩ = some (.string l[j])
theorem StrsAt.keep {w w' : World} {a : Option Addr} {l : List ByteArray} (h : StrsAt w a l) (hb : Below w.heap.size w w') : StrsAt w' a l := fun j hj => by
  obtain ⟨b, off, e, hc⟩ := h j hj
  exact ⟨b, off, e, below_cell hb hc⟩
theorem StrsAt.nil (w : World) (a : Option Addr) : StrsAt w a [] := fun _ hj => absurd hj (Nat.not_lt_zero _)

/-- The call returns a slice of the strings l; what was there is as it was. -/
def RetStrs (w : World) (l : List ByteArray) (e : Ending) (w' : World) : Prop :=
  ∃ a cap, e = .returned (.slice a l.length cap) ∧ StrsAt w' a l ∧ Below w.heap.size w w'
/-- The same, and the slice is new and not nil. -/
def RetFresh (w : World) (l : List ByteArray) (e : Ending) (w' : World) : Prop :=
  ∃ g cap, e = .returned (.slice (some ⟨g, 0, none⟩) l.length cap) ∧ w.heap.size ≤ g ∧ g < w'.heap.size ∧ StrsAt w' (some ⟨g, 0, none⟩) l ∧ Below w.heap.size w w'

theorem Tryd.info9 : (Tryd.prog.info? 9).map (fun i => (i.zero, i.size, i.bytes)) = some (some (.string ⟨#[]⟩), 1, 16) := by kernel_rfl

/-- v is a slice of the call's own with the strings l; what was there before the call is as it was. -/
def Acc (w0 w : World) (v : Value) (l : List ByteArray) : Prop :=
  w.ownsRow w0.heap.size 9 1 v l.length (l.map Value.string) ∧ Below w0.heap.size w0 w
/-- Beside v lies the slice P of the strings parts. -/
def Aside (w : World) (v : Value) (P : Nat) (parts : List ByteArray) : Prop :=
  StrsAt w (some ⟨P, 0, none⟩) parts ∧ v.ownBlock ≠ some P ∧ P < w.heap.size

theorem Acc.start (w : World) : Acc w w (.slice none 0 0) [] := ⟨World.ownsRow_nil _ _ _ _, Below.refl _ _⟩
theorem Acc.size {w0 w : World} {v : Value} {l : List ByteArray} (h : Acc w0 w v l) : w0.heap.size ≤ w.heap.size := h.2.size
theorem ownsRow_keep {w w' : World} {base : Nat} {e : TypeId} {size n : Nat} {v : Value} {xs : List Value} (h : w.ownsRow base e size v n xs) (hb : Below w.heap.size w w') : w'.ownsRow base e size v n xs := by
  obtain ⟨h1, h2⟩ := h
  refine ⟨h1, ?_⟩
  rcases h2 with h2 | ⟨g, cap, cur, hv, hg, hc, r⟩
  · exact .inl h2
  · have hlt : g < w.heap.size := by
      rcases Nat.lt_or_ge g w.heap.size with h' | h'
      · exact h'
      · rw [Array.getElem?_eq_none h'] at hc; cases hc
    exact .inr ⟨g, cap, cur, hv, hg, by rw [hb.block g hlt]; exact hc, r⟩
theorem Acc.keep {w0 w w' : World} {v : Value} {l : List ByteArray} (h : Acc w0 w v l) (hb : Below w.heap.size w w') : Acc w0 w' v l :=
  ⟨ownsRow_keep h.1 hb, h.2.trans (hb.mono h.2.size)⟩
theorem Aside.keep {w w' : World} {v : Value} {P : Nat} {parts : List ByteArray} (h : Aside w v P parts) (hb : Below w.heap.size w w') : Aside w' v P parts :=
  ⟨h.1.keep hb, h.2.1, Nat.lt_of_lt_of_le h.2.2 hb.size⟩
theorem Acc.lt {w0 w : World} {v : Value} {l : List ByteArray} (h : Acc w0 w v l) {k : Nat} (hk : v.ownBlock = some k) : k < w.heap.size := (World.ownsRow.lt h.1 k hk).2
/-- A slice that is new beside v. -/
theorem Aside.fresh {w0 w w' : World} {v : Value} {l : List ByteArray} (h : Acc w0 w v l) {P : Nat} {parts : List ByteArray} (hP : w.heap.size ≤ P) (hlt : P < w'.heap.size) (hs : StrsAt w' (some ⟨P, 0, none⟩) parts) : Aside w' v P parts :=
  ⟨hs, fun e => by have := h.lt e; omega, hlt⟩
/-- The shape of v. -/
theorem Acc.shape {w0 w : World} {v : Value} {l : List ByteArray} (h : Acc w0 w v l) : ∃ a cap, v = .slice a l.length cap ∧ StrsAt w a l := by
  obtain ⟨⟨h1, h2⟩, _⟩ := h
  rcases h2 with ⟨rfl, h2⟩ | ⟨g, cap, cur, rfl, hg, hc, hcap, hm, hsz, ht⟩
  · have : l = [] := List.eq_nil_of_length_eq_zero h2
    subst this
    exact ⟨none, 0, rfl, StrsAt.nil _ _⟩
  · refine ⟨_, cap, rfl, fun j hj => ⟨g, 0, rfl, ?_⟩⟩
    have e : cur.toList[j]? = some (Value.string l[j]) := by
      have := congrArg (fun x => x[j]?) ht
      simp only [Nat.mul_one] at this
      rw [List.getElem?_take_of_lt hj, List.getElem?_map, List.getElem?_eq_getElem hj] at this
      exact this
    simp only [World.cell?, hc, Nat.zero_add]
    simpa using e

theorem Acc.isNew {w0 w : World} {v : Value} {l : List ByteArray} (h : Acc w0 w v l) (hne : l ≠ []) : ∃ g cap, v = .slice (some ⟨g, 0, none⟩) l.length cap ∧ w0.heap.size ≤ g ∧ g < w.heap.size ∧ StrsAt w (some ⟨g, 0, none⟩) l := by
  obtain ⟨a, cap, hv, hs⟩ := h.shape
  have hpos : 0 < l.length := by cases l with
    | nil => exact absurd rfl hne
    | cons _ _ => simp
  obtain ⟨⟨h1, h2⟩, hb⟩ := h
  rcases h2 with ⟨_, h2⟩ | ⟨g, cap', cur, hv', hg, hc, _⟩
  · omega
  · rw [hv] at hv'; cases hv'
    have hlt : g < w.heap.size := by
      rcases Nat.lt_or_ge g w.heap.size with h' | h'
      · exact h'
      · rw [Array.getElem?_eq_none h'] at hc; cases hc
    exact ⟨g, cap, hv, hg, hlt, hs⟩

section
variable {ops : Array Oper} {rest : List Oper} {o : Oper} {act : Act} {Q : Exit → Act → World → Prop}
/-- APPEND of one string to a slice of the call's own. -/
theorem wpList_append_acc (w : World) (hgd : o.guard = none) (s x : Operand) (ho : o.op = .call { callee := .builtin .append, args := #[s, x], argTypes := #[30, 30] })
    {w0 : World} {v : Value} {l : List ByteArray} (hs : act.eval s = v) (h : Acc w0 w v l) {b c : Nat} (hx : act.eval x = .slice (some ⟨b, 0, none⟩) 1 c) {y : ByteArray} (hy : w.cell? ⟨b, 0, none⟩ = some (.string y))
    (hn : l.length + 1 ≤ 8796093022208)
    (K : ∀ g cap w', Acc w0 w' (.slice (some ⟨g, 0, none⟩) (l.length + 1) cap) (l ++ [y]) → (∀ P parts, Aside w v P parts → Aside w' (.slice (some ⟨g, 0, none⟩) (l.length + 1) cap) P parts) →
      wpList Tryd.prog ops Q rest (act.put o.dst (.slice (some ⟨g, 0, none⟩) (l.length + 1) cap)) w') : wpList Tryd.prog ops Q (o :: rest) act w := by
  obtain ⟨i0, hi, hz0, hz1, hz2⟩ := info_parts Tryd.info9
  refine wpList_append_lies w hgd s x 30 ho w0.heap.size 9 i0 (.string ⟨#[]⟩) 1 16 Tryd.underlying30 hi hz0 hz1 hz2 rfl (by decide) v l.length (l.map Value.string) hs h.1 ⟨b, 0, none⟩ 1 c [.string y] hx rfl ?_ ?_ (by decide) (by unfold maxLen; omega) (by omega) h.2.size w.heap.size rfl ?_
  · intro j u hj
    match j, hj with
    | 0, hj => simp at hj; subst hj; rw [Addr.add_lit]; exact hy
    | j + 1, hj => simp at hj
  · intro u hu; simp at hu; subst hu; rfl
  · intro g cap w' hown hgrow hg hlt
    have hacc : Acc w0 w' (.slice (some ⟨g, 0, none⟩) (l.length + 1) cap) (l ++ [y]) := by
      refine ⟨by simpa using hown, h.2.grown hgrow h.2.size fun k hk => ?_⟩
      exact (World.ownsRow.lt h.1 k hk).1
    refine K g cap w' hacc (fun P parts hP => ⟨fun j hj => ?_, ?_, ?_⟩)
    · obtain ⟨b', off, e, hc⟩ := hP.1 j hj
      cases e
      exact ⟨P, 0, rfl, hgrow.cell hc (fun e => hP.2.1 e.symm)⟩
    · intro e
      have : g = P := by simpa [Value.ownBlock] using e
      subst this
      rcases hg with hg | hg
      · exact hP.2.1 hg
      · have := hP.2.2; omega
    · exact Nat.lt_of_lt_of_le hP.2.2 hgrow.size
end
end Go.Proofs.YtcniajbfgfikjaaDoor
