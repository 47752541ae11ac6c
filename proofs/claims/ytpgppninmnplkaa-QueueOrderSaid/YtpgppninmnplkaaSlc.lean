/- Slices of slices of bytes: read, built in a region, opened among the arguments. -/
import Derived.Test.YtpgppninmnplkaaLocA
import Derived.Deep.Matrix
namespace Go.Proofs.Ytpgppninmnplkaa
open Go.ChangeShapes Go.WideShapes Go.ChangeAt Go.RowKit

/-- The slice at a holds slices of bytes, which hold ls. -/
def SlcIn (w : World) (a : Option Addr) (ls : List (List UInt8)) : Prop :=
  ∀ j (hj : j < ls.length), ∃ x ba bc, a = some x ∧ w.cell? (x.add j) = some (.slice ba ls[j].length bc) ∧ IsBytes w ba ls[j] bc
theorem SlcIn.keep {w w' : World} {a : Option Addr} {ls : List (List UInt8)} (h : SlcIn w a ls) (hb : Below w.heap.size w w') : SlcIn w' a ls := fun j hj => by
  obtain ⟨x, ba, bc, h1, h2, h3⟩ := h j hj
  exact ⟨x, ba, bc, h1, below_cell hb h2, h3.keep hb⟩
theorem slcIn_nil (w : World) (a : Option Addr) : SlcIn w a [] := fun _ hj => absurd hj (Nat.not_lt_zero _)

theorem alloc_cell_new (w : World) (cs : Array Value) (t : TypeId) (fr : Nat × Nat) (j : Nat) : (w.alloc (.cells cs t fr)).cell? ⟨w.heap.size, j, none⟩ = cs[j]? :=
  cell_of_row _ _ _ _ _ _ (heap_alloc_new w (.cells cs t fr))
theorem below_one (w : World) (o : Obj) : Below w.heap.size w (w.alloc o) := (Below.refl _ _).alloc (Nat.le_refl _) _
theorem slcIn_build1 {w : World} {a : Option Addr} {l : List UInt8} {c : Nat} (h : IsBytes w a l c) (t : TypeId) (fr : Nat × Nat) :
    SlcIn (w.alloc (.cells #[.slice a l.length c] t fr)) (some ⟨w.heap.size, 0, none⟩) [l] := fun j hj => by
  obtain rfl : j = 0 := by simpa using hj
  refine ⟨_, a, c, rfl, ?_, h.keep (below_one _ _)⟩
  rw [Addr.add_lit, Nat.zero_add, alloc_cell_new]; rfl
theorem slcIn_build2 {w : World} {a b : Option Addr} {l k : List UInt8} {c d : Nat} (h : IsBytes w a l c) (h2 : IsBytes w b k d) (t : TypeId) (fr : Nat × Nat) :
    SlcIn (w.alloc (.cells #[.slice a l.length c, .slice b k.length d] t fr)) (some ⟨w.heap.size, 0, none⟩) [l, k] := fun j hj => by
  have hj' : j < 2 := by simpa using hj
  match j, hj' with
  | 0, _ =>
    refine ⟨_, a, c, rfl, ?_, h.keep (below_one _ _)⟩
    rw [Addr.add_lit, Nat.zero_add, alloc_cell_new]; rfl
  | 1, _ =>
    refine ⟨_, b, d, rfl, ?_, h2.keep (below_one _ _)⟩
    rw [Addr.add_lit, Nat.zero_add, alloc_cell_new]; rfl
def SlcV (w : World) (v : Value) (ls : List (List UInt8)) : Prop := ∃ a c, v = .slice a ls.length c ∧ SlcIn w a ls
theorem SlcV.keep {w w' : World} {v : Value} {ls : List (List UInt8)} (h : SlcV w v ls) (hb : Below w.heap.size w w') : SlcV w' v ls := by
  obtain ⟨a, c, h1, h2⟩ := h
  exact ⟨a, c, h1, h2.keep hb⟩
def Spec.slc (ls : List (List UInt8)) : Spec := ⟨fun v w => SlcV w v ls, fun _ _ _ h hb => h.keep hb⟩

section
variable {Q : Exit → Act → World → Prop} {a : Act} {w : World} {o : Oper} {s : Spec}
theorem Try.info22 : (Try.prog.info? 22).map (fun i => (i.zero, i.size, i.bytes)) = some (some (.slice none 0 0), 1, 24) := by kernel_rfl
theorem run_build_slices (W : World) (a b : Option Addr) (n m c d : Nat) :
    (Instr.buildSlice 39 2 #[(0, .slice a n c), (1, .slice b m d)]).run Try.prog W = .ok (.slice (some ⟨W.heap.size, 0, none⟩) 2 2) (W.alloc (.cells #[.slice a n c, .slice b m d] 22)) := by
  obtain ⟨i0, hi, hz0, hz1, hz2⟩ := info_parts Try.info22
  exact run_buildSlice W 39 22 2 _ _ i0 _ Try.underlying39 hi hz0 (by rw [hz1]; decide) (by rw [hz1]; decide) (by rw [hz1]; simp [Instr.fill, Value.cells, Array.range_succ, show Array.range 0 = #[] from rfl])
theorem run_build_slices1 (W : World) (a : Option Addr) (n c : Nat) :
    (Instr.buildSlice 39 1 #[(0, .slice a n c)]).run Try.prog W = .ok (.slice (some ⟨W.heap.size, 0, none⟩) 1 1) (W.alloc (.cells #[.slice a n c] 22)) := by
  obtain ⟨i0, hi, hz0, hz1, hz2⟩ := info_parts Try.info22
  exact run_buildSlice W 39 22 1 _ _ i0 _ Try.underlying39 hi hz0 (by rw [hz1]; decide) (by rw [hz1]; decide) (by rw [hz1]; simp [Instr.fill, Value.cells, Array.range_succ, show Array.range 0 = #[] from rfl])
theorem loc_slices1 {x : Operand} (ho : o.op = .buildSlice 39 1 #[(0, x)]) {l : List UInt8} (hx : BytesV w (a.eval x) l) (hs : ∀ v w', SlcV w' v [l] → s.p v w') :
    o.wp Try.prog a w (fun a' w' => ∃ v, a' = a.put o.dst v ∧ Below w.heap.size w w' ∧ s.p v w') Q := by
  obtain ⟨xa, xc, hx1, hx2⟩ := hx
  have hrun := run_build_slices1 w xa l.length xc
  refine loc_run (v := .slice (some ⟨w.heap.size, 0, none⟩) 1 1) (w' := w.alloc (.cells #[.slice xa l.length xc] 22)) ?_ (below_one _ _) (hs _ _ ⟨_, 1, rfl, slcIn_build1 hx2 _ _⟩)
  unfold execOp
  simp only [ho, List.map_toArray, List.map_cons, List.map_nil, hx1]
  rw [Sem.run_bind, hrun]; rfl
theorem loc_slices2 {x y : Operand} (ho : o.op = .buildSlice 39 2 #[(0, x), (1, y)]) {l k : List UInt8} (hx : BytesV w (a.eval x) l) (hy : BytesV w (a.eval y) k) (hs : ∀ v w', SlcV w' v [l, k] → s.p v w') :
    o.wp Try.prog a w (fun a' w' => ∃ v, a' = a.put o.dst v ∧ Below w.heap.size w w' ∧ s.p v w') Q := by
  obtain ⟨xa, xc, hx1, hx2⟩ := hx
  obtain ⟨ya, yc, hy1, hy2⟩ := hy
  have hrun := run_build_slices w xa ya l.length k.length xc yc
  refine loc_run (v := .slice (some ⟨w.heap.size, 0, none⟩) 2 2) (w' := w.alloc (.cells #[.slice xa l.length xc, .slice ya k.length yc] 22)) ?_ (below_one _ _) (hs _ _ ⟨_, 2, rfl, slcIn_build2 hx2 hy2 _ _⟩)
  unfold execOp
  simp only [ho, List.map_toArray, List.map_cons, List.map_nil, hx1, hy1]
  rw [Sem.run_bind, hrun]; rfl
end

theorem open_byteses {H : Type} {enc : TypeId × Value → H} {W : World} {a : Option Addr} {len cap : Nat} {d : DataW H} {ps : List MemPlace} {base : Nat}
    (h : DataW.Trod enc Try.prog W base (fun _ => true) true 39 (.slice a len cap) d ps) :
    ∃ ls : List (List UInt8), len = ls.length ∧ SlcIn W a ls ∧ ls.length ≤ cap ∧ cap ≤ maxLen := by
  obtain ⟨fuel, hf⟩ := h
  rcases Go.Deep.open_int_rows Try.underlying39 Try.underlying22 Try.underlying5 (by kernel_rfl) (by kernel_rfl) hf with ⟨hcs, _⟩ | ⟨x, n, c, A, L, C, Z, hcs, _, hl, hm, _, hr⟩
  · simp [Value.cells] at hcs
    obtain ⟨rfl, rfl, rfl⟩ := hcs
    exact ⟨[], rfl, slcIn_nil _ _, Nat.le_refl _, Nat.zero_le _⟩
  · simp [Value.cells] at hcs
    obtain ⟨rfl, rfl, rfl⟩ := hcs
    have hlen : ((List.range len).map fun r => ((Z r).take (L r)).map fun z => z.toNat.toUInt8).length = len := by simp
    refine ⟨(List.range len).map fun r => ((Z r).take (L r)).map fun z => z.toNat.toUInt8, hlen.symm, fun j hj => ?_, by rw [hlen]; exact hl, hm⟩
    rw [hlen] at hj
    obtain ⟨h1, h2, h3, h4, h5, h6, h7⟩ := hr j (by omega)
    have hjl : (((Z j).take (L j)).map fun z => z.toNat.toUInt8).length = L j := by rw [List.length_map, List.length_take]; omega
    have e : ((List.range len).map fun r => ((Z r).take (L r)).map fun z => z.toNat.toUInt8)[j]'(by rw [hlen]; exact hj) = ((Z j).take (L j)).map fun z => z.toNat.toUInt8 := by simp
    refine ⟨x, A j, C j, rfl, by rw [e, hjl]; exact h1, ?_⟩
    rw [e]
    cases hA : A j with
    | none =>
      have h0 := h6 hA
      refine .inl ⟨rfl, List.eq_nil_of_length_eq_zero (by rw [hjl]; omega), h0⟩
    | some a' =>
      refine .inr ⟨a', rfl, by rw [hjl]; exact h2, h3, fun i hi => ?_⟩
      rw [hjl] at hi
      obtain ⟨_, hc⟩ := h7 a' hA
      have hz : i < (Z j).length := by omega
      rw [hc i (by omega)]
      have e2 : (Z j).getD i 0 = (Z j)[i] := by rw [List.getD_eq_getElem?_getD, List.getElem?_eq_getElem hz]; rfl
      obtain ⟨b, hb⟩ := byte_of (h5 _ (List.getElem_mem hz))
      rw [e2, hb]
      have e3 : (((Z j).take (L j)).map fun z => z.toNat.toUInt8)[i]'(by rw [hjl]; exact hi) = (Z j)[i].toNat.toUInt8 := by simp
      rw [e3, hb]
      simp
end Go.Proofs.Ytpgppninmnplkaa
