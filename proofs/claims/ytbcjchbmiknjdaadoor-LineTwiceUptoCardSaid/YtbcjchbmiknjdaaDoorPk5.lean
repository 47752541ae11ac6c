/- The request that the source makes. The law LineRequest. A line that was formatted is parsed to the same fields; the law LineTwice. The law LineTwice. Opening a slice of numbers; the tables out of the listed variables. The law LineFormat. Opening a request and a reply among the arguments. -/
import Derived.Test.YtbcjchbmiknjdaaDoorPk1
import Derived.Test.YtbcjchbmiknjdaaDoorPk2
import Derived.Test.YtbcjchbmiknjdaaDoorPk3
import Derived.Test.YtbcjchbmiknjdaaDoorPk4
import Derived.Test.YtbcjchbmiknjdaaDoorRows
import Derived.WalkKit
import Derived.WalkSpells
import Derived.WalkLawsBesides
import Derived.BigQuiet
import Derived.Deep.QuietTactic
import Derived.Lib.Bytealg
import Derived.Lib.IndexLaws
import Derived.Lib.Hide
import Derived.Laws.IdiomStrings
import Derived.Lib.SlTrimSet
import Derived.Lib.IndexBytes
import Derived.Lib.Split
import Derived.Deep.AppendLies
import Derived.Shelf.Strings.SlTrimAscii
import Derived.Shelf.Strings.SplitShaped
import Derived.Shelf.LaysM
import Derived.Shelf.Strings.BuilderK
import Derived.Shelf.Strconv.Itoa4
import Derived.Test.YtbcjchbmiknjdaaDoorProg
import Derived.Lib.SplitLaws
import Derived.WalkSmall
import Derived.ProofKit
import Derived.OpenShut
import Derived.Lib.Strings
import Derived.SliceStrings
import Derived.Deep.Quiet
import Derived.Tactics
import Derived.KernelRfl
import Derived.Below
import Derived.Laws.Bits64
import Derived.Lib.SlBytesConst
import Derived.Maps.AppendAt
import Derived.Laws.AppendOwnNone
import Derived.Great.BuildSlice
import Derived.Laws.Rows
import Derived.Laws.BitsAllLaws
import Derived.Laws.Shifts
import Derived.Maps.OwnOps
import Derived.Maps.OwnSet
import Derived.Deep.SlicePairs
import Derived.Lib.AppendZerosOnto
import Derived.Lib.AppendStr
import Derived.Laws.CopyOwn
import Derived.OwnWalk
import Derived.Laws.Strings3
import Derived.Laws.Concat
import Derived.Lib.ItoaMem
import Derived.IntWalk
import Derived.Sort.Grow
import Derived.Lib.LaidTab
import Derived.LaidSub
import Derived.Laws.Bits64b
import Derived.Laws.RangeAny
import Derived.LoopTactic
import Derived.Deep.DeepCutAuto
import Derived.Deep.CutBlock
namespace Go.Proofs.YtbcjchbmiknjdaaDoor
open Go.RowKit

def Spec.nope : Spec := ⟨fun _ _ => False, fun _ _ _ h _ => h⟩
def Spec.ids (f : ByteArray → Value) : Spec := ⟨fun v _ => ∃ s, IdOk s ∧ v = f s, fun _ _ _ h _ => h⟩
def CookS (w : World) (v : Value) : Prop := ∃ s b c, IdOk s ∧ v = .slice (some ⟨b, 0, none⟩) 1 c ∧ w.cell? ⟨b, 0, none⟩ = some (.string (cookF s).1) ∧ w.cell? ⟨b, 1, none⟩ = some (.string (cookF s).2)
def Spec.cooks : Spec := ⟨fun v w => CookS w v, fun _ _ _ h hb => by
  obtain ⟨s, b, c, h1, h2, h3, h4⟩ := h
  exact ⟨s, b, c, h1, h2, below_cell hb h3, below_cell hb h4⟩⟩
def CookA (B : Nat) (x : List Fld) (w : World) (v : Value) : Prop := ∃ s, IdOk s ∧ OwnF B w v (x ++ [cookF s])
def Spec.capp (B : Nat) (x : List Fld) : Spec := ⟨fun v w => CookA B x w v, fun _ _ _ h hb => by
  obtain ⟨s, h1, h2⟩ := h
  exact ⟨s, h1, h2.keep hb⟩⟩
section
variable {Q : Exit → Act → World → Prop} {act : Act} {w : World} {o : Oper} {s : Spec} {K : Act → World → Prop}
theorem loc_slice1F {x : Operand} (ho : o.op = .buildSlice 24 1 #[(0, x)]) {f : Fld} (hx : act.eval x = .agg #[.string f.1, .string f.2]) (hs : ∀ w', w'.cell? ⟨w.heap.size, 0, none⟩ = some (.string f.1) → w'.cell? ⟨w.heap.size, 1, none⟩ = some (.string f.2) → s.p (.slice (some ⟨w.heap.size, 0, none⟩) 1 1) w') :
    o.wp Tryd.prog act w (fun a' w' => ∃ v, a' = act.put o.dst v ∧ Below w.heap.size w w' ∧ s.p v w') Q := by
  obtain ⟨i0, hi, hz0, hz1, hz2⟩ := info_parts Tryd.info60
  have hrun := run_buildSlice (P := Tryd.prog) w 24 60 1 #[(0, .agg #[.string f.1, .string f.2])] #[.string f.1, .string f.2] i0 _ Tryd.underlying24 hi hz0 (by rw [hz1]; decide) (by rw [hz1]; decide) (by rw [hz1]; simp [Instr.fill, Value.cells, Array.range_succ, show Array.range 0 = #[] from rfl])
  refine loc_run (v := .slice (some ⟨w.heap.size, 0, none⟩) 1 1) (w' := w.alloc (.cells #[.string f.1, .string f.2] 60)) ?_ (below_oneF _ _) (hs _ (by rw [new_cellF]; rfl) (by rw [new_cellF]; rfl))
  unfold execOp
  simp only [ho, List.map_toArray, List.map_cons, List.map_nil, hx]
  rw [Sem.run_bind, hrun]; rfl
theorem wp_append_oneF {x y : Operand} (ho : o.op = .call { callee := .builtin .append, args := #[x, y], argTypes := #[24, 24] }) {B : Nat} {l : List Fld} (hx : OwnF B w (act.eval x) l) {b c : Nat} {f : Fld} (hy : act.eval y = .slice (some ⟨b, 0, none⟩) 1 c)
    (h0 : w.cell? ⟨b, 0, none⟩ = some (.string f.1)) (h1 : w.cell? ⟨b, 1, none⟩ = some (.string f.2)) (hn : l.length + 1 ≤ 4398046511104) (hB : B ≤ w.heap.size)
    (h : ∀ v' w', OwnF B w' v' (l ++ [f]) → w.grownBy w' (act.eval x).ownBlock → K (act.put o.dst v') w') : o.wp Tryd.prog act w K Q := by
  obtain ⟨i0, hi, hz0, hz1, hz2⟩ := info_parts Tryd.info60
  refine wp_append_lies w x y 24 ho B 60 i0 _ 2 32 Tryd.underlying24 hi hz0 hz1 hz2 rfl (by decide) (act.eval x) l.length (cellsF l) rfl hx ⟨b, 0, none⟩ 1 c [.string f.1, .string f.2] hy rfl ?_ ?_ (by decide) (by unfold maxLen; omega) (by omega) hB w.heap.size rfl ?_
  · intro j u hj
    match j, hj with
    | 0, hj => simp at hj; subst hj; rw [Addr.add_lit]; exact h0
    | 1, hj => simp at hj; subst hj; rw [Addr.add_lit]; exact h1
    | j + 2, hj => simp at hj
  · intro u hu; simp at hu; rcases hu with rfl | rfl <;> rfl
  · intro g cap w' hown hgrow hg hlt
    refine h _ w' ?_ hgrow
    unfold OwnF
    rw [List.length_append, cellsF_app]; exact hown
theorem wp_store_slice {P : Program} {ty : TypeId} {x y : Operand} (ho : o.op = .store ty x y) {p : Addr} {sa : Option Addr} {sn sc : Nat} {u : Value} (hx : act.eval x = .pointer (some p)) (hy : act.eval y = .slice sa sn sc) (hi : (P.info? ty).map (·.size) = some 1)
    (hc : w.cell? p = some u) (hf : w.frozen? p = false) (h : K (act.put o.dst undef) (w.setCell p (.slice sa sn sc))) : o.wp P act w K Q := by
  have hz : (sizeOf ty).run P w = .ok 1 w := by
    cases hq : P.info? ty with
    | none => rw [hq] at hi; cases hi
    | some i => rw [hq] at hi; simp at hi; simp [sizeOf, typeInfo, hq, hi]
  unfold Oper.wp execOp
  simp_all [Instr.storeAt, Instr.sureAddr, storeVar, storeCells, Value.cells, go_sem]
theorem chain_call {f : FuncId} {args : List Operand} {ts : Array TypeId} {P : Program} (ho : o.op = .call { callee := .value (.func f), args := args.toArray, argTypes := ts })
    (hf : (P.funcs[f]?).map (fun fn => fn.name != "runtime.NumGoroutine" && fn.body.isSome) = some true) (h : Calls P f (args.map act.eval).toArray w fun e w' => ∃ v, e = .returned v ∧ K (act.put o.dst v) w') : o.wp P act w K Q := by
  have hrun : (execOp act.eval o).run P w = .ok (.enter f (args.map act.eval).toArray) w := by
    unfold execOp; rw [ho]
    cases hfn : P.funcs[f]? with
    | none => rw [hfn] at hf; cases hf
    | some fn =>
      rw [hfn] at hf
      simp only [Option.map_some, Option.some.injEq, Bool.and_eq_true, bne_iff_ne, ne_eq] at hf
      have hb : fn.body ≠ none := fun e => by rw [e] at hf; exact absurd hf.2 (by simp)
      simp [resolve, Deferred.ofValue, invoke, callFunc, show act.eval (.func f) = .func (.func f) #[] #[] from rfl, hfn, hf.1, hb]
  unfold Oper.wp
  rw [hrun, Oper.upon_enter]
  refine h.mono ?_
  rintro e w' ⟨v, rfl, hk⟩
  exact hk
end

theorem agg_fields (w : World) : (isAgg 24).run Tryd.prog w = .ok false w := by
  unfold isAgg; rw [Sem.run_bind, run_underlying Tryd.underlying24 w]; rfl
theorem RqSt.src {R : List Fld → Prop} {B g : Nat} {a : Option Addr} {n c : Nat} {w0 : World} {gr q : Nat} {m t : ByteArray} {w : World} (h : RqSt R B g a n c w0 gr q m t w) : Src w g a n c := by
  obtain ⟨_, _, _, _, _, _, _, h, _, _⟩ := h
  exact h
theorem RqSt.weaken {R R' : List Fld → Prop} {B g : Nat} {a : Option Addr} {n c : Nat} {w0 : World} {gr q : Nat} {m t : ByteArray} {w : World} (h : RqSt R B g a n c w0 gr q m t w) (hr : ∀ x, R x → R' x) : RqSt R' B g a n c w0 gr q m t w := by
  obtain ⟨z, vF, x, h1, h2, h3, h5, h⟩ := h
  exact ⟨z, vF, x, h1, h2, h3, hr x h5, h⟩
/-- The same with its parts named, within a region. -/
structure RqJ (g : Nat) (a : Option Addr) (n c : Nat) (w0 : World) (gr q : Nat) (m t : ByteArray) (z : Int) (vF : Value) (w : World) : Prop where
  row : w.heap[gr]? = some (.cells #[.string m, .string t, .int .i64 z, vF, .bool false, .slice none 0 0] 27 (0, 0))
  src : Src w g a n c
  grown : w0.grownBy w (some g)
  res : RVar w q ⟨#[]⟩ ⟨#[]⟩ 0
theorem RqJ.keep {g : Nat} {a : Option Addr} {n c : Nat} {w0 : World} {gr q : Nat} {m t : ByteArray} {z : Int} {vF : Value} {w w' : World} (h : RqJ g a n c w0 gr q m t z vF w) (hb : Below w.heap.size w w') : RqJ g a n c w0 gr q m t z vF w' :=
  ⟨by rw [hb.block gr (Array.getElem?_eq_some_iff.1 h.row).1]; exact h.row, h.src.keep hb, grownBy_trans h.grown (grownBy_below hb), h.res.keep hb⟩
theorem RqJ.next {B g : Nat} {a : Option Addr} {n c : Nat} {w0 : World} {gr q : Nat} {m t : ByteArray} {z : Int} {vF : Value} {w w' : World} (h : RqJ g a n c w0 gr q m t z vF w) (N : RqN B g a n w0 gr q) (hg : w.grownBy w' (some g)) (hs : Src w' g a n c) : RqJ g a n c w0 gr q m t z vF w' := by
  have n1 := N.lo
  have n2 := N.hq
  have n3 := N.hgr
  exact ⟨(hg.block gr (Array.getElem?_eq_some_iff.1 h.row).1 (fun e => by have := Option.some.inj e; omega)).trans h.row, hs, grownBy_trans h.grown hg, (hg.block q (Array.getElem?_eq_some_iff.1 h.res).1 (fun e => by have := Option.some.inj e; omega)).trans h.res⟩
theorem RqJ.app {B g : Nat} {a : Option Addr} {n c : Nat} {w0 : World} {gr q : Nat} {m t : ByteArray} {z : Int} {vF : Value} {row : Option Nat} {w w' : World} (h : RqJ g a n c w0 gr q m t z vF w) (N : RqN B g a n w0 gr q) (hg : w.grownBy w' row) (hr : ∀ k, row = some k → B ≤ k) : RqJ g a n c w0 gr q m t z vF w' := by
  have n1 := N.lo
  have n2 := N.hq
  have n3 := N.hgr
  have n4 := N.top
  exact ⟨(hg.block gr (Array.getElem?_eq_some_iff.1 h.row).1 (fun e => by have := hr _ e.symm; omega)).trans h.row, h.src.grown hg (fun e => by have := hr g e.symm; omega) (fun y e h0 e2 => by have := hr _ e2.symm; have := N.src y e h0; omega), grownBy_new h.grown hg (fun j e => by have := hr j e; omega), (hg.block q (Array.getElem?_eq_some_iff.1 h.res).1 (fun e => by have := hr q e.symm; omega)).trans h.res⟩

/-- The variable with its cells, and what is kept beside it. -/
structure RqK (B g : Nat) (a : Option Addr) (n c : Nat) (w0 : World) (gr q : Nat) (vF : Value) (x : List Fld) (cs : Array Value) (w : World) : Prop where
  row : w.heap[gr]? = some (.cells cs 27 (0, 0))
  own : OwnF B w vF x
  src : Src w g a n c
  grown : w0.grownBy w (some g)
  res : RVar w q ⟨#[]⟩ ⟨#[]⟩ 0
theorem RqK.set {B g : Nat} {a : Option Addr} {n c : Nat} {w0 : World} {gr q : Nat} {vF : Value} {x : List Fld} {cs : Array Value} {w : World} (h : RqK B g a n c w0 gr q vF x cs w) (N : RqN B g a n w0 gr q) (i : Nat) (v : Value) :
    RqK B g a n c w0 gr q vF x (cs.setIfInBounds i v) (w.setCell ⟨gr, i, none⟩ v) := by
  have n1 := N.lo
  have n2 := N.hq
  have n3 := N.hgr
  have n4 := N.top
  have hg : w.grownBy (w.setCell ⟨gr, i, none⟩ v) (some gr) := grownBy_setCell
  exact ⟨heap_setCell_same w gr i cs 27 v h.row, h.own.grown hg (fun k hk e => by have := (h.own.lt hk).1; have := Option.some.inj e; omega), h.src.other hg (by omega) (fun y e h0 => by have := N.src y e h0; omega), grownBy_new h.grown hg (fun j e => by have := Option.some.inj e; omega), (heap_setCell_other w ⟨gr, i, none⟩ q _ (by show q ≠ gr; omega)).trans h.res⟩
theorem RqK.next {B g : Nat} {a : Option Addr} {n c : Nat} {w0 : World} {gr q : Nat} {vF : Value} {x : List Fld} {cs : Array Value} {w w' : World} (h : RqK B g a n c w0 gr q vF x cs w) (N : RqN B g a n w0 gr q) (hg : w.grownBy w' (some g)) (hs : Src w' g a n c) : RqK B g a n c w0 gr q vF x cs w' := by
  have n1 := N.lo
  have n2 := N.hq
  have n3 := N.hgr
  have n4 := N.top
  exact ⟨(hg.block gr (Array.getElem?_eq_some_iff.1 h.row).1 (fun e => by have := Option.some.inj e; omega)).trans h.row, h.own.grown hg (fun k hk e => by have := (h.own.lt hk).1; have := Option.some.inj e; omega), hs, grownBy_trans h.grown hg, (hg.block q (Array.getElem?_eq_some_iff.1 h.res).1 (fun e => by have := Option.some.inj e; omega)).trans h.res⟩
theorem Own.set {B g i : Nat} {w : World} {v u : Value} {l : List UInt8} (h : Own B w v l) (hg : g < B) : Own B (w.setCell ⟨g, i, none⟩ u) v l :=
  h.grown grownBy_setCell (fun k hk e => by have := (h.lt hk).1; have := Option.some.inj e; omega)
def RqFin (B g : Nat) (a : Option Addr) (n c : Nat) (w0 : World) (gr q : Nat) (m t : ByteArray) (w : World) : Prop :=
  ∃ z vF x fr vB l, (z = 0 ∨ z = 1) ∧ RqK B g a n c w0 gr q vF x #[.string m, .string t, .int .i64 z, vF, .bool fr, vB] w ∧ Own B w vB l ∧ RF3 x ∧ l.length ≤ 30 ∧ (fr = false → l = [])

set_option maxRecDepth 100000 in
set_option maxHeartbeats 4000000 in
theorem srcReq_any (g : Nat) (a : Option Addr) (n c : Nat) (w : World) (h : Src w g a n c) :
    Calls Tryd.prog 9 #[.pointer (some ⟨g, 0, none⟩)] w (ReqMade w g a n c) := by
  have H0 := Box.mk h
  have HLOW := Box.mk h.low
  have hlt := h.lt
  clear h
  go_enter Tryd.func9, Tryd.ntmps9
  go_wp2_with fail
  obtain ⟨W, hW⟩ : ∃ W, W = (w.alloc (.cells #[.string ⟨#[]⟩, .string ⟨#[]⟩, .int .i64 0, .slice none 0 0, .bool false, .slice none 0 0] 27)).alloc (.cells (methF.map Value.string).toArray 9) := ⟨_, rfl⟩
  have HBW := Box.mk (show Below w.heap.size w W by rw [hW]; exact below_twoF (below_oneF w _) _)
  have HQ := Box.mk (show RVar W w.heap.size ⟨#[]⟩ ⟨#[]⟩ 0 by rw [hW]; exact (show RVar (w.alloc _) _ _ _ _ from heap_alloc_new _ _).keep (below_oneF _ _))
  have HL := Box.mk (show StrsIn W (some ⟨w.heap.size + 1, 0, none⟩) methF by
    have h1 := strsIn_newF (w.alloc (.cells #[.string ⟨#[]⟩, .string ⟨#[]⟩, .int .i64 0, .slice none 0 0, .bool false, .slice none 0 0] 27)) methF 9
    rw [World.size_alloc] at h1
    rw [hW]; exact h1)
  have HS := Box.mk (H0.out.keep HBW.out)
  change Calls _ _ _ ((w.alloc (.cells #[.string ⟨#[]⟩, .string ⟨#[]⟩, .int .i64 0, .slice none 0 0, .bool false, .slice none 0 0] 27)).alloc (.cells (methF.map Value.string).toArray 9)) _
  rw [← hW]
  clear hW
  refine (of_n g (w.heap.size + 1) 5 methF 5 a n c W HS.out HL.out (by omega) rfl (by decide) (by decide)).mono ?_
  rintro e w1 ⟨m, hm, rfl, hsrc, hg1⟩
  have HNM := Box.mk hm
  have HS1 := Box.mk hsrc
  have HG1 := Box.mk (show w.grownBy w1 (some g) from grownBy_trans (grownBy_below HBW.out) hg1)
  have HQ1 := Box.mk (show RVar w1 w.heap.size ⟨#[]⟩ ⟨#[]⟩ 0 from (hg1.block _ (Array.getElem?_eq_some_iff.1 HQ.out).1 (fun e => by have := Option.some.inj e; omega)).trans HQ.out)
  clear hm hsrc hg1 HS HL HQ HBW H0
  go_wp2_with fail
  obtain ⟨W, hW⟩ : ∃ W, W = w1.alloc (.cells (targF.map Value.string).toArray 9) := ⟨_, rfl⟩
  have HBW := Box.mk (show Below w1.heap.size w1 W by rw [hW]; exact below_oneF w1 _)
  have HL := Box.mk (show StrsIn W (some ⟨w1.heap.size, 0, none⟩) targF by rw [hW]; exact strsIn_newF w1 targF 9)
  have HS2 := Box.mk (HS1.out.keep HBW.out)
  have hlt1 := HS1.out.lt
  change Calls _ _ _ (w1.alloc (.cells (targF.map Value.string).toArray 9)) _
  rw [← hW]
  clear hW
  refine (of_n g w1.heap.size 4 targF 4 a n c W HS2.out HL.out (by omega) rfl (by decide) (by decide)).mono ?_
  rintro e w2 ⟨t, ht, rfl, hsrc, hg2⟩
  have HTM := Box.mk ht
  have HS3 := Box.mk hsrc
  have HG3 := Box.mk (show w.grownBy w2 (some g) from grownBy_trans HG1.out (grownBy_trans (grownBy_below HBW.out) hg2))
  have HQ3 := Box.mk (show RVar w2 w.heap.size ⟨#[]⟩ ⟨#[]⟩ 0 from (hg2.block _ (Array.getElem?_eq_some_iff.1 (HQ1.out.keep HBW.out)).1 (fun e => by have := Option.some.inj e; omega)).trans (HQ1.out.keep HBW.out))
  clear ht hsrc hg2 HS2 HL HQ1 HBW HS1 HG1
  have hgr := HG3.out.size
  have hq2 : w.heap.size < w2.heap.size := (Array.getElem?_eq_some_iff.1 HQ3.out).1
  go_wp2_with fail
  have HN := Box.mk (show RqN (w2.heap.size + 1) g a n w w2.heap.size w.heap.size from ⟨hlt, HLOW.out, rfl, hq2, Nat.lt_succ_self _⟩)
  have HST := Box.mk (show RqSt (fun x => x = []) (w2.heap.size + 1) g a n c w w2.heap.size w.heap.size m t (w2.alloc (.cells #[.string m, .string t, .int .i64 1, .slice none 0 0, .bool false, .slice none 0 0] 27)) from
    ⟨1, _, [], .inr rfl, heap_alloc_new _ _, OwnF.start _ _, rfl, HS3.out.keep (below_oneF _ _), grownBy_trans HG3.out (grownBy_below (below_oneF _ _)), HQ3.out.keep (below_oneF _ _)⟩)
  obtain ⟨W, hW⟩ : ∃ W, W = w2.alloc (.cells #[.string m, .string t, .int .i64 1, .slice none 0 0, .bool false, .slice none 0 0] 27) := ⟨_, rfl⟩
  have hgs : w2.heap.size < W.heap.size := by rw [hW, World.size_alloc]; omega
  have hsW := Box.mk (show Src W g a n c by rw [hW]; exact HS3.out.keep (below_oneF _ _))
  change Calls _ _ _ (w2.alloc (.cells #[.string m, .string t, .int .i64 1, .slice none 0 0, .bool false, .slice none 0 0] 27)) _
  rw [← hW] at HST ⊢
  clear hW HS3 HG3 HQ3
  generalize hgr0 : w2.heap.size = gr at *
  clear hgr0 hgr
  generalize hq0 : w.heap.size = q at *
  have HQ0 := Box.mk hq0
  clear hq0
  refine (next_any g 6 a n c W hsW.out (by decide) (by decide)).mono ?_
  rintro e w3 ⟨k, hk, rfl, hsrc, hg3⟩
  have HST3 := Box.mk (HST.out.next HN.out hg3 hsrc)
  clear hsrc hg3 hsW HST
  go_upto_if 13 with fail
  go_cut [] (fun wx => Box (RqSt (fun x => x = []) (gr + 1) g a n c w gr q m t wx))
  case first =>
    obtain ⟨z, vF, x, h1, h2, h3, h5, h8, h9, h10⟩ := HST3.out
    have H2 := Box.mk h2
    have HA := Box.mk (And.intro h3 (And.intro h8 (And.intro h9 h10)))
    have hf := frozen_of_row w3 gr 2 _ _ h2
    have hc2 : w3.cell? ⟨gr, 2, none⟩ = some (.int .i64 z) := by rw [cell_of_row _ _ _ _ _ _ h2]; rfl
    subst h5
    clear h1 h2 h3 h8 h9 h10
    by_cases hk0 : k = 0
    · have e0 : (((k : Nat) : Int) == 0) = true := by rw [hk0]; rfl
      clear hk0
      go_wp2_with fail
      go_meet
      exact ⟨RqSt.put HN.out (.inl rfl) H2.out rfl HA.out.1 rfl HA.out.2.1 HA.out.2.2.1 HA.out.2.2.2⟩
    · have e0 : (((k : Nat) : Int) == 0) = false := by rw [beq_eq_false_iff_ne]; omega
      clear hk0
      go_wp2_with fail
      go_meet
      exact HST3
  case rest =>
    obtain ⟨z, vF, x, h1, h2, h3, h5, h8, h9, h10⟩ := hcut.out
    have hgc : gr < wc.heap.size := (Array.getElem?_eq_some_iff.1 h2).1
    have HA := Box.mk (And.intro h1 (And.intro h2 (And.intro h8 (And.intro h9 h10))))
    clear h1 h2 h3 h5 h8 h9 h10 HST3 hcut
    go_wp2_with fail
    refine (srcFieldsS_any g 3 a n c wc HA.out.2.2.1 (by decide)).mono ?_
    rintro e w4 ⟨v4, y, rfl, hy, hyl, hyf, hsrc, hg4⟩
    have HY := Box.mk (hy.mono (show gr + 1 ≤ wc.heap.size from hgc))
    have HRF := Box.mk (show RF1 (y ++ [hostF]) from ⟨y, hyf, hyl, rfl⟩)
    have HROW := Box.mk ((hg4.block gr hgc (fun e => by have := Option.some.inj e; omega)).trans HA.out.2.1)
    have HQ4 := Box.mk (show RVar w4 q ⟨#[]⟩ ⟨#[]⟩ 0 from (hg4.block q (by omega) (fun e => by have := Option.some.inj e; omega)).trans HA.out.2.2.2.2)
    have HS4 := Box.mk hsrc
    have HG4 := Box.mk (grownBy_trans HA.out.2.2.2.1 hg4)
    have hsz4 := hg4.size
    have HZ := Box.mk HA.out.1
    clear hy hyf hsrc hg4 HA
    go_wp2_with (at_builtin; refine wpList_append_ownf _ rfl _ _ rfl rfl (HY.out.keep (below_oneF w4 (.cells #[.string hostF.1, .string hostF.2] 60))) rfl (y := hostF) ?c1 ?c2 (by omega) (by simp; omega) ?c3)
    case c1 => simp [hostF]
    case c2 => simp [hostF]
    case c3 =>
      intro v5 w5 hown hgrow
      obtain ⟨X, hX⟩ : ∃ X, y ++ [hostF] = X := ⟨_, rfl⟩
      rw [hX] at hown HRF
      clear hX
      have hb4 := below_oneF w4 (.cells #[.string hostF.1, .string hostF.2] 60)
      have HST6 := Box.mk (RqSt.app (R' := RF1) HN.out HZ.out ((hb4.block gr (Nat.lt_of_lt_of_le hgc hsz4)).trans HROW.out) rfl (fun k hk => (HY.out.lt hk).1) hgrow hown HRF.out (HS4.out.keep hb4) (grownBy_trans HG4.out (grownBy_below hb4)) (HQ4.out.keep hb4))
      have hrow := (hgrow.block gr (by rw [World.size_alloc]; omega) (fun e => by have := (HY.out.lt e.symm).1; omega)).trans ((hb4.block gr (Nat.lt_of_lt_of_le hgc hsz4)).trans HROW.out)
      have hf := frozen_of_row w5 gr 3 _ _ hrow
      have hc3 : w5.cell? ⟨gr, 3, none⟩ = some vF := by rw [cell_of_row _ _ _ _ _ _ hrow]; rfl
      obtain ⟨sa, sc, hv5, _, _⟩ := hown.shape
      subst hv5
      clear hown hgrow hrow hb4 HY HRF HROW HQ4 HS4 HG4 HZ
      go_wp2_with fail
      have hgc6 : gr < (w5.setCell ⟨gr, 3, none⟩ (.slice sa X.length sc)).heap.size := by
        obtain ⟨_, _, _, _, h2, _⟩ := HST6.out
        exact (Array.getElem?_eq_some_iff.1 h2).1
      clear hf hc3
      generalize w5.setCell ⟨gr, 3, none⟩ (.slice sa X.length sc) = W6 at *
      refine (next_any g 2 a n c W6 HST6.out.src (by decide) (by decide)).mono ?_
      rintro e w7 ⟨k2, hk2, rfl, hsrc, hg7⟩
      have HST7 := Box.mk (HST6.out.next HN.out hg7 hsrc)
      clear hsrc hg7 HST6 hgc6
      go_upto_if 23 with fail
      go_cut [] (fun wx => Box (RqSt RF2 (gr + 1) g a n c w gr q m t wx))
      case first =>
        by_cases hk0 : k2 = 0
        · have e0 : (((k2 : Nat) : Int) == 0) = true := by rw [hk0]; rfl
          clear hk0
          obtain ⟨z, vF, x, h1, h2, h3, h5, h8, h9, h10⟩ := HST7.out
          have HZ := Box.mk h1
          have HJ := Box.mk (show RqJ g a n c w gr q m t z vF w7 from ⟨h2, h8, h9, h10⟩)
          have HF := Box.mk h3
          have HR := Box.mk h5
          have hx4 := h5.made.2
          clear h1 h2 h3 h5 h8 h9 h10 HST7
          go_wp2_with fail
          rename_i J hJ _
          have hgw : gr < w7.heap.size := (Array.getElem?_eq_some_iff.1 HJ.out.row).1
          refine wp_region_phases [3, 7, 9] (fun p => match p with | 0 => [0, 1, 2] | 1 => [0, 1, 4, 5, 6] | 2 => [8] | _ => [])
            (fun p => match p with
              | 0 => [.val (.pointer (some ⟨gr, 3, none⟩)), .val vF, .val (.pointer (some ⟨g, 0, none⟩)), .nope, .nope, .nope, .nope, .nope, .nope, .any]
              | 1 => [.val (.pointer (some ⟨gr, 3, none⟩)), .val vF, .any, .ids (fun s => .string s), .ids (fun s => .string (cohort ++ s)), .ids (fun s => .agg #[.string (cookF s).1, .string (cookF s).2]), .cooks, .nope, .nope, .any]
              | 2 => [.any, .any, .any, .any, .any, .any, .any, .capp (gr + 1) x, .val (.pointer (some ⟨gr, 3, none⟩)), .any]
              | _ => [.any, .any, .any, .any, .any, .any, .any, .any, .any, .any])
            (fun p => match p with
              | 0 => fun wx => RqJ g a n c w gr q m t z vF wx ∧ OwnF (gr + 1) wx vF x ∧ gr < wx.heap.size
              | 1 => fun wx => RqJ g a n c w gr q m t z vF wx ∧ OwnF (gr + 1) wx vF x ∧ gr < wx.heap.size
              | 2 => fun wx => RqJ g a n c w gr q m t z vF wx
              | _ => fun wx => RqSt RF2 (gr + 1) g a n c w gr q m t wx)
            (by kernel_rfl) (by kernel_rfl) (by kernel_rfl) (by kernel_rfl) (by kernel_rfl) (by kernel_rfl) ?_ ⟨HJ.out, HF.out, hgw⟩ ?_ ?_ ?_
          · intro p w1 w2 h hb
            match p, h with
            | 0, h => exact ⟨h.1.keep hb, h.2.1.keep hb, Nat.lt_of_lt_of_le h.2.2 hb.size⟩
            | 1, h => exact ⟨h.1.keep hb, h.2.1.keep hb, Nat.lt_of_lt_of_le h.2.2 hb.size⟩
            | 2, h => exact RqJ.keep h hb
            | (_ + 3), h => exact RqSt.keep h hb
          · intro p hp
            match p, hp with
            | 0, _ =>
              refine ⟨?_, ?_, ?_, trivial⟩ <;> intro a1 w1 hv hf hd
              · exact ⟨wanted_none rfl, loc_fieldR rfl (hf.base 3 rfl) (by decide) rfl⟩
              · exact ⟨wanted_none rfl, loc_cell rfl (hd 0 rfl) (by rw [cell_of_row _ _ _ _ _ _ hv.1.row]; rfl) (agg_fields _) rfl⟩
              · exact ⟨wanted_none rfl, loc_move rfl (hf.base 0 rfl)⟩
            | 1, _ =>
              refine ⟨?_, ?_, ?_, ?_, ?_, trivial⟩ <;> intro a1 w1 hv hf hd
              · exact ⟨wanted_none rfl, loc_fieldR rfl (hf.base 3 rfl) (by decide) rfl⟩
              · exact ⟨wanted_none rfl, loc_cell rfl (hd 0 rfl) (by rw [cell_of_row _ _ _ _ _ _ hv.1.row]; rfl) (agg_fields _) rfl⟩
              · obtain ⟨s, hs, e⟩ := hd 3 rfl
                exact ⟨wanted_none rfl, loc_addS (b := cohort) rfl rfl e (by rw [hs.1]; decide) ⟨s, hs, rfl⟩⟩
              · obtain ⟨s, hs, e⟩ := hd 4 rfl
                exact ⟨wanted_none rfl, loc_buildF (b := (cookF s).1) (c := (cookF s).2) rfl rfl e ⟨s, hs, rfl⟩⟩
              · obtain ⟨s, hs, e⟩ := hd 5 rfl
                exact ⟨wanted_none rfl, loc_slice1F (f := cookF s) rfl e fun w' h0 h1 => ⟨s, _, _, hs, rfl, h0, h1⟩⟩
            | 2, _ =>
              refine ⟨?_, trivial⟩
              intro a1 w1 hv hf hd
              exact ⟨wanted_none rfl, loc_fieldR rfl (hf.base 3 rfl) (by decide) rfl⟩
            | 3, _ => exact trivial
          · intro p hp
            match p, hp with
            | 0, _ =>
              intro a2 w2 hv hf hd
              refine ⟨wanted_none rfl, chain_call rfl (by kernel_rfl) ?_⟩
              show Calls _ _ #[a2.eval (.tmp 26)] w2 _
              rw [show a2.eval (.tmp 26) = .pointer (some ⟨g, 0, none⟩) from hd 2 rfl]
              refine (srcID_any g a n c w2 hv.1.src).mono ?_
              rintro e w' ⟨s, rfl, h16, hhex, hsrc, hg⟩
              exact ⟨_, rfl, _, rfl, ⟨hv.1.next HN.out hg hsrc, hv.2.1.grown hg (fun k hk e => by have := (hv.2.1.lt hk).1; have := Option.some.inj e; omega), Nat.lt_of_lt_of_le hv.2.2 hg.size⟩, ⟨s, ⟨h16, hhex⟩, rfl⟩,
                ⟨.inr fun _ _ h => h, .inr fun _ _ h => h, .inr fun _ _ _ => trivial, .inl rfl, .inr fun _ _ h => h.elim, .inr fun _ _ h => h.elim, .inr fun _ _ h => h.elim, .inr fun _ _ h => h.elim, .inr fun _ _ h => h.elim, .inr fun _ _ _ => trivial, trivial⟩⟩
            | 1, _ =>
              intro a2 w2 hv hf hd
              have e25 : a2.eval (.tmp 25) = vF := hd 1 rfl
              obtain ⟨s, b, cb, hs, e30, h0, h1⟩ := hd 6 rfl
              refine ⟨wanted_none rfl, wp_append_oneF rfl (by show OwnF (gr + 1) w2 (a2.eval (.tmp 25)) x; rw [e25]; exact hv.2.1) e30 h0 h1 (by omega) hv.2.2 fun v' w3 hown hgrow => ?_⟩
              rw [show a2.eval (.tmp 25) = vF from e25] at hgrow
              exact ⟨v', rfl, hv.1.app HN.out hgrow (fun k hk => (hv.2.1.lt hk).1), ⟨s, hs, hown⟩,
                ⟨.inr fun _ _ _ => trivial, .inr fun _ _ _ => trivial, .inr fun _ _ _ => trivial, .inr fun _ _ _ => trivial, .inr fun _ _ _ => trivial, .inr fun _ _ _ => trivial, .inr fun _ _ _ => trivial, .inl rfl, .inr fun _ _ h => h.elim, .inr fun _ _ _ => trivial, trivial⟩⟩
            | 2, _ =>
              intro a2 w2 hv hf hd
              obtain ⟨s, hs, hown⟩ := hd 7 rfl
              obtain ⟨sa, sc, e31, _, _⟩ := hown.shape
              have e32 : a2.eval (.tmp 32) = .pointer (some ⟨gr, 3, none⟩) := hd 8 rfl
              refine ⟨wanted_none rfl, wp_store_slice (u := vF) rfl e32 e31 (by kernel_rfl) (by rw [cell_of_row _ _ _ _ _ _ hv.row]; rfl) (frozen_of_row w2 gr 3 _ _ hv.row) ?_⟩
              rw [e31] at hown
              exact ⟨undef, rfl, RqSt.put HN.out HZ.out hv.row rfl hown (.inr ⟨x, s, HR.out, hs, rfl⟩) hv.src hv.grown hv.res, trivial,
                ⟨.inr fun _ _ _ => trivial, .inr fun _ _ _ => trivial, .inr fun _ _ _ => trivial, .inr fun _ _ _ => trivial, .inr fun _ _ _ => trivial, .inr fun _ _ _ => trivial, .inr fun _ _ _ => trivial, .inr fun _ _ _ => trivial, .inr fun _ _ _ => trivial, .inl rfl, trivial⟩⟩
          · intro a2 w2 hv hf hh
            clear hh
            rw [fr_putAll hf]
            clear hf
            simp only [putAll]
            generalize a2.eval (.tmp 24) = u24
            generalize a2.eval (.tmp 25) = u25
            generalize a2.eval (.tmp 26) = u26
            generalize a2.eval (.tmp 27) = u27
            generalize a2.eval (.tmp 28) = u28
            generalize a2.eval (.tmp 29) = u29
            generalize a2.eval (.tmp 30) = u30
            generalize a2.eval (.tmp 31) = u31
            generalize a2.eval (.tmp 32) = u32
            clear a2
            simp only [Act.put, List.setIfInBounds_toArray, List.set_cons_succ, List.set_cons_zero]
            refine hJ _ _ ?_
            go_meet
            exact ⟨hv⟩
        · have e0 : (((k2 : Nat) : Int) == 0) = false := by rw [beq_eq_false_iff_ne]; omega
          clear hk0
          go_wp2_with fail
          go_meet
          exact ⟨HST7.out.weaken fun _ h => .inl h⟩
      case rest =>
        have HSTC := Box.mk hcut.out
        clear hcut HST7
        go_wp2_with fail
        refine (next_any g 5 a n c wc HSTC.out.src (by decide) (by decide)).mono ?_
        rintro e w8 ⟨k3, hk3, rfl, hsrc, hg8⟩
        have HST8 := Box.mk (HSTC.out.next HN.out hg8 hsrc)
        clear hsrc hg8 HSTC
        go_upto_if 35 with fail
        go_cut [] (fun wx => Box (RqSt RF3 (gr + 1) g a n c w gr q m t wx))
        case first =>
          by_cases hk0 : k3 = 0
          · have e0 : (((k3 : Nat) : Int) == 0) = true := by rw [hk0]; rfl
            clear hk0
            obtain ⟨z, vF, x, h1, h2, h3, h5, h8, h9, h10⟩ := HST8.out
            have hgw : gr < w8.heap.size := (Array.getElem?_eq_some_iff.1 h2).1
            have hb8 := below_oneF w8 (.cells #[.string expF.1, .string expF.2] 60)
            have hc3 : w8.cell? ⟨gr, 3, none⟩ = some vF := by rw [cell_of_row _ _ _ _ _ _ h2]; rfl
            have HA := Box.mk (And.intro h1 (And.intro h2 (And.intro h3 (And.intro h5 (And.intro h8 (And.intro h9 h10))))))
            have HB8 := Box.mk hb8
            have hx5 := h5.made.2
            clear h1 h2 h3 h5 h8 h9 h10 hb8 HST8
            go_wp2_with (at_builtin; refine wpList_append_ownf _ rfl _ _ rfl rfl (HA.out.2.2.1.keep HB8.out) rfl (y := expF) ?d1 ?d2 (by omega) (by simp; omega) ?d3)
            case d1 => simp [expF]
            case d2 => simp [expF]
            case d3 =>
              intro v9 w9 hown hgrow
              obtain ⟨X9, hX⟩ : ∃ X9, x ++ [expF] = X9 := ⟨_, rfl⟩
              have HRF9 := Box.mk (show RF3 X9 by rw [← hX]; exact .inr ⟨x, HA.out.2.2.2.1, rfl⟩)
              rw [hX] at hown
              clear hX
              have HST9 := Box.mk (RqSt.app (R' := RF3) HN.out HA.out.1 ((HB8.out.block gr hgw).trans HA.out.2.1) rfl (fun k hk => (HA.out.2.2.1.lt hk).1) hgrow hown HRF9.out (HA.out.2.2.2.2.1.keep HB8.out) (grownBy_trans HA.out.2.2.2.2.2.1 (grownBy_below HB8.out)) (HA.out.2.2.2.2.2.2.keep HB8.out))
              have hrow := (hgrow.block gr (by rw [World.size_alloc]; omega) (fun e => by have := (HA.out.2.2.1.lt e.symm).1; omega)).trans ((HB8.out.block gr hgw).trans HA.out.2.1)
              have hf := frozen_of_row w9 gr 3 _ _ hrow
              have hc3 : w9.cell? ⟨gr, 3, none⟩ = some vF := by rw [cell_of_row _ _ _ _ _ _ hrow]; rfl
              obtain ⟨sa9, sc9, hv9, _, _⟩ := hown.shape
              subst hv9
              clear hown hgrow hrow HA HRF9
              go_wp2_with fail
              go_meet
              exact HST9
          · have e0 : (((k3 : Nat) : Int) == 0) = false := by rw [beq_eq_false_iff_ne]; omega
            clear hk0
            go_wp2_with fail
            go_meet
            exact ⟨HST8.out.weaken fun _ h => .inl h⟩
        case rest =>
          have HSTC := Box.mk hcut.out
          clear hcut HST8
          go_wp2_with fail
          refine (next_any g 4 a n c wc HSTC.out.src (by decide) (by decide)).mono ?_
          rintro e wa ⟨k4, hk4, rfl, hsrc, hga⟩
          obtain ⟨z, vF, x, h1, h2, h3, h5, h8, h9, h10⟩ := HSTC.out.next HN.out hga hsrc
          have HK := Box.mk (show RqK (gr + 1) g a n c w gr q vF x #[.string m, .string t, .int .i64 z, vF, .bool false, .slice none 0 0] wa from ⟨h2, h3, h8, h9, h10⟩)
          have HZ := Box.mk h1
          have HR := Box.mk h5
          have hf4 := frozen_of_row wa gr 4 _ _ h2
          have hf5 := frozen_of_row wa gr 5 _ _ h2
          clear h1 h2 h3 h5 h8 h9 h10 hsrc hga HSTC
          go_upto_block 0 with fail
          go_cut [] (fun wx => Box (RqFin (gr + 1) g a n c w gr q m t wx))
          case first =>
            have hc4 : wa.cell? ⟨gr, 4, none⟩ = some (.bool false) := by rw [cell_of_row _ _ _ _ _ _ HK.out.row]; rfl
            have hc5 : wa.cell? ⟨gr, 5, none⟩ = some (.slice none 0 0) := by rw [cell_of_row _ _ _ _ _ _ HK.out.row]; rfl
            have hc2 : wa.cell? ⟨gr, 2, none⟩ = some (.int .i64 z) := by rw [cell_of_row _ _ _ _ _ _ HK.out.row]; rfl
            by_cases hk0 : k4 = 0
            · have e0 : (((k4 : Nat) : Int) == 0) = true := by rw [hk0]; rfl
              clear hk0 hf4 hf5 hc4 hc5 hc2
              go_wp2_with fail
              refine (srcBytes_any g 30 a n c wa HK.out.src (by decide)).mono ?_
              rintro e wb ⟨vB, l, rfl, hB, hl, hsrc, hgb⟩
              have HKB := Box.mk (HK.out.next HN.out hgb hsrc)
              have HBB := Box.mk (hB.mono (show gr + 1 ≤ wa.heap.size from (Array.getElem?_eq_some_iff.1 HK.out.row).1))
              clear hB hsrc hgb HK
              obtain ⟨sB, cB, hvB, _⟩ := HBB.out.val
              subst hvB
              have hf4 := frozen_of_row wb gr 4 _ _ HKB.out.row
              have hf5 := frozen_of_row wb gr 5 _ _ HKB.out.row
              have hc4 : wb.cell? ⟨gr, 4, none⟩ = some (.bool false) := by rw [cell_of_row _ _ _ _ _ _ HKB.out.row]; rfl
              have hc5 : wb.cell? ⟨gr, 5, none⟩ = some (.slice none 0 0) := by rw [cell_of_row _ _ _ _ _ _ HKB.out.row]; rfl
              go_wp2_with fail
              go_meet
              exact ⟨⟨z, vF, x, true, _, l, HZ.out, (HKB.out.set HN.out 4 _).set HN.out 5 _, (HBB.out.set (Nat.lt_succ_self _)).set (Nat.lt_succ_self _), HR.out, hl, fun h => by cases h⟩⟩
            · have e0 : (((k4 : Nat) : Int) == 0) = false := by rw [beq_eq_false_iff_ne]; omega
              by_cases hk1 : k4 = 1
              · have e1 : (((k4 : Nat) : Int) == 1) = true := by rw [hk1]; rfl
                clear hk0 hk1
                rcases HZ.out with rfl | rfl
                · go_wp2_with fail
                  go_meet
                  exact ⟨⟨0, vF, x, false, _, [], .inl rfl, (HK.out.set HN.out 4 _).set HN.out 5 _, Own.start _ _, HR.out, by decide, fun _ => rfl⟩⟩
                · have HK5 := Box.mk ((HK.out.set HN.out 4 (.bool true)).set HN.out 5 (.slice none 0 0))
                  go_wp2_with fail
                  generalize (wa.setCell ⟨gr, 4, none⟩ (.bool true)).setCell ⟨gr, 5, none⟩ (.slice none 0 0) = wq at *
                  refine (srcBytes_any g 30 a n c wq HK5.out.src (by decide)).mono ?_
                  rintro e wb ⟨vB, l, rfl, hB, hl, hsrc, hgb⟩
                  have HKB := Box.mk (HK5.out.next HN.out hgb hsrc)
                  have HBB := Box.mk (hB.mono (show gr + 1 ≤ wq.heap.size from (Array.getElem?_eq_some_iff.1 HK5.out.row).1))
                  clear hB hsrc hgb HK HK5 hf4 hf5 hc4 hc5 hc2
                  obtain ⟨sB, cB, hvB, _⟩ := HBB.out.val
                  subst hvB
                  have hf5 := frozen_of_row wb gr 5 _ _ HKB.out.row
                  have hc5 : wb.cell? ⟨gr, 5, none⟩ = some (.slice none 0 0) := by rw [cell_of_row _ _ _ _ _ _ HKB.out.row]; rfl
                  go_wp2_with fail
                  go_meet
                  exact ⟨⟨1, vF, x, true, _, l, .inr rfl, HKB.out.set HN.out 5 _, HBB.out.set (Nat.lt_succ_self _), HR.out, hl, fun h => by cases h⟩⟩
              · have e1 : (((k4 : Nat) : Int) == 1) = false := by rw [beq_eq_false_iff_ne]; omega
                clear hk0 hk1
                go_wp2_with fail
                go_meet
                exact ⟨⟨z, vF, x, false, _, [], HZ.out, HK.out, Own.start _ _, HR.out, by decide, fun _ => rfl⟩⟩
          case rest =>
            obtain ⟨z, vF, x, fr, vB, l, h1, hk, hB, hR, hl, hfr⟩ := hcut.out
            obtain ⟨sF, cF, hvF, _, _⟩ := hk.own.shape
            obtain ⟨sB, cB, hvB, _⟩ := hB.val
            subst hvF hvB
            have hrow := hk.row
            have hres := hk.res
            have HK2 := Box.mk hk
            have HB2 := Box.mk (And.intro hB (And.intro hR (And.intro hl hfr)))
            have HZ2 := Box.mk h1
            clear hk hB hR hl hfr h1 hcut HK HZ HR
            go_wp2_with (first | (refine wpList_load_row rfl 27 _ rfl gr rfl 27 _ (0, 0) _ hrow Tryd.underlying27 rfl sizeR ?_) | (refine wpList_store_row rfl 27 _ _ rfl q #[.string m, .string t, .int .i64 z, .slice sF x.length cF, .bool fr, .slice sB l.length cB] rfl rfl 27 _ hres sizeR rfl (by simp [Value.oneCell']) ?_))
            (try simp only [Exit.inBlock, Exit.then])
            refine bodyPost_ret (results_cell_row rfl _ _ q _ _ _ _ rfl (setRow_heap _ _ _ _ _ _ hres) Tryd.underlying27 rfl sizeR) rfl ?_
            have hnew := grownBy_setRowF wc q #[.string m, .string t, .int .i64 z, .slice sF x.length cF, .bool fr, .slice sB l.length cB]
            have hq9 := HQ0.out
            have n3 := HN.out.hgr
            exact ⟨m, t, z, _, x, fr, _, l, rfl, HNM.out, HTM.out, HZ2.out, (HK2.out.own.grown hnew (fun k hk e => by have := (HK2.out.own.lt hk).1; have := Option.some.inj e; omega)).mono (by omega), (HB2.out.1.grown hnew (fun k hk e => by have := (HB2.out.1.lt hk).1; have := Option.some.inj e; omega)).mono (by omega),
              HB2.out.2.1, HB2.out.2.2.1, HB2.out.2.2.2, HK2.out.src.other hnew (by omega) (fun y e h0 => by have := HLOW.out y e h0; omega), grownBy_new HK2.out.grown hnew (fun i e => by have := Option.some.inj e; omega)⟩
end Go.Proofs.YtbcjchbmiknjdaaDoor
namespace Go.Proofs.YtbcjchbmiknjdaaDoor
open Go.RowKit

theorem Own.bytes {B : Nat} {w : World} {v : Value} {l : List UInt8} (h : Own B w v l) : ∃ a c, v = .slice a l.length c ∧ IsBytes w a l c := h.val
theorem lawReq_any (b : Option Addr) (n c : Nat) (w : World) (hi : IntsF w b n) (hn : n ≤ maxLen) :
    Calls Tryd.prog 9 #[.pointer (some ⟨w.heap.size, 0, none⟩)] (w.alloc (.cells #[.slice b n c, .int .i64 0] 30)) fun e w' =>
      ∃ m t z sF x cF fr sB l cB, e = .returned (.agg #[.string m, .string t, .int .i64 z, .slice sF (List.length x) cF, .bool fr, .slice sB (List.length l) cB]) ∧ tokS m = true ∧ targetS t = true ∧ m.size ≤ 1000 ∧ t.size ≤ 1000 ∧ (z = 0 ∨ z = 1) ∧ FldsC w' sF x cF ∧ RF3 x ∧ IsBytes w' sB l cB ∧ l.length ≤ 30 ∧ Below w.heap.size w w' := by
  refine (srcReq_any w.heap.size b n c _ (src_box hi hn)).mono ?_
  rintro e w' ⟨m, t, z, vF, x, fr, vB, l, rfl, hm, ht, hz, hF, hB, hR, hl, _, _, hg⟩
  obtain ⟨sF, cF, rfl, h1, _⟩ := hF.shape
  obtain ⟨sB, cB, rfl, h2⟩ := hB.bytes
  exact ⟨m, t, z, sF, x, cF, fr, sB, l, cB, rfl, (meth_at hm).1, (targ_at ht).1, (meth_at hm).2, (targ_at ht).2, hz, h1, hR, h2, hl, below_box (below_oneF w _) hg⟩
theorem fmtReq_size (m t : ByteArray) (z : Int) (hm : m.size ≤ 1000) (ht : t.size ≤ 1000) : (fmtReq m t z).size ≤ 1000000000 := by
  unfold fmtReq
  split
  · rename_i h
    have h1 := fmtS_small h.2.2.1 h.2.2.2
    simp only [ByteArray.size_append]
    have e1 : http1.size = 8 := rfl
    have e2 : (⟨#[32]⟩ : ByteArray).size = 1 := rfl
    omega
  · exact Nat.zero_le _

section
variable (line : ByteArray) (b : Option Addr) (n cb : Nat) (at_ : Int) (c : UInt8) (wild : Int) (mm : Int) (w : World)
set_option maxRecDepth 100000 in
set_option maxHeartbeats 4000000 in
theorem lineRequest_raw (hw : (bits .and .i64 wild 1 == 0) = false) (hs : line.size ≤ 1000000000) (hm : w.cell? ⟨0, 0, none⟩ = some (.int .i64 mm)) :
    Calls Tryd.prog 3 #[.string line, .slice b n cb, .int .i64 at_, .int .u8 c.toNat, .int .i64 wild] w fun e w' => e = .returned (.bool true) ∧ Below w.heap.size w w' := by
  have HM := Box.mk hm
  clear hm
  have HSZ := Box.mk hs
  have HB := Box.mk (Below.refl w.heap.size w)
  clear hs
  go_enter Tryd.func3, Tryd.ntmps3
  go_wp2_with fail
  refine (projParseReq_any line _ mm (by have := HSZ.out; omega) (below_cell HB.out HM.out)).mono ?_
  rintro e w1 ⟨he, hb1⟩
  rw [reqV_of] at he
  generalize hq : reqOf (lineR (splitS 32 line)) = q at he
  obtain ⟨m1, t1, z1, er⟩ := q
  have HQ := Box.mk hq
  simp only [] at he
  clear hq
  subst he
  have HB1 := Box.mk (below_trans HB.out hb1)
  have HV1 := Box.mk (show RVar (w1.alloc (.cells #[.string m1, .string t1, .int .i64 z1, .slice none 0 0, .bool false, .slice none 0 0] 27)) w1.heap.size m1 t1 z1 from heap_alloc_new _ _)
  have HB2 := Box.mk (below_trans HB1.out (below_oneF w1 (.cells #[.string m1, .string t1, .int .i64 z1, .slice none 0 0, .bool false, .slice none 0 0] 27)))
  clear hb1 HB1
  go_wp2_with fail
  refine (refParseReq_any line _ (by have := HSZ.out; omega)).mono ?_
  rintro e w2 ⟨he, hb2⟩
  rw [reqV_of, HQ.out] at he
  simp only [] at he
  subst he
  obtain ⟨hlt, hc0, hc1, hc2, hc3, hc4, hc5⟩ := (HV1.out.keep hb2).cells
  have HB3 := Box.mk (below_trans (below_trans HB2.out hb2) (below_oneF w2 (.cells #[.string m1, .string t1, .int .i64 z1, .slice none 0 0, .bool false, .slice none 0 0] 27)))
  clear hb2 HB2 HV1
  go_wp2_with fail
  refine (sameReq_nil m1 t1 z1 _).mono ?_
  rintro e w3 ⟨rfl, hb3⟩
  have HB4 := Box.mk (below_trans HB3.out hb3)
  clear hb3 HB3 hc0 hc1 hc2 hc3 hc4 hc5
  go_wp2_with fail
  refine (awakeL_any _ mm (below_cell HB4.out HM.out)).mono ?_
  rintro e w4 ⟨rfl, hb4⟩
  have HB5 := Box.mk (below_trans HB4.out hb4)
  clear hb4 HB4
  go_wp2_with fail
  go_ret
  exact ⟨rfl, HB5.out⟩
set_option maxRecDepth 100000 in
set_option maxHeartbeats 4000000 in
theorem lineRequest_fmt (hw : (bits .and .i64 wild 1 == 0) = true) (hw2 : (bits .and .i64 wild 2 == 2) = false) (hi : IntsF w b n) (hn : n ≤ maxLen) (hm : w.cell? ⟨0, 0, none⟩ = some (.int .i64 mm)) :
    Calls Tryd.prog 3 #[.string line, .slice b n cb, .int .i64 at_, .int .u8 c.toNat, .int .i64 wild] w fun e w' => e = .returned (.bool true) ∧ Below w.heap.size w w' := by
  have HM := Box.mk hm
  clear hm
  have HI := Box.mk (And.intro hi hn)
  clear hi hn
  go_enter Tryd.func3, Tryd.ntmps3
  go_wp2_with fail
  refine (lawReq_any b n cb w HI.out.1 HI.out.2).mono ?_
  rintro e w5 ⟨m, t, z, sF, x, cF, fr, sB, l, cB, rfl, hm1, ht1, hmz, htz, hz, _, _, _, _, hb5⟩
  have HB5 := Box.mk hb5
  clear hm1 ht1 hz hb5
  go_wp2_with fail
  refine (refFormatReq_any m t z sF sB x.length cF l.length cB fr _ (by omega) (by omega)).mono ?_
  rintro e w6 ⟨he, hb6⟩
  generalize hL : fmtReq m t z = L at he
  have HLS := Box.mk (show L.size ≤ 1000000000 by rw [← hL]; exact fmtReq_size _ _ _ hmz htz)
  have HB := Box.mk (below_trans HB5.out hb6)
  clear hL hb6 HB5
  subst he
  go_wp2_with fail
  refine (projParseReq_any L _ mm (by have := HLS.out; omega) (below_cell HB.out HM.out)).mono ?_
  rintro e w1 ⟨he, hb1⟩
  rw [reqV_of] at he
  generalize hq : reqOf (lineR (splitS 32 L)) = q at he
  obtain ⟨m1, t1, z1, er⟩ := q
  have HQ := Box.mk hq
  simp only [] at he
  clear hq
  subst he
  have HB1 := Box.mk (below_trans HB.out hb1)
  have HV1 := Box.mk (show RVar (w1.alloc (.cells #[.string m1, .string t1, .int .i64 z1, .slice none 0 0, .bool false, .slice none 0 0] 27)) w1.heap.size m1 t1 z1 from heap_alloc_new _ _)
  have HB2 := Box.mk (below_trans HB1.out (below_oneF w1 (.cells #[.string m1, .string t1, .int .i64 z1, .slice none 0 0, .bool false, .slice none 0 0] 27)))
  clear hb1 HB1
  go_wp2_with fail
  refine (refParseReq_any L _ (by have := HLS.out; omega)).mono ?_
  rintro e w2 ⟨he, hb2⟩
  rw [reqV_of, HQ.out] at he
  simp only [] at he
  subst he
  obtain ⟨hlt, hc0, hc1, hc2, hc3, hc4, hc5⟩ := (HV1.out.keep hb2).cells
  have HB3 := Box.mk (below_trans (below_trans HB2.out hb2) (below_oneF w2 (.cells #[.string m1, .string t1, .int .i64 z1, .slice none 0 0, .bool false, .slice none 0 0] 27)))
  clear hb2 HB2 HV1
  go_wp2_with fail
  refine (sameReq_nil m1 t1 z1 _).mono ?_
  rintro e w3 ⟨rfl, hb3⟩
  have HB4 := Box.mk (below_trans HB3.out hb3)
  clear hb3 HB3 hc0 hc1 hc2 hc3 hc4 hc5
  go_wp2_with fail
  refine (awakeL_any _ mm (below_cell HB4.out HM.out)).mono ?_
  rintro e w4 ⟨rfl, hb4⟩
  have HB5 := Box.mk (below_trans HB4.out hb4)
  clear hb4 HB4
  go_wp2_with fail
  go_ret
  exact ⟨rfl, HB5.out⟩
set_option maxRecDepth 100000 in
set_option maxHeartbeats 4000000 in
theorem lineRequest_spoil (hw : (bits .and .i64 wild 1 == 0) = true) (hw2 : (bits .and .i64 wild 2 == 2) = true) (hi : IntsF w b n) (hn : n ≤ maxLen) (hm : w.cell? ⟨0, 0, none⟩ = some (.int .i64 mm)) :
    Calls Tryd.prog 3 #[.string line, .slice b n cb, .int .i64 at_, .int .u8 c.toNat, .int .i64 wild] w fun e w' => e = .returned (.bool true) ∧ Below w.heap.size w w' := by
  have HM := Box.mk hm
  clear hm
  have HI := Box.mk (And.intro hi hn)
  clear hi hn
  go_enter Tryd.func3, Tryd.ntmps3
  go_wp2_with fail
  refine (lawReq_any b n cb w HI.out.1 HI.out.2).mono ?_
  rintro e w5 ⟨m, t, z, sF, x, cF, fr, sB, l, cB, rfl, hm1, ht1, hmz, htz, hz, _, _, _, _, hb5⟩
  have HB5 := Box.mk hb5
  clear hm1 ht1 hz hb5
  go_wp2_with fail
  refine (refFormatReq_any m t z sF sB x.length cF l.length cB fr _ (by omega) (by omega)).mono ?_
  rintro e w6 ⟨he, hb6⟩
  generalize hL : fmtReq m t z = L at he
  have HLS := Box.mk (show L.size ≤ 1000000000 by rw [← hL]; exact fmtReq_size _ _ _ hmz htz)
  have HB := Box.mk (below_trans HB5.out hb6)
  clear hL hb6 HB5
  subst he
  go_wp2_with fail
  refine (spoil_any L at_ c _ HLS.out).mono ?_
  rintro e w7 ⟨u, huz, rfl, hb7⟩
  have HB7 := Box.mk (below_trans HB.out hb7)
  have HSZ7 := Box.mk (show u.size ≤ 1000000000 by have := HLS.out; omega)
  clear huz hb7 HB
  go_wp2_with fail
  refine (projParseReq_any u _ mm (by have := HSZ7.out; omega) (below_cell HB7.out HM.out)).mono ?_
  rintro e w1 ⟨he, hb1⟩
  rw [reqV_of] at he
  generalize hq : reqOf (lineR (splitS 32 u)) = q at he
  obtain ⟨m1, t1, z1, er⟩ := q
  have HQ := Box.mk hq
  simp only [] at he
  clear hq
  subst he
  have HB1 := Box.mk (below_trans HB7.out hb1)
  have HV1 := Box.mk (show RVar (w1.alloc (.cells #[.string m1, .string t1, .int .i64 z1, .slice none 0 0, .bool false, .slice none 0 0] 27)) w1.heap.size m1 t1 z1 from heap_alloc_new _ _)
  have HB2 := Box.mk (below_trans HB1.out (below_oneF w1 (.cells #[.string m1, .string t1, .int .i64 z1, .slice none 0 0, .bool false, .slice none 0 0] 27)))
  clear hb1 HB1
  go_wp2_with fail
  refine (refParseReq_any u _ (by have := HSZ7.out; omega)).mono ?_
  rintro e w2 ⟨he, hb2⟩
  rw [reqV_of, HQ.out] at he
  simp only [] at he
  subst he
  obtain ⟨hlt, hc0, hc1, hc2, hc3, hc4, hc5⟩ := (HV1.out.keep hb2).cells
  have HB3 := Box.mk (below_trans (below_trans HB2.out hb2) (below_oneF w2 (.cells #[.string m1, .string t1, .int .i64 z1, .slice none 0 0, .bool false, .slice none 0 0] 27)))
  clear hb2 HB2 HV1
  go_wp2_with fail
  refine (sameReq_nil m1 t1 z1 _).mono ?_
  rintro e w3 ⟨rfl, hb3⟩
  have HB4 := Box.mk (below_trans HB3.out hb3)
  clear hb3 HB3 hc0 hc1 hc2 hc3 hc4 hc5
  go_wp2_with fail
  refine (awakeL_any _ mm (below_cell HB4.out HM.out)).mono ?_
  rintro e w4 ⟨rfl, hb4⟩
  have HB5 := Box.mk (below_trans HB4.out hb4)
  clear hb4 HB4
  go_wp2_with fail
  go_ret
  exact ⟨rfl, HB5.out⟩
theorem lineRequest_any (hs : line.size ≤ 1000000000) (hi : IntsF w b n) (hn : n ≤ maxLen) (hm : w.cell? ⟨0, 0, none⟩ = some (.int .i64 mm)) :
    Calls Tryd.prog 3 #[.string line, .slice b n cb, .int .i64 at_, .int .u8 c.toNat, .int .i64 wild] w fun e w' => e = .returned (.bool true) ∧ Below w.heap.size w w' := by
  by_cases h1 : (bits .and .i64 wild 1 == 0) = true
  · by_cases h2 : (bits .and .i64 wild 2 == 2) = true
    · exact lineRequest_spoil line b n cb at_ c wild mm w h1 h2 hi hn hm
    · exact lineRequest_fmt line b n cb at_ c wild mm w h1 (by simpa using h2) hi hn hm
  · exact lineRequest_raw line b n cb at_ c wild mm w (by simpa using h1) hs hm
end
end Go.Proofs.YtbcjchbmiknjdaaDoor
namespace Go.Proofs.YtbcjchbmiknjdaaDoor
open Go.RowKit

theorem splitL_one (c : UInt8) : ∀ l : List UInt8, ¬ c ∈ l → splitL c l = [l]
  | [], _ => rfl
  | b :: t, h => by
    have hb : ¬ b = c := fun e => h (by rw [e]; exact List.mem_cons_self)
    have ih := splitL_one c t (fun e => h (List.mem_cons_of_mem _ e))
    rw [splitL, if_neg hb, ih]; rfl
theorem tok_blank {m : ByteArray} (h : tokS m = true) : ¬ (32 : UInt8) ∈ m.data.toList := fun e => by
  unfold tokS at h
  rw [Bool.and_eq_true] at h
  have := List.all_eq_true.1 h.1 32 e
  revert this; decide +kernel
theorem targ_blank {t : ByteArray} (h : targetS t = true) : ¬ (32 : UInt8) ∈ t.data.toList := fun e => by
  unfold targetS at h
  rw [Bool.and_eq_true] at h
  have := List.all_eq_true.1 h.1 32 e
  revert this; decide +kernel
theorem three_words (m t v : ByteArray) (hm : ¬ (32 : UInt8) ∈ m.data.toList) (ht : ¬ (32 : UInt8) ∈ t.data.toList) (hv : ¬ (32 : UInt8) ∈ v.data.toList) : splitS 32 (m ++ ⟨#[32]⟩ ++ t ++ ⟨#[32]⟩ ++ v) = [m, t, v] := by
  unfold splitS
  have e : (m ++ ⟨#[32]⟩ ++ t ++ ⟨#[32]⟩ ++ v).data.toList = m.data.toList ++ 32 :: (t.data.toList ++ 32 :: v.data.toList) := by
    rw [ba_app_list, ba_app_list, ba_app_list, ba_app_list]
    show m.data.toList ++ [32] ++ t.data.toList ++ [32] ++ v.data.toList = _
    simp
  rw [e, splitL_append, splitL_append, splitL_one 32 _ hm, splitL_one 32 _ ht, splitL_one 32 _ hv]
  simp only [List.map_append, List.map_cons, List.map_nil, ofL_of]
  rfl
theorem versionS_ok {z : Int} (hz : z = 0 ∨ z = 1) : verZ (versionS z) = (z, 0) ∧ ¬ (32 : UInt8) ∈ (versionS z).data.toList := by
  rcases hz with rfl | rfl
  · decide +kernel
  · decide +kernel
theorem twice_req {m t : ByteArray} {z : Int} (hm : tokS m = true) (ht : targetS t = true) (hz : z = 0 ∨ z = 1) : lineR (splitS 32 (fmtReq m t z)) = (some (m, t, z), 0) := by
  have h01 : 0 ≤ z ∧ z ≤ 1 := by omega
  have e : fmtReq m t z = m ++ ⟨#[32]⟩ ++ t ++ ⟨#[32]⟩ ++ versionS z := by
    unfold fmtReq; rw [if_pos ⟨hm, ht, h01⟩]
    have h := (versionS_dec h01.1 h01.2).1
    rw [ByteArray.append_assoc, ← h, ← ByteArray.append_assoc]
  obtain ⟨h1, h2⟩ := versionS_ok hz
  rw [e, three_words m t _ (tok_blank hm) (targ_blank ht) h2, lineR_ok hm ht (by rw [h1]), h1]
theorem code_ok {z : Int} (h0 : 100 ≤ z) (h1 : z ≤ 599) : (fmtS 10 z).size = 3 ∧ parseS 10 599 (fmtS 10 z) = (z, 0) := by
  obtain ⟨k, rfl⟩ : ∃ k : Nat, z = 100 + k := ⟨(z - 100).toNat, by omega⟩
  have hk : k < 500 := by omega
  have h : ∀ m : Fin 500, (fmtS 10 (100 + (m.val : Int))).size = 3 ∧ parseS 10 599 (fmtS 10 (100 + (m.val : Int))) = (100 + (m.val : Int), 0) := by decide +kernel
  exact h ⟨k, hk⟩
theorem minorZ_ver {z : Int} (hz : z = 0 ∨ z = 1) : minorZ (versionS z) = z ∧ (versionS z).size = 8 := by
  rcases hz with rfl | rfl
  · decide +kernel
  · decide +kernel
theorem rep_parts (v d r : ByteArray) (hv : v.size = 8) (hd : d.size = 3) (S : ByteArray) (hS : v ++ ⟨#[32]⟩ ++ d ++ ⟨#[32]⟩ ++ r = S) :
    13 ≤ S.size ∧ S.extract 0 8 = v ∧ S.data.toList[8]? = some 32 ∧ S.extract 9 12 = d ∧ S.data.toList[12]? = some 32 ∧ S.extract 13 S.size = r := by
  have hl : S.data.toList = v.data.toList ++ 32 :: (d.data.toList ++ 32 :: r.data.toList) := by
    rw [← hS, ba_app_list, ba_app_list, ba_app_list, ba_app_list]
    show v.data.toList ++ [32] ++ d.data.toList ++ [32] ++ r.data.toList = _
    simp
  have lv : v.data.toList.length = 8 := by rw [Array.length_toList]; exact hv
  have ld : d.data.toList.length = 3 := by rw [Array.length_toList]; exact hd
  have lS : S.data.toList.length = S.size := by rw [Array.length_toList]; rfl
  have hz : S.size = 13 + r.data.toList.length := by rw [← lS, hl]; simp only [List.length_append, List.length_cons, lv, ld]; omega
  have d9 : S.data.toList.drop 9 = d.data.toList ++ 32 :: r.data.toList := by
    rw [hl, List.drop_append, List.drop_of_length_le (by omega), lv]; rfl
  have d13 : S.data.toList.drop 13 = r.data.toList := by
    rw [show 13 = 9 + 4 from rfl, ← List.drop_drop, d9, List.drop_append, List.drop_of_length_le (by omega), ld]; rfl
  refine ⟨by omega, ?_, ?_, ?_, ?_, ?_⟩
  · apply ba_ext
    rw [Lib.extract_data, List.drop_zero, hl, List.take_append_of_le_length (by omega), List.take_of_length_le (by omega)]
  · rw [hl, List.getElem?_append_right (by omega), lv]; rfl
  · apply ba_ext
    rw [Lib.extract_data, d9, List.take_append_of_le_length (by omega), List.take_of_length_le (by omega)]
  · have : S.data.toList[12]? = (S.data.toList.drop 9)[3]? := by rw [List.getElem?_drop]
    rw [this, d9, List.getElem?_append_right (by omega), ld]; rfl
  · apply ba_ext
    rw [Lib.extract_data, d13, List.take_of_length_le (by omega)]
theorem twice_rep {st z : Int} {r : ByteArray} (h0 : 100 ≤ st) (h1 : st ≤ 599) (hz : z = 0 ∨ z = 1) (hr : visS r = true) : parseA (fmtRep st r z) = some (st, r, z) ∧ 0 < (fmtRep st r z).size := by
  have h01 : 0 ≤ z ∧ z ≤ 1 := by omega
  have e : fmtRep st r z = versionS z ++ ⟨#[32]⟩ ++ fmtS 10 st ++ ⟨#[32]⟩ ++ r := by
    unfold fmtRep; rw [if_pos ⟨h0, h1, h01.1, h01.2, hr⟩, (versionS_dec h01.1 h01.2).2]
  obtain ⟨c1, c2⟩ := code_ok h0 h1
  obtain ⟨v1, v2⟩ := minorZ_ver hz
  obtain ⟨p1, p2, p3, p4, p5, p6⟩ := rep_parts _ _ _ v2 c1 _ e.symm
  generalize fmtRep st r z = S at *
  have hrs : reasonS S = r := by unfold reasonS; rw [if_pos (by omega), p6]
  refine ⟨?_, by omega⟩
  unfold parseA
  rw [p2, p4, hrs, c2, v1, if_pos ⟨by omega, by omega, p3, fun _ => p5, rfl, h0, hr⟩]
theorem fmtRep_no {st z : Int} {r : ByteArray} (hr : visS r = false) : fmtRep st r z = ⟨#[]⟩ := by
  unfold fmtRep; rw [if_neg (fun h => by rw [hr] at h; exact absurd h.2.2.2.2 (by decide))]
theorem and1 (n : Int) : ∃ z : Int, bits BinOp.and IntKind.i64 n 1 = z ∧ (z = 0 ∨ z = 1) := by
  have h2 : (BitVec.ofInt 64 (1 : Int)).toNat = 1 := by decide
  have h3 : (BitVec.ofInt 64 n).toNat &&& 1 ≤ 1 := Nat.and_le_right
  have e : bits BinOp.and IntKind.i64 n 1 = (((BitVec.ofInt 64 n).toNat &&& 1 : Nat) : Int) := by
    show IntKind.i64.wrap ((BitVec.ofInt 64 n &&& BitVec.ofInt 64 1).toNat : Int) = _
    rw [BitVec.toNat_and, h2, IntWalk.i64_in _ (by omega)]
  exact ⟨_, e, by omega⟩
end Go.Proofs.YtbcjchbmiknjdaaDoor
namespace Go.Proofs.YtbcjchbmiknjdaaDoor
open Go.RowKit

theorem parseA_empty : parseA ⟨#[]⟩ = none := by decide +kernel
section
variable (b : Option Addr) (n cb : Nat) (status minor : Int) (reason : ByteArray) (mm : Int) (w : World)
theorem row_cells6 {w : World} {g : Nat} {T : TypeId} {u0 u1 u2 u3 u4 u5 : Value} (h : w.heap[g]? = some (.cells #[u0, u1, u2, u3, u4, u5] T (0, 0))) : g < w.heap.size ∧ w.cell? ⟨g, 0, none⟩ = some u0 ∧ w.cell? ⟨g, 1, none⟩ = some u1 ∧ w.cell? ⟨g, 2, none⟩ = some u2 ∧ w.cell? ⟨g, 3, none⟩ = some u3 ∧ w.cell? ⟨g, 4, none⟩ = some u4 ∧ w.cell? ⟨g, 5, none⟩ = some u5 := by
  refine ⟨(Array.getElem?_eq_some_iff.1 h).1, ?_, ?_, ?_, ?_, ?_, ?_⟩ <;> rw [cell_of_row _ _ _ _ _ _ h] <;> rfl
set_option maxRecDepth 100000 in
set_option maxHeartbeats 4000000 in
theorem lineTwice_any (hi : IntsF w b n) (hn : n ≤ maxLen) (hr : reason.size ≤ 100000000) (ht : Tabs w) (hm : w.cell? ⟨0, 0, none⟩ = some (.int .i64 mm)) :
    Calls Tryd.prog 6 #[.slice b n cb, .int .i64 status, .int .i64 minor, .string reason] w fun e w' => e = .returned (.bool true) ∧ Below w.heap.size w w' := by
  have HM := Box.mk hm
  have HT := Box.mk ht
  have HI := Box.mk (And.intro hi hn)
  clear hm ht hi hn
  obtain ⟨k, hk, hwk⟩ := withI_range status 500 (by decide) (by decide)
  have HWK := Box.mk hwk
  clear hwk
  obtain ⟨z2, hz2, hz01⟩ := and1 minor
  go_enter Tryd.func6, Tryd.ntmps6
  go_wp2_with fail
  refine (lawReq_any b n cb w HI.out.1 HI.out.2).mono ?_
  rintro e w5 ⟨m, t, z, sF, x, cF, fr, sB, l, cB, rfl, hm1, ht1, hmz, htz, hz, _, _, _, _, hb5⟩
  have HR := Box.mk (twice_req hm1 ht1 hz)
  have HLS := Box.mk (fmtReq_size m t z hmz htz)
  have HB := Box.mk (below_trans hb5 (below_oneF w5 (.cells #[.string m, .string t, .int .i64 z, .slice sF x.length cF, .bool fr, .slice sB l.length cB] 27)))
  have HV := Box.mk (heap_alloc_new w5 (.cells #[.string m, .string t, .int .i64 z, .slice sF x.length cF, .bool fr, .slice sB l.length cB] 27))
  clear hm1 ht1 hz hb5
  go_wp2_with fail
  refine (projFormatReq_any m t z sF sB x.length cF l.length cB fr _ (by omega) (by omega)).mono ?_
  rintro e w6 ⟨he, hb6⟩
  generalize fmtReq m t z = L at *
  subst he
  have HB6 := Box.mk (below_trans HB.out hb6)
  have HV6 := Box.mk ((hb6.block _ (Array.getElem?_eq_some_iff.1 HV.out).1).trans HV.out)
  clear hb6 HB HV
  go_wp2_with fail
  refine (projParseReq_any L _ mm (by have := HLS.out; omega) (below_cell HB6.out HM.out)).mono ?_
  rintro e w7 ⟨he, hb7⟩
  rw [HR.out] at he
  simp only [reqV] at he
  subst he
  have HB7 := Box.mk (below_trans HB6.out hb7)
  obtain ⟨hlt, hc0, hc1, hc2, hc3, hc4, hc5⟩ := row_cells6 ((hb7.block _ (Array.getElem?_eq_some_iff.1 HV6.out).1).trans HV6.out)
  clear hb7 HB6 HV6 HR
  have HB8 := Box.mk (below_trans HB7.out (below_oneF w7 (.cells #[.string m, .string t, .int .i64 z, .slice none 0 0, .bool false, .slice none 0 0] 27)))
  have hzz : (z != z) = false := by simp
  go_wp2_with fail
  refine (withinF status 500 _ (by decide) (by decide)).mono ?_
  rintro e w8 ⟨he, hww⟩
  rw [HWK.out] at he
  subst he hww
  have HB9 := Box.mk (below_trans HB8.out (below_oneF (w7.alloc (.cells #[.string m, .string t, .int .i64 z, .slice none 0 0, .bool false, .slice none 0 0] 27)) (.cells #[.int .i64 (100 + (k : Int)), .string reason, .int .i64 z2, .slice none 0 0, .slice none 0 0] 43)))
  clear hc0 hc1 hc2 hc3 hc4 hc5
  have HV9 := Box.mk (show AVar ((w7.alloc (.cells #[.string m, .string t, .int .i64 z, .slice none 0 0, .bool false, .slice none 0 0] 27)).alloc (.cells #[.int .i64 (100 + (k : Int)), .string reason, .int .i64 z2, .slice none 0 0, .slice none 0 0] 43)) (w7.heap.size + 1) (100 + (k : Int)) reason z2 by
    have h := heap_alloc_new (w7.alloc (.cells #[.string m, .string t, .int .i64 z, .slice none 0 0, .bool false, .slice none 0 0] 27)) (.cells #[.int .i64 (100 + (k : Int)), .string reason, .int .i64 z2, .slice none 0 0, .slice none 0 0] 43)
    rw [World.size_alloc] at h; exact h)
  clear HB7 HB8
  go_wp2_with fail
  refine (projFormatRep_any (100 + (k : Int)) reason z2 none none 0 0 0 0 _ (by omega) (tabs_below HT.out HB9.out)).mono ?_
  rintro e w10 ⟨he, hb10⟩
  have HB10 := Box.mk (below_trans HB9.out hb10)
  have HV10 := Box.mk (HV9.out.keep hb10)
  clear hb10 HB9 HV9
  generalize w7.heap.size + 1 = g9 at *
  generalize hst : (100 + (k : Int)) = st at *
  have hst0 : 100 ≤ st := by omega
  have hst1 : st ≤ 599 := by omega
  have HST := Box.mk hst
  clear hst
  cases hv : visS reason with
  | true =>
    have HP := Box.mk (twice_rep hst0 hst1 hz01 hv).1
    have hne := isEmpty_no (twice_rep hst0 hst1 hz01 hv).2
    have HSZ := Box.mk (show (fmtRep st reason z2).size ≤ maxLen by have := fmtRep_size st reason z2 hr; unfold maxLen; omega)
    have HV := Box.mk hv
    clear hv
    generalize fmtRep st reason z2 = S at *
    subst he
    go_wp2_with fail
    refine (projParseRep_any S _ HSZ.out).mono ?_
    rintro e w11 ⟨he, hb11⟩
    rw [HP.out] at he
    simp only [replyV] at he
    subst he
    obtain ⟨hlt2, hc0, hc1, hc2, hc3, hc4⟩ := (HV10.out.keep hb11).cells
    have HB12 := Box.mk (below_trans (below_trans HB10.out hb11) (below_oneF w11 (.cells #[.int .i64 st, .string reason, .int .i64 z2, .slice none 0 0, .slice none 0 0] 43)))
    clear hb11 HB10 HV10 HP
    go_wp2_with fail
    refine (sameRep_nil st z2 reason _).mono ?_
    rintro e w12 ⟨rfl, hb12⟩
    have HB13 := Box.mk (below_trans HB12.out hb12)
    clear hb12 HB12 hc0 hc1 hc2 hc3 hc4
    go_wp2_with fail
    refine (awakeL_any _ mm (below_cell HB13.out HM.out)).mono ?_
    rintro e w13 ⟨rfl, hb13⟩
    have HB14 := Box.mk (below_trans HB13.out hb13)
    clear hb13 HB13
    go_wp2_with fail
    go_ret
    exact ⟨rfl, HB14.out⟩
  | false =>
    have HP := Box.mk (fmtRep_no (st := st) (z := z2) hv)
    clear hv
    rw [HP.out] at he
    subst he
    go_wp2_with fail
    refine (projParseRep_any ⟨#[]⟩ _ (by decide)).mono ?_
    rintro e w11 ⟨he, hb11⟩
    rw [parseA_empty] at he
    simp only [replyV] at he
    subst he
    have HB12 := Box.mk (below_trans (below_trans HB10.out hb11) (below_oneF w11 (.cells #[.int .i64 0, .string ⟨#[]⟩, .int .i64 0, .slice none 0 0, .slice none 0 0] 43)))
    clear hb11 HB10 HV10
    go_wp2_with fail
    refine (awakeL_any _ mm (below_cell HB12.out HM.out)).mono ?_
    rintro e w13 ⟨rfl, hb13⟩
    have HB14 := Box.mk (below_trans HB12.out hb13)
    clear hb13 HB12
    go_wp2_with fail
    go_ret
    exact ⟨rfl, HB14.out⟩
end
end Go.Proofs.YtbcjchbmiknjdaaDoor
namespace Go.Proofs.YtbcjchbmiknjdaaDoor
open Go.ChangeShapes Go.WideShapes Go.ChangeAt Go.RowKit

def dB64 : List Int := [0, 1, 56, 2, 57, 49, 28, 3, 61, 58, 42, 50, 38, 29, 17, 4, 62, 47, 59, 36, 45, 43, 51, 22, 53, 39, 33, 30, 24, 18, 12, 5, 63, 55, 48, 27, 60, 41, 37, 16, 46, 35, 44, 21, 52, 32, 23, 11, 54, 26, 40, 15, 34, 20, 31, 10, 25, 14, 19, 9, 13, 8, 7, 6]
/-- The tables of the library out of the list of laid variables. -/
theorem tabs_of_laid {W : World} {l : List (String × DataW Unit)} (h : laidMetH Tryd.prog l W)
    (e1 : l.filter (fun x => x.1 == "internal/strconv.uint64pow10") = [("internal/strconv.uint64pow10", Lib.tabData .u64 Lib.pow10Tab)])
    (e2 : l.filter (fun x => x.1 == "math/bits.deBruijn64tab") = [("math/bits.deBruijn64tab", Lib.tabData .u8 dB64)]) : Tabs W := by
  have h1 := h.filter (fun x => x.1 == "internal/strconv.uint64pow10")
  have h2 := h.filter (fun x => x.1 == "math/bits.deBruijn64tab")
  rw [e1] at h1
  rw [e2] at h2
  rw [MakeChecks.laidMetH_plain _ _ _ (by kernel_rfl)] at h1 h2
  have t1 := Lib.tabIs_of_head (g := 3) (t := 109) (e := 81) (n := 20) (by kernel_rfl) (by kernel_rfl) (by kernel_rfl) (by kernel_rfl) (by kernel_rfl) (by kernel_rfl) h1
  have t2 := Lib.tabIs_of_head (g := 5) (t := 114) (e := 5) (n := 64) (by kernel_rfl) (by kernel_rfl) (by kernel_rfl) (by kernel_rfl) (by kernel_rfl) (by kernel_rfl) h2
  refine ⟨t1, t2.cell (by kernel_rfl) 15 (by decide), lt_cell (t1.cell (by kernel_rfl) 0 (by decide))⟩
end Go.Proofs.YtbcjchbmiknjdaaDoor
namespace Go.Proofs.YtbcjchbmiknjdaaDoor
open Go.RowKit

theorem run_loadReq (w : World) (g : Nat) {u0 u1 u2 u3 u4 u5 : Value} (h : w.heap[g]? = some (.cells #[u0, u1, u2, u3, u4, u5] 27 (0, 0))) :
    (Instr.loadAt 27 (.pointer (some ⟨g, 0, none⟩))).run Tryd.prog w = .ok (.agg #[u0, u1, u2, u3, u4, u5]) w := by
  simp [Instr.loadAt, Instr.sureAddr, run_loadVar_row w g _ 27 _ _ _ h Tryd.underlying27 rfl sizeR]
theorem run_loadRep (w : World) (g : Nat) {u0 u1 u2 u3 u4 : Value} (h : w.heap[g]? = some (.cells #[u0, u1, u2, u3, u4] 43 (0, 0))) :
    (Instr.loadAt 43 (.pointer (some ⟨g, 0, none⟩))).run Tryd.prog w = .ok (.agg #[u0, u1, u2, u3, u4]) w := by
  simp [Instr.loadAt, Instr.sureAddr, run_loadVar_row w g _ 43 _ _ _ h Tryd.underlying43 rfl sizeA]
/-- The two messages in their variables, as they are formatted. -/
def FmS (w W : World) : Prop := ∃ m t z fa fn fc fr ba bn bc st r z2 ga gn gc ha hn hc,
  W.heap[w.heap.size]? = some (.cells #[.string m, .string t, .int .i64 z, .slice fa fn fc, .bool fr, .slice ba bn bc] 27 (0, 0)) ∧
  W.heap[w.heap.size + 1]? = some (.cells #[.int .i64 st, .string r, .int .i64 z2, .slice ga gn gc, .slice ha hn hc] 43 (0, 0)) ∧ m.size ≤ 1000000000 ∧ t.size ≤ 1000000000 ∧ r.size ≤ 1000000000 ∧ Below w.heap.size w W
theorem lt_row {w : World} {g : Nat} {o : Obj} (h : w.heap[g]? = some o) : g < w.heap.size := (Array.getElem?_eq_some_iff.1 h).1

section
variable {act : Act} {w : World} {o : Oper} {K : Act → World → Prop} {Q : Exit → Act → World → Prop}
theorem wp_store_int {P : Program} {ty : TypeId} {x y : Operand} (ho : o.op = .store ty x y) {p : Addr} {z : Int} {u : Value} (hx : act.eval x = .pointer (some p)) (hy : act.eval y = .int .i64 z) (hi : (P.info? ty).map (·.size) = some 1)
    (hc : w.cell? p = some u) (hf : w.frozen? p = false) (h : K (act.put o.dst undef) (w.setCell p (.int .i64 z))) : o.wp P act w K Q := by
  have hz : (sizeOf ty).run P w = .ok 1 w := by
    cases hq : P.info? ty with
    | none => rw [hq] at hi; cases hi
    | some i => rw [hq] at hi; simp at hi; simp [sizeOf, typeInfo, hq, hi]
  unfold Oper.wp execOp
  simp_all [Instr.storeAt, Instr.sureAddr, storeVar, storeCells, Value.cells, go_sem]
end

section
variable (m t : ByteArray) (z : Int) (fa ba : Option Addr) (fn fc bn bc : Nat) (fr : Bool) (st : Int) (r : ByteArray) (z2 : Int) (ga ha : Option Addr) (gn gc hn hc : Nat) (b : Option Addr) (n cb : Nat) (raw : Bool) (mm : Int) (w : World)
set_option maxRecDepth 100000 in
set_option maxHeartbeats 4000000 in
theorem lineFormat_any (hi : IntsF w b n) (hnb : n ≤ maxLen) (hms : m.size ≤ 1000000000) (hts : t.size ≤ 1000000000) (hrs : r.size ≤ 1000000000) (ht : Tabs w) (hm : w.cell? ⟨0, 0, none⟩ = some (.int .i64 mm)) :
    Calls Tryd.prog 5 #[.agg #[.string m, .string t, .int .i64 z, .slice fa fn fc, .bool fr, .slice ba bn bc], .agg #[.int .i64 st, .string r, .int .i64 z2, .slice ga gn gc, .slice ha hn hc], .slice b n cb, .bool raw] w fun e w' => e = .returned (.bool true) ∧ Below w.heap.size w w' := by
  have HM := Box.mk hm
  have HT := Box.mk ht
  have HI := Box.mk (And.intro hi hnb)
  have HFM := Box.mk (show FmS w ((w.alloc (.cells #[.string m, .string t, .int .i64 z, .slice fa fn fc, .bool fr, .slice ba bn bc] 27)).alloc (.cells #[.int .i64 st, .string r, .int .i64 z2, .slice ga gn gc, .slice ha hn hc] 43)) from by
    have h := heap_alloc_new (w.alloc (.cells #[.string m, .string t, .int .i64 z, .slice fa fn fc, .bool fr, .slice ba bn bc] 27)) (.cells #[.int .i64 st, .string r, .int .i64 z2, .slice ga gn gc, .slice ha hn hc] 43)
    rw [World.size_alloc] at h
    exact ⟨m, t, z, fa, fn, fc, fr, ba, bn, bc, st, r, z2, ga, gn, gc, ha, hn, hc, ((below_oneF (w.alloc (.cells #[.string m, .string t, .int .i64 z, .slice fa fn fc, .bool fr, .slice ba bn bc] 27)) _).block _ (by rw [World.size_alloc]; omega)).trans (heap_alloc_new _ _), h, hms, hts, hrs, below_twoF (below_oneF w _) _⟩)
  clear hm ht hi hnb hms hts hrs
  go_enter Tryd.func5, Tryd.ntmps5
  go_upto_if 10 with fail
  generalize (w.alloc (.cells #[.string m, .string t, .int .i64 z, .slice fa fn fc, .bool fr, .slice ba bn bc] 27)).alloc (.cells #[.int .i64 st, .string r, .int .i64 z2, .slice ga gn gc, .slice ha hn hc] 43) = W at *
  go_cut [] (fun wx => Box (FmS w wx))
  case first =>
    cases raw with
    | true =>
      go_wp2_with fail
      go_meet
      exact HFM
    | false =>
      obtain ⟨_, _, _, _, _, _, _, _, _, _, st, r, z2, ga, gn, gc, ha, hn, hc, hr1, hr2, _, _, hrs, hb⟩ := HFM.out
      have HI2 := Box.mk (And.intro (HI.out.1.keep hb) HI.out.2)
      have HR1 := Box.mk hr1
      have HR2 := Box.mk hr2
      have HB := Box.mk hb
      clear hr1 hr2 hb HFM HI
      go_wp2_with fail
      refine (lawReq_any b n cb W HI2.out.1 HI2.out.2).mono ?_
      rintro e w5 ⟨m5, t5, z5, sF, x, cF, fr5, sB, l, cB, rfl, _, _, hm5, ht5, _, _, _, _, _, hb5⟩
      have HB5 := Box.mk (below_trans HB.out hb5)
      have hrow1 := (hb5.block _ (lt_row HR1.out)).trans HR1.out
      have HR5 := Box.mk ((hb5.block _ (lt_row HR2.out)).trans HR2.out)
      have HRS := Box.mk (And.intro (show m5.size ≤ 1000000000 by omega) (And.intro (show t5.size ≤ 1000000000 by omega) hrs))
      have HROW1 := Box.mk hrow1
      clear hb5 HB HR1 HR2 HI2 hm5 ht5 hrs hrow1
      generalize hg : w.heap.size = g at *
      have HG := Box.mk hg
      clear hg
      go_wp2_with (refine wpList_store_row rfl 27 _ _ rfl g #[.string m5, .string t5, .int .i64 z5, .slice sF x.length cF, .bool fr5, .slice sB l.length cB] rfl rfl 27 _ HROW1.out sizeR rfl (by simp [Value.oneCell']) ?_)
      have HN1 := Box.mk (show (w5.setRow g #[.string m5, .string t5, .int .i64 z5, .slice sF x.length cF, .bool fr5, .slice sB l.length cB]).heap[g]? = _ from setRow_heap _ _ _ _ _ _ HROW1.out)
      have HN2 := Box.mk ((setRow_other w5 g (g + 1) #[.string m5, .string t5, .int .i64 z5, .slice sF x.length cF, .bool fr5, .slice sB l.length cB] (by omega)).trans HR5.out)
      have HBN := Box.mk (below_setRow (g := g) (show Below w.heap.size w w5 by rw [HG.out]; exact HB5.out) (by have := HG.out; omega) #[.string m5, .string t5, .int .i64 z5, .slice sF x.length cF, .bool fr5, .slice sB l.length cB])
      clear HB5 HR5 HROW1
      generalize w5.setRow g #[.string m5, .string t5, .int .i64 z5, .slice sF x.length cF, .bool fr5, .slice sB l.length cB] = W6 at *
      obtain ⟨k1, hk1, hw1⟩ := withI_range st 520 (by decide) (by decide)
      obtain ⟨k2, hk2, hw2⟩ := withI_range z2 3 (by decide) (by decide)
      have HW := Box.mk (And.intro hw1 hw2)
      clear hw1 hw2
      refine wp_region_phases [8, 10] (fun p => match p with | 0 => [0, 1, 2, 3, 4, 5, 6, 7] | 1 => [9] | _ => [])
        (fun p => match p with
          | 0 => [.val (.pointer (some ⟨g + 1, 0, none⟩)), .val (.int .i64 st), .val (.int .i64 k1), .val (.int .i64 ((90 + k1 : Nat) : Int)), .val (.pointer (some ⟨g + 1, 2, none⟩)), .val (.int .i64 z2), .val (.int .i64 k2), .val (.pointer (some ⟨g + 1, 0, none⟩)), .any, .nope, .any]
          | 1 => [.any, .any, .any, .any, .any, .any, .val (.int .i64 k2), .any, .any, .val (.pointer (some ⟨g + 1, 2, none⟩)), .any]
          | _ => [.any, .any, .any, .any, .any, .any, .any, .any, .any, .any, .any])
        (fun p => match p with
          | 0 => fun wx => wx.heap[g]? = some (.cells #[.string m5, .string t5, .int .i64 z5, .slice sF x.length cF, .bool fr5, .slice sB l.length cB] 27 (0, 0)) ∧ wx.heap[g + 1]? = some (.cells #[.int .i64 st, .string r, .int .i64 z2, .slice ga gn gc, .slice ha hn hc] 43 (0, 0)) ∧ Below w.heap.size w wx
          | 1 => fun wx => wx.heap[g]? = some (.cells #[.string m5, .string t5, .int .i64 z5, .slice sF x.length cF, .bool fr5, .slice sB l.length cB] 27 (0, 0)) ∧ wx.heap[g + 1]? = some (.cells #[.int .i64 ((90 + k1 : Nat) : Int), .string r, .int .i64 z2, .slice ga gn gc, .slice ha hn hc] 43 (0, 0)) ∧ Below w.heap.size w wx
          | _ => fun wx => wx.heap[g]? = some (.cells #[.string m5, .string t5, .int .i64 z5, .slice sF x.length cF, .bool fr5, .slice sB l.length cB] 27 (0, 0)) ∧ wx.heap[g + 1]? = some (.cells #[.int .i64 ((90 + k1 : Nat) : Int), .string r, .int .i64 k2, .slice ga gn gc, .slice ha hn hc] 43 (0, 0)) ∧ Below w.heap.size w wx)
        (by kernel_rfl) (by kernel_rfl) (by kernel_rfl) (by kernel_rfl) (by kernel_rfl) (by kernel_rfl) ?_ ⟨HN1.out, HN2.out, HBN.out⟩ ?_ ?_ ?_
      · intro p w1 w2 h hb
        match p, h with
        | 0, h => exact ⟨(hb.block _ (lt_row h.1)).trans h.1, (hb.block _ (lt_row h.2.1)).trans h.2.1, below_trans h.2.2 hb⟩
        | 1, h => exact ⟨(hb.block _ (lt_row h.1)).trans h.1, (hb.block _ (lt_row h.2.1)).trans h.2.1, below_trans h.2.2 hb⟩
        | (_ + 2), h => exact ⟨(hb.block _ (lt_row h.1)).trans h.1, (hb.block _ (lt_row h.2.1)).trans h.2.1, below_trans h.2.2 hb⟩
      · intro p hp
        match p, hp with
        | 0, _ =>
          refine ⟨?_, ?_, ?_, ?_, ?_, ?_, ?_, ?_, trivial⟩ <;> intro a1 w1 hv hf hd
          · exact ⟨wanted_none rfl, loc_fieldA rfl (hf.base 5 rfl) (by decide) rfl⟩
          · exact ⟨wanted_none rfl, loc_cell rfl (hd 0 rfl) (by rw [cell_of_row _ _ _ _ _ _ hv.2.1]; rfl) (agg_int _) rfl⟩
          · refine ⟨wanted_none rfl, loc_call rfl (by kernel_rfl) ?_⟩
            show Calls _ _ #[a1.eval (.tmp 16), _] w1 _
            rw [show a1.eval (.tmp 16) = .int .i64 st from hd 1 rfl]
            refine (withinF st 520 w1 (by decide) (by decide)).mono ?_
            rintro e w' ⟨rfl, rfl⟩
            exact ⟨_, rfl, Below.refl _ _, by show Value.int .i64 (withI st 520) = _; rw [HW.out.1]⟩
          · exact ⟨wanted_none rfl, loc_addF rfl (m := 90) (k := k1) rfl (hd 2 rfl) (by omega) rfl⟩
          · exact ⟨wanted_none rfl, loc_fieldA rfl (hf.base 5 rfl) (by decide) rfl⟩
          · exact ⟨wanted_none rfl, loc_cell rfl (hd 4 rfl) (by rw [cell_of_row _ _ _ _ _ _ hv.2.1]; rfl) (agg_int _) rfl⟩
          · refine ⟨wanted_none rfl, loc_call rfl (by kernel_rfl) ?_⟩
            show Calls _ _ #[a1.eval (.tmp 20), _] w1 _
            rw [show a1.eval (.tmp 20) = .int .i64 z2 from hd 5 rfl]
            refine (withinF z2 3 w1 (by decide) (by decide)).mono ?_
            rintro e w' ⟨rfl, rfl⟩
            exact ⟨_, rfl, Below.refl _ _, by show Value.int .i64 (withI z2 3) = _; rw [HW.out.2]⟩
          · exact ⟨wanted_none rfl, loc_fieldA rfl (hf.base 5 rfl) (by decide) rfl⟩
        | 1, _ =>
          refine ⟨?_, trivial⟩
          intro a1 w1 hv hf hd
          exact ⟨wanted_none rfl, loc_fieldA rfl (hf.base 5 rfl) (by decide) rfl⟩
        | 2, _ => exact trivial
      · intro p hp
        match p, hp with
        | 0, _ =>
          intro a2 w2 hv hf hd
          have e22 : a2.eval (.tmp 22) = .pointer (some ⟨g + 1, 0, none⟩) := hd 7 rfl
          have e18 : a2.eval (.tmp 18) = .int .i64 ((90 + k1 : Nat) : Int) := hd 3 rfl
          refine ⟨wanted_none rfl, wp_store_int (u := .int .i64 st) rfl e22 e18 (by kernel_rfl) (by rw [cell_of_row _ _ _ _ _ _ hv.2.1]; rfl) (frozen_of_row w2 (g + 1) 0 _ _ hv.2.1) ?_⟩
          exact ⟨undef, rfl, ⟨(heap_setCell_other w2 ⟨g + 1, 0, none⟩ g _ (by show g ≠ g + 1; omega)).trans hv.1, heap_setCell_same w2 (g + 1) 0 _ _ _ hv.2.1, hv.2.2.setCell (p := ⟨g + 1, 0, none⟩) (by have := HG.out; show _ ≤ g + 1; omega) _⟩, trivial,
            ⟨.inr fun _ _ _ => trivial, .inr fun _ _ _ => trivial, .inr fun _ _ _ => trivial, .inr fun _ _ _ => trivial, .inr fun _ _ _ => trivial, .inr fun _ _ _ => trivial, .inr fun _ _ h => h, .inr fun _ _ _ => trivial, .inl rfl, .inr fun _ _ h => h.elim, .inr fun _ _ _ => trivial, trivial⟩⟩
        | 1, _ =>
          intro a2 w2 hv hf hd
          have e23 : a2.eval (.tmp 23) = .pointer (some ⟨g + 1, 2, none⟩) := hd 9 rfl
          have e21 : a2.eval (.tmp 21) = .int .i64 (k2 : Int) := hd 6 rfl
          refine ⟨wanted_none rfl, wp_store_int (u := .int .i64 z2) rfl e23 e21 (by kernel_rfl) (by rw [cell_of_row _ _ _ _ _ _ hv.2.1]; rfl) (frozen_of_row w2 (g + 1) 2 _ _ hv.2.1) ?_⟩
          exact ⟨undef, rfl, ⟨(heap_setCell_other w2 ⟨g + 1, 2, none⟩ g _ (by show g ≠ g + 1; omega)).trans hv.1, heap_setCell_same w2 (g + 1) 2 _ _ _ hv.2.1, hv.2.2.setCell (p := ⟨g + 1, 2, none⟩) (by have := HG.out; show _ ≤ g + 1; omega) _⟩, trivial,
            ⟨.inr fun _ _ _ => trivial, .inr fun _ _ _ => trivial, .inr fun _ _ _ => trivial, .inr fun _ _ _ => trivial, .inr fun _ _ _ => trivial, .inr fun _ _ _ => trivial, .inr fun _ _ _ => trivial, .inr fun _ _ _ => trivial, .inr fun _ _ _ => trivial, .inr fun _ _ _ => trivial, .inl rfl, trivial⟩⟩
      · intro a2 w2 hv hf hh
        clear hh
        rw [fr_putAll hf]
        clear hf
        simp only [putAll]
        generalize a2.eval (.tmp 15) = u15
        generalize a2.eval (.tmp 16) = u16
        generalize a2.eval (.tmp 17) = u17
        generalize a2.eval (.tmp 18) = u18
        generalize a2.eval (.tmp 19) = u19
        generalize a2.eval (.tmp 20) = u20
        generalize a2.eval (.tmp 21) = u21
        generalize a2.eval (.tmp 22) = u22
        generalize a2.eval (.tmp 23) = u23
        clear a2
        simp only [Act.put, List.setIfInBounds_toArray, List.set_cons_succ, List.set_cons_zero]
        rename (∀ (a' : Act) (w' : World), Met _ a' w' → _) => hM
        refine hM _ _ ?_
        go_meet
        have hg := HG.out
        exact ⟨⟨m5, t5, z5, sF, x.length, cF, fr5, sB, l.length, cB, _, r, _, ga, gn, gc, ha, hn, hc, by rw [hg]; exact hv.1, by rw [hg]; exact hv.2.1, HRS.out.1, HRS.out.2.1, HRS.out.2.2, hv.2.2⟩⟩
  case rest =>
    obtain ⟨m, t, z, fa, fn, fc, fr, ba, bn, bc, st, r, z2, ga, gn, gc, ha, hn, hc, hr1, hr2, hms, hts, hrs, hb⟩ := hcut.out
    have HR := Box.mk (And.intro hr1 hr2)
    have HB := Box.mk hb
    generalize hg : w.heap.size = g at *
    have HG := Box.mk hg
    clear hr1 hr2 hb hcut HFM hg
    go_wp2_with fail
    rename_i K hK
    refine wp_region_local (S := [.val (.agg #[.string m, .string t, .int .i64 z, .slice fa fn fc, .bool fr, .slice ba bn bc]), .val (.string (fmtReq m t z)), .val (.agg #[.string m, .string t, .int .i64 z, .slice fa fn fc, .bool fr, .slice ba bn bc]), .val (.string (fmtReq m t z)), .val (.bool true), .val (.bool true),
      .val (.agg #[.int .i64 st, .string r, .int .i64 z2, .slice ga gn gc, .slice ha hn hc]), .val (.string (fmtRep st r z2)), .val (.agg #[.int .i64 st, .string r, .int .i64 z2, .slice ga gn gc, .slice ha hn hc]), .val (.string (fmtRep st r z2)), .val (.bool true), .val (.bool true), .val (.bool true), .val (.bool true), .val (.bool true), .val (.bool true)])
      (by kernel_rfl) (by kernel_rfl) (by kernel_rfl) ?_ ?_
    · have hbw : ∀ w', Below wc.heap.size wc w' → Below w.heap.size w w' := fun w' hb => below_trans (by rw [HG.out]; exact HB.out) hb
      have row1 : ∀ w', Below wc.heap.size wc w' → w'.heap[g]? = some (.cells #[.string m, .string t, .int .i64 z, .slice fa fn fc, .bool fr, .slice ba bn bc] 27 (0, 0)) := fun w' hb => by rw [hb.block g (lt_row HR.out.1)]; exact HR.out.1
      have row2 : ∀ w', Below wc.heap.size wc w' → w'.heap[g + 1]? = some (.cells #[.int .i64 st, .string r, .int .i64 z2, .slice ga gn gc, .slice ha hn hc] 43 (0, 0)) := fun w' hb => by rw [hb.block (g + 1) (lt_row HR.out.2)]; exact HR.out.2
      refine ⟨?_, ?_, ?_, ?_, ?_, ?_, ?_, ?_, ?_, ?_, ?_, ?_, ?_, ?_, ?_, ?_, trivial⟩ <;> intro a w3 hb hf hd
      · exact ⟨wanted_none rfl, loc_load rfl (by rw [show a.eval (.tmp 4) = .pointer (some ⟨g, 0, none⟩) from hf.base 4 rfl]; exact run_loadReq _ _ (row1 w3 hb)) rfl⟩
      · refine ⟨wanted_none rfl, loc_call rfl (by kernel_rfl) ?_⟩
        show Calls _ _ #[a.eval (.tmp 24)] w3 _
        rw [show a.eval (.tmp 24) = _ from hd 0 rfl]
        refine (projFormatReq_any m t z fa ba fn fc bn bc fr w3 hms hts).mono ?_
        rintro e w' ⟨rfl, hb'⟩
        exact ⟨_, rfl, hb', rfl⟩
      · exact ⟨wanted_none rfl, loc_load rfl (by rw [show a.eval (.tmp 4) = .pointer (some ⟨g, 0, none⟩) from hf.base 4 rfl]; exact run_loadReq _ _ (row1 w3 hb)) rfl⟩
      · refine ⟨wanted_none rfl, loc_call rfl (by kernel_rfl) ?_⟩
        show Calls _ _ #[a.eval (.tmp 26)] w3 _
        rw [show a.eval (.tmp 26) = _ from hd 2 rfl]
        refine (refFormatReq_any m t z fa ba fn fc bn bc fr w3 hms hts).mono ?_
        rintro e w' ⟨rfl, hb'⟩
        exact ⟨_, rfl, hb', rfl⟩
      · exact ⟨wanted_none rfl, loc_eql_str rfl (hd 1 rfl) (hd 3 rfl) rfl⟩
      · exact ⟨wanted_none rfl, loc_move rfl (hd 4 rfl)⟩
      · exact ⟨wanted_true rfl rfl (hd 5 rfl), loc_load rfl (by rw [show a.eval (.tmp 5) = .pointer (some ⟨g + 1, 0, none⟩) from hf.base 5 rfl]; exact run_loadRep _ _ (row2 w3 hb)) rfl⟩
      · refine ⟨wanted_true rfl rfl (hd 5 rfl), loc_call rfl (by kernel_rfl) ?_⟩
        show Calls _ _ #[a.eval (.tmp 30)] w3 _
        rw [show a.eval (.tmp 30) = _ from hd 6 rfl]
        refine (projFormatRep_any st r z2 ga ha gn gc hn hc w3 hrs (tabs_below HT.out (hbw w3 hb))).mono ?_
        rintro e w' ⟨rfl, hb'⟩
        exact ⟨_, rfl, hb', rfl⟩
      · exact ⟨wanted_true rfl rfl (hd 5 rfl), loc_load rfl (by rw [show a.eval (.tmp 5) = .pointer (some ⟨g + 1, 0, none⟩) from hf.base 5 rfl]; exact run_loadRep _ _ (row2 w3 hb)) rfl⟩
      · refine ⟨wanted_true rfl rfl (hd 5 rfl), loc_call rfl (by kernel_rfl) ?_⟩
        show Calls _ _ #[a.eval (.tmp 32)] w3 _
        rw [show a.eval (.tmp 32) = _ from hd 8 rfl]
        refine (refFormatRep_any st r z2 ga ha gn gc hn hc w3 hrs).mono ?_
        rintro e w' ⟨rfl, hb'⟩
        exact ⟨_, rfl, hb', rfl⟩
      · exact ⟨wanted_true rfl rfl (hd 5 rfl), loc_eql_str rfl (hd 7 rfl) (hd 9 rfl) rfl⟩
      · exact ⟨wanted_none rfl, loc_pick rfl (hd 5 rfl) (hd 10 rfl)⟩
      · exact ⟨wanted_none rfl, loc_move rfl (hd 11 rfl)⟩
      · refine ⟨wanted_true rfl rfl (hd 12 rfl), loc_call rfl (by kernel_rfl) ?_⟩
        show Calls _ _ #[] w3 _
        refine (awakeL_any w3 mm (below_cell (hbw w3 hb) HM.out)).mono ?_
        rintro e w' ⟨rfl, hb'⟩
        exact ⟨_, rfl, hb', rfl⟩
      · exact ⟨wanted_none rfl, loc_pick rfl (hd 12 rfl) (hd 13 rfl)⟩
      · exact ⟨wanted_none rfl, loc_assign rfl (hd 14 rfl)⟩
    · intro a w3 hb hf hh
      refine hK a w3 ?_
      go_wp2_with fail
      exact local_ret rfl hf.defers (show a.eval (.tmp 8) = .bool true from hh 15 (by decide)) ⟨rfl, below_trans (by rw [HG.out]; exact HB.out) hb⟩
end
end Go.Proofs.YtbcjchbmiknjdaaDoor
namespace Go.Proofs.YtbcjchbmiknjdaaDoor
open Go.ChangeShapes Go.WideShapes Go.ChangeAt Go.RowKit

set_option maxRecDepth 100000 in
theorem open_request {H : Type} {enc : TypeId × Value → H} {W : World} {r : Reach} {q0 : Nat} {v : Value} {d : DataW H} {ps : List MemPlace} {base : Nat} (hval : Value.okWide Tryd.prog W r q0 27 v)
    (h : DataW.Trod enc Tryd.prog W base (fun _ => true) true 27 v d ps) :
    ∃ (s0 : ByteArray) (s1 : ByteArray) (z2 : Int) (l3 : List Fld) (a3 : Option Addr) (c3 : Nat) (b4 : Bool) (l5 : List UInt8) (a5 : Option Addr) (c5 : Nat), v = .agg #[.string s0, .string s1, .int .i64 z2, .slice a3 l3.length c3, .bool b4, .slice a5 l5.length c5] ∧ s0.size ≤ maxLen ∧ s0.size ≤ Rows.uptoBulk d ∧ s1.size ≤ maxLen ∧ s1.size ≤ Rows.uptoBulk d ∧ (-9223372036854775808 ≤ z2 ∧ z2 ≤ 9223372036854775807) ∧ (FldsC W a3 l3 c3 ∧ l3.length ≤ c3 ∧ c3 ≤ maxLen ∧ ShortF l3 ∧ (Rows.uptoBulk d ≤ 1048576 → SmallF l3)) ∧ (IsBytes W a5 l5 c5 ∧ l5.length ≤ Rows.uptoBulk d) := by
  obtain ⟨cs, rfl, hsz⟩ := okWide_struct Tryd.underlying27 hval
  obtain ⟨fuel, hf⟩ := h
  have hsz2 : cs.size = 6 := by rw [hsz]; kernel_rfl
  obtain ⟨x0, x1, x2, x3, x4, x5, rfl⟩ : ∃ x0 x1 x2 x3 x4 x5, cs = #[x0, x1, x2, x3, x4, x5] := by
    match cs, hsz2 with
    | ⟨[x0, x1, x2, x3, x4, x5]⟩, _ => exact ⟨x0, x1, x2, x3, x4, x5, rfl⟩
  obtain ⟨ys, n, _, hdp, _, hlen, hfs⟩ := DataW.trod_struct Tryd.underlying27 hf
  obtain ⟨y0, y1, y2, y3, y4, y5, rfl⟩ : ∃ y0 y1 y2 y3 y4 y5, ys = [y0, y1, y2, y3, y4, y5] := by
    match ys, hlen with
    | [y0, y1, y2, y3, y4, y5], _ => exact ⟨y0, y1, y2, y3, y4, y5, rfl⟩
  have h0 : DataW.trod enc Tryd.prog W base (fun _ => true) true n 9 [x0] = some y0 := by
    have e : ((Value.agg #[x0, x1, x2, x3, x4, x5]).cells.toList.drop 0).take (Tryd.prog.cellsOf 9) = [x0] := by rw [show Tryd.prog.cellsOf 9 = 1 by kernel_rfl]; rfl
    rw [← e]; exact hfs 0 _ rfl
  have h1 : DataW.trod enc Tryd.prog W base (fun _ => true) true n 9 [x1] = some y1 := by
    have e : ((Value.agg #[x0, x1, x2, x3, x4, x5]).cells.toList.drop 1).take (Tryd.prog.cellsOf 9) = [x1] := by rw [show Tryd.prog.cellsOf 9 = 1 by kernel_rfl]; rfl
    rw [← e]; exact hfs 1 _ rfl
  have h2 : DataW.trod enc Tryd.prog W base (fun _ => true) true n 3 [x2] = some y2 := by
    have e : ((Value.agg #[x0, x1, x2, x3, x4, x5]).cells.toList.drop 2).take (Tryd.prog.cellsOf 3) = [x2] := by rw [show Tryd.prog.cellsOf 3 = 1 by kernel_rfl]; rfl
    rw [← e]; exact hfs 2 _ rfl
  have h3 : DataW.trod enc Tryd.prog W base (fun _ => true) true n 24 [x3] = some y3 := by
    have e : ((Value.agg #[x0, x1, x2, x3, x4, x5]).cells.toList.drop 3).take (Tryd.prog.cellsOf 24) = [x3] := by rw [show Tryd.prog.cellsOf 24 = 1 by kernel_rfl]; rfl
    rw [← e]; exact hfs 3 _ rfl
  have h4 : DataW.trod enc Tryd.prog W base (fun _ => true) true n 4 [x4] = some y4 := by
    have e : ((Value.agg #[x0, x1, x2, x3, x4, x5]).cells.toList.drop 4).take (Tryd.prog.cellsOf 4) = [x4] := by rw [show Tryd.prog.cellsOf 4 = 1 by kernel_rfl]; rfl
    rw [← e]; exact hfs 4 _ rfl
  have h5 : DataW.trod enc Tryd.prog W base (fun _ => true) true n 25 [x5] = some y5 := by
    have e : ((Value.agg #[x0, x1, x2, x3, x4, x5]).cells.toList.drop 5).take (Tryd.prog.cellsOf 25) = [x5] := by rw [show Tryd.prog.cellsOf 25 = 1 by kernel_rfl]; rfl
    rw [← e]; exact hfs 5 _ rfl
  have hd : d = .agg [y0.1, y1.1, y2.1, y3.1, y4.1, y5.1] := by have := congrArg Prod.fst hdp; simpa using this
  obtain ⟨s0, es0, fs0, zs0⟩ := DataW.trod_string Tryd.underlying9 h0
  injection es0 with es0
  subst es0
  have ls0 : s0.data.toList.length = s0.size := by rw [Array.length_toList]; rfl
  obtain ⟨s1, es1, fs1, zs1⟩ := DataW.trod_string Tryd.underlying9 h1
  injection es1 with es1
  subst es1
  have ls1 : s1.data.toList.length = s1.size := by rw [Array.length_toList]; rfl
  obtain ⟨z2, ez2, fz2, wz2⟩ := DataW.trod_int Tryd.underlying3 h2
  injection ez2 with ez2
  subst ez2
  obtain ⟨a3, len3, c3, rfl⟩ : ∃ a len cap, x3 = .slice a len cap := by
    rcases Go.Deep.open_slice_pairs Tryd.underlying24 Tryd.underlying60 (by kernel_rfl) (by kernel_rfl) (by kernel_rfl) (by kernel_rfl) (by kernel_rfl) h3 with ⟨hcs, _⟩ | ⟨x, k, c, m, j, V0, V1, D0, D1, P0, P1, hcs, _⟩
    · injection hcs with hcs; exact ⟨_, _, _, hcs⟩
    · injection hcs with hcs; exact ⟨_, _, _, hcs⟩
  obtain ⟨l3, rfl, hF3, hc3, hm3, hS3, hu3⟩ := open_fieldsC (d := y3.1) (ps := y3.2) ⟨n, h3⟩
  obtain ⟨b4, eb4, fb4⟩ := DataW.trod_bool Tryd.underlying4 h4
  injection eb4 with eb4
  subst eb4
  obtain ⟨a5, len5, c5, rfl⟩ : ∃ a len cap, x5 = .slice a len cap := by
    rcases open_ints Tryd.underlying25 Tryd.underlying5 (by kernel_rfl) h5 with ⟨hcs, _⟩ | ⟨x, k, c, zs, hcs, _⟩
    · injection hcs with hcs; exact ⟨_, _, _, hcs⟩
    · injection hcs with hcs; exact ⟨_, _, _, hcs⟩
  obtain ⟨l5, rfl, hb5, hl5⟩ := open_bytes_bulk (d := y5.1) (ps := y5.2) ⟨n, h5⟩
  subst hd
  subst fs0 fs1 fz2 fb4
  simp only [Rows.uptoBulk, Rows.uptoBulkAll, ls0, ls1]
  exact ⟨s0, s1, z2, l3, a3, c3, b4, l5, a5, c5, rfl, zs0, by omega, zs1, by omega, i64_ofF wz2, ⟨hF3, hc3, hm3, hS3, fun hb => hu3 (by omega)⟩, ⟨hb5, by omega⟩⟩

set_option maxRecDepth 100000 in
theorem open_reply {H : Type} {enc : TypeId × Value → H} {W : World} {r : Reach} {q0 : Nat} {v : Value} {d : DataW H} {ps : List MemPlace} {base : Nat} (hval : Value.okWide Tryd.prog W r q0 43 v)
    (h : DataW.Trod enc Tryd.prog W base (fun _ => true) true 43 v d ps) :
    ∃ (z0 : Int) (s1 : ByteArray) (z2 : Int) (l3 : List Fld) (a3 : Option Addr) (c3 : Nat) (l4 : List UInt8) (a4 : Option Addr) (c4 : Nat), v = .agg #[.int .i64 z0, .string s1, .int .i64 z2, .slice a3 l3.length c3, .slice a4 l4.length c4] ∧ (-9223372036854775808 ≤ z0 ∧ z0 ≤ 9223372036854775807) ∧ s1.size ≤ maxLen ∧ s1.size ≤ Rows.uptoBulk d ∧ (-9223372036854775808 ≤ z2 ∧ z2 ≤ 9223372036854775807) ∧ (FldsC W a3 l3 c3 ∧ l3.length ≤ c3 ∧ c3 ≤ maxLen ∧ ShortF l3 ∧ (Rows.uptoBulk d ≤ 1048576 → SmallF l3)) ∧ (IsBytes W a4 l4 c4 ∧ l4.length ≤ Rows.uptoBulk d) := by
  obtain ⟨cs, rfl, hsz⟩ := okWide_struct Tryd.underlying43 hval
  obtain ⟨fuel, hf⟩ := h
  have hsz2 : cs.size = 5 := by rw [hsz]; kernel_rfl
  obtain ⟨x0, x1, x2, x3, x4, rfl⟩ : ∃ x0 x1 x2 x3 x4, cs = #[x0, x1, x2, x3, x4] := by
    match cs, hsz2 with
    | ⟨[x0, x1, x2, x3, x4]⟩, _ => exact ⟨x0, x1, x2, x3, x4, rfl⟩
  obtain ⟨ys, n, _, hdp, _, hlen, hfs⟩ := DataW.trod_struct Tryd.underlying43 hf
  obtain ⟨y0, y1, y2, y3, y4, rfl⟩ : ∃ y0 y1 y2 y3 y4, ys = [y0, y1, y2, y3, y4] := by
    match ys, hlen with
    | [y0, y1, y2, y3, y4], _ => exact ⟨y0, y1, y2, y3, y4, rfl⟩
  have h0 : DataW.trod enc Tryd.prog W base (fun _ => true) true n 3 [x0] = some y0 := by
    have e : ((Value.agg #[x0, x1, x2, x3, x4]).cells.toList.drop 0).take (Tryd.prog.cellsOf 3) = [x0] := by rw [show Tryd.prog.cellsOf 3 = 1 by kernel_rfl]; rfl
    rw [← e]; exact hfs 0 _ rfl
  have h1 : DataW.trod enc Tryd.prog W base (fun _ => true) true n 9 [x1] = some y1 := by
    have e : ((Value.agg #[x0, x1, x2, x3, x4]).cells.toList.drop 1).take (Tryd.prog.cellsOf 9) = [x1] := by rw [show Tryd.prog.cellsOf 9 = 1 by kernel_rfl]; rfl
    rw [← e]; exact hfs 1 _ rfl
  have h2 : DataW.trod enc Tryd.prog W base (fun _ => true) true n 3 [x2] = some y2 := by
    have e : ((Value.agg #[x0, x1, x2, x3, x4]).cells.toList.drop 2).take (Tryd.prog.cellsOf 3) = [x2] := by rw [show Tryd.prog.cellsOf 3 = 1 by kernel_rfl]; rfl
    rw [← e]; exact hfs 2 _ rfl
  have h3 : DataW.trod enc Tryd.prog W base (fun _ => true) true n 24 [x3] = some y3 := by
    have e : ((Value.agg #[x0, x1, x2, x3, x4]).cells.toList.drop 3).take (Tryd.prog.cellsOf 24) = [x3] := by rw [show Tryd.prog.cellsOf 24 = 1 by kernel_rfl]; rfl
    rw [← e]; exact hfs 3 _ rfl
  have h4 : DataW.trod enc Tryd.prog W base (fun _ => true) true n 25 [x4] = some y4 := by
    have e : ((Value.agg #[x0, x1, x2, x3, x4]).cells.toList.drop 4).take (Tryd.prog.cellsOf 25) = [x4] := by rw [show Tryd.prog.cellsOf 25 = 1 by kernel_rfl]; rfl
    rw [← e]; exact hfs 4 _ rfl
  have hd : d = .agg [y0.1, y1.1, y2.1, y3.1, y4.1] := by have := congrArg Prod.fst hdp; simpa using this
  obtain ⟨z0, ez0, fz0, wz0⟩ := DataW.trod_int Tryd.underlying3 h0
  injection ez0 with ez0
  subst ez0
  obtain ⟨s1, es1, fs1, zs1⟩ := DataW.trod_string Tryd.underlying9 h1
  injection es1 with es1
  subst es1
  have ls1 : s1.data.toList.length = s1.size := by rw [Array.length_toList]; rfl
  obtain ⟨z2, ez2, fz2, wz2⟩ := DataW.trod_int Tryd.underlying3 h2
  injection ez2 with ez2
  subst ez2
  obtain ⟨a3, len3, c3, rfl⟩ : ∃ a len cap, x3 = .slice a len cap := by
    rcases Go.Deep.open_slice_pairs Tryd.underlying24 Tryd.underlying60 (by kernel_rfl) (by kernel_rfl) (by kernel_rfl) (by kernel_rfl) (by kernel_rfl) h3 with ⟨hcs, _⟩ | ⟨x, k, c, m, j, V0, V1, D0, D1, P0, P1, hcs, _⟩
    · injection hcs with hcs; exact ⟨_, _, _, hcs⟩
    · injection hcs with hcs; exact ⟨_, _, _, hcs⟩
  obtain ⟨l3, rfl, hF3, hc3, hm3, hS3, hu3⟩ := open_fieldsC (d := y3.1) (ps := y3.2) ⟨n, h3⟩
  obtain ⟨a4, len4, c4, rfl⟩ : ∃ a len cap, x4 = .slice a len cap := by
    rcases open_ints Tryd.underlying25 Tryd.underlying5 (by kernel_rfl) h4 with ⟨hcs, _⟩ | ⟨x, k, c, zs, hcs, _⟩
    · injection hcs with hcs; exact ⟨_, _, _, hcs⟩
    · injection hcs with hcs; exact ⟨_, _, _, hcs⟩
  obtain ⟨l4, rfl, hb4, hl4⟩ := open_bytes_bulk (d := y4.1) (ps := y4.2) ⟨n, h4⟩
  subst hd
  subst fz0 fs1 fz2
  simp only [Rows.uptoBulk, Rows.uptoBulkAll, ls1]
  exact ⟨z0, s1, z2, l3, a3, c3, l4, a4, c4, rfl, i64_ofF wz0, zs1, by omega, i64_ofF wz2, ⟨hF3, hc3, hm3, hS3, fun hb => hu3 (by omega)⟩, ⟨hb4, by omega⟩⟩
end Go.Proofs.YtbcjchbmiknjdaaDoor
