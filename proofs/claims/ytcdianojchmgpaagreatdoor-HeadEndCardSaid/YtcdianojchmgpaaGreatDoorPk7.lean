/- The request that the source makes. A slice of bytes in a block of the call's own that may bear the mark of a conversion: append in place, one byte stored. Sizes of what the source makes; local laws for wire. FormatStatus of package startline; the law LineStatus. The law LineStatus. The law LineRequest. A line that was formatted is parsed to the same fields; the law LineTwice. The law LineTwice. The law LineFormat. Package head: FormatRequest, FormatReply. awake of the laws on heads. -/
import Derived.Test.YtcdianojchmgpaaGreatDoorPk1
import Derived.Test.YtcdianojchmgpaaGreatDoorPk2
import Derived.Test.YtcdianojchmgpaaGreatDoorPk3
import Derived.Test.YtcdianojchmgpaaGreatDoorPk4
import Derived.Test.YtcdianojchmgpaaGreatDoorPk5
import Derived.Test.YtcdianojchmgpaaGreatDoorPk6
import Derived.Test.YtcdianojchmgpaaGreatDoorRows
import Derived.WalkKit
import Derived.WalkSpells
import Derived.WalkLawsBesides
import Derived.BigQuiet
import Derived.Deep.QuietTactic
import Derived.Lib.Bytealg
import Derived.Lib.IndexLaws
import Derived.Lib.Hide
import Derived.Laws.IdiomStrings
import Derived.Lib.SlTrimSet
import Derived.Lib.IndexBytes
import Derived.Lib.Split
import Derived.Deep.AppendLies
import Derived.Shelf.Strings.SlTrimAscii
import Derived.Shelf.Strings.SplitShaped
import Derived.Shelf.LaysM
import Derived.Shelf.Strings.BuilderK
import Derived.Shelf.Strconv.Itoa4
import Derived.Shelf.Strings.Prefix
import Derived.Shelf.Bytes.SlIndexWhole
import Derived.Test.YtcdianojchmgpaaGreatDoorProg
import Derived.Lib.SplitLaws
import Derived.WalkSmall
import Derived.ProofKit
import Derived.OpenShut
import Derived.Lib.Strings
import Derived.SliceStrings
import Derived.Deep.Quiet
import Derived.Tactics
import Derived.KernelRfl
import Derived.Below
import Derived.Laws.Bits64
import Derived.Lib.SlBytesConst
import Derived.Maps.AppendAt
import Derived.Laws.AppendOwnNone
import Derived.Great.BuildSlice
import Derived.Laws.Rows
import Derived.Laws.BitsAllLaws
import Derived.Laws.Shifts
import Derived.Maps.OwnOps
import Derived.Maps.OwnSet
import Derived.Deep.SlicePairs
import Derived.Lib.AppendZerosOnto
import Derived.Lib.AppendStr
import Derived.Laws.CopyOwn
import Derived.OwnWalk
import Derived.Laws.Strings3
import Derived.Laws.Concat
import Derived.Lib.ItoaMem
import Derived.IntWalk
import Derived.Sort.Grow
import Derived.Lib.LaidTab
import Derived.LaidSub
import Derived.Laws.Bits64b
import Derived.Laws.RangeAny
import Derived.LoopTactic
import Derived.Deep.DeepCutAuto
import Derived.Deep.CutBlock
import Derived.Lib.ConvBytes
import Derived.Lib.FrozenHead2
namespace Go.Proofs.YtcdianojchmgpaaGreatDoor
open Go.RowKit

def Spec.nope : Spec := ⟨fun _ _ => False, fun _ _ _ h _ => h⟩
def Spec.ids (f : ByteArray → Value) : Spec := ⟨fun v _ => ∃ s, IdOk s ∧ v = f s, fun _ _ _ h _ => h⟩
def CookS (w : World) (v : Value) : Prop := ∃ s b c, IdOk s ∧ v = .slice (some ⟨b, 0, none⟩) 1 c ∧ w.cell? ⟨b, 0, none⟩ = some (.string (cookF s).1) ∧ w.cell? ⟨b, 1, none⟩ = some (.string (cookF s).2)
def Spec.cooks : Spec := ⟨fun v w => CookS w v, fun _ _ _ h hb => by
  obtain ⟨s, b, c, h1, h2, h3, h4⟩ := h
  exact ⟨s, b, c, h1, h2, below_cell hb h3, below_cell hb h4⟩⟩
def CookA (B : Nat) (x : List Fld) (w : World) (v : Value) : Prop := ∃ s, IdOk s ∧ OwnF B w v (x ++ [cookF s])
def Spec.capp (B : Nat) (x : List Fld) : Spec := ⟨fun v w => CookA B x w v, fun _ _ _ h hb => by
  obtain ⟨s, h1, h2⟩ := h
  exact ⟨s, h1, h2.keep hb⟩⟩
section
variable {Q : Exit → Act → World → Prop} {act : Act} {w : World} {o : Oper} {s : Spec} {K : Act → World → Prop}
theorem loc_slice1F {x : Operand} (ho : o.op = .buildSlice 33 1 #[(0, x)]) {f : Fld} (hx : act.eval x = .agg #[.string f.1, .string f.2]) (hs : ∀ w', w'.cell? ⟨w.heap.size, 0, none⟩ = some (.string f.1) → w'.cell? ⟨w.heap.size, 1, none⟩ = some (.string f.2) → s.p (.slice (some ⟨w.heap.size, 0, none⟩) 1 1) w') :
    o.wp Tryz.prog act w (fun a' w' => ∃ v, a' = act.put o.dst v ∧ Below w.heap.size w w' ∧ s.p v w') Q := by
  obtain ⟨i0, hi, hz0, hz1, hz2⟩ := info_parts Tryz.info74
  have hrun := run_buildSlice (P := Tryz.prog) w 33 74 1 #[(0, .agg #[.string f.1, .string f.2])] #[.string f.1, .string f.2] i0 _ Tryz.underlying33 hi hz0 (by rw [hz1]; decide) (by rw [hz1]; decide) (by rw [hz1]; simp [Instr.fill, Value.cells, Array.range_succ, show Array.range 0 = #[] from rfl])
  refine loc_run (v := .slice (some ⟨w.heap.size, 0, none⟩) 1 1) (w' := w.alloc (.cells #[.string f.1, .string f.2] 74)) ?_ (below_oneF _ _) (hs _ (by rw [new_cellF]; rfl) (by rw [new_cellF]; rfl))
  unfold execOp
  simp only [ho, List.map_toArray, List.map_cons, List.map_nil, hx]
  rw [Sem.run_bind, hrun]; rfl
theorem wp_append_oneF {x y : Operand} (ho : o.op = .call { callee := .builtin .append, args := #[x, y], argTypes := #[33, 33] }) {B : Nat} {l : List Fld} (hx : OwnF B w (act.eval x) l) {b c : Nat} {f : Fld} (hy : act.eval y = .slice (some ⟨b, 0, none⟩) 1 c)
    (h0 : w.cell? ⟨b, 0, none⟩ = some (.string f.1)) (h1 : w.cell? ⟨b, 1, none⟩ = some (.string f.2)) (hn : l.length + 1 ≤ 4398046511104) (hB : B ≤ w.heap.size)
    (h : ∀ v' w', OwnF B w' v' (l ++ [f]) → w.grownBy w' (act.eval x).ownBlock → K (act.put o.dst v') w') : o.wp Tryz.prog act w K Q := by
  obtain ⟨i0, hi, hz0, hz1, hz2⟩ := info_parts Tryz.info74
  refine wp_append_lies w x y 33 ho B 74 i0 _ 2 32 Tryz.underlying33 hi hz0 hz1 hz2 rfl (by decide) (act.eval x) l.length (cellsF l) rfl hx ⟨b, 0, none⟩ 1 c [.string f.1, .string f.2] hy rfl ?_ ?_ (by decide) (by unfold maxLen; omega) (by omega) hB w.heap.size rfl ?_
  · intro j u hj
    match j, hj with
    | 0, hj => simp at hj; subst hj; rw [Addr.add_lit]; exact h0
    | 1, hj => simp at hj; subst hj; rw [Addr.add_lit]; exact h1
    | j + 2, hj => simp at hj
  · intro u hu; simp at hu; rcases hu with rfl | rfl <;> rfl
  · intro g cap w' hown hgrow hg hlt
    refine h _ w' ?_ hgrow
    unfold OwnF
    rw [List.length_append, cellsF_app]; exact hown
theorem wp_store_slice {P : Program} {ty : TypeId} {x y : Operand} (ho : o.op = .store ty x y) {p : Addr} {sa : Option Addr} {sn sc : Nat} {u : Value} (hx : act.eval x = .pointer (some p)) (hy : act.eval y = .slice sa sn sc) (hi : (P.info? ty).map (·.size) = some 1)
    (hc : w.cell? p = some u) (hf : w.frozen? p = false) (h : K (act.put o.dst undef) (w.setCell p (.slice sa sn sc))) : o.wp P act w K Q := by
  have hz : (sizeOf ty).run P w = .ok 1 w := by
    cases hq : P.info? ty with
    | none => rw [hq] at hi; cases hi
    | some i => rw [hq] at hi; simp at hi; simp [sizeOf, typeInfo, hq, hi]
  unfold Oper.wp execOp
  simp_all [Instr.storeAt, Instr.sureAddr, storeVar, storeCells, Value.cells, go_sem]
theorem chain_call {f : FuncId} {args : List Operand} {ts : Array TypeId} {P : Program} (ho : o.op = .call { callee := .value (.func f), args := args.toArray, argTypes := ts })
    (hf : (P.funcs[f]?).map (fun fn => fn.name != "runtime.NumGoroutine" && fn.body.isSome) = some true) (h : Calls P f (args.map act.eval).toArray w fun e w' => ∃ v, e = .returned v ∧ K (act.put o.dst v) w') : o.wp P act w K Q := by
  have hrun : (execOp act.eval o).run P w = .ok (.enter f (args.map act.eval).toArray) w := by
    unfold execOp; rw [ho]
    cases hfn : P.funcs[f]? with
    | none => rw [hfn] at hf; cases hf
    | some fn =>
      rw [hfn] at hf
      simp only [Option.map_some, Option.some.injEq, Bool.and_eq_true, bne_iff_ne, ne_eq] at hf
      have hb : fn.body ≠ none := fun e => by rw [e] at hf; exact absurd hf.2 (by simp)
      simp [resolve, Deferred.ofValue, invoke, callFunc, show act.eval (.func f) = .func (.func f) #[] #[] from rfl, hfn, hf.1, hb]
  unfold Oper.wp
  rw [hrun, Oper.upon_enter]
  refine h.mono ?_
  rintro e w' ⟨v, rfl, hk⟩
  exact hk
end

theorem agg_fields (w : World) : (isAgg 33).run Tryz.prog w = .ok false w := by
  unfold isAgg; rw [Sem.run_bind, run_underlying Tryz.underlying33 w]; rfl
theorem RqSt.src {R : List Fld → Prop} {B g : Nat} {a : Option Addr} {n c : Nat} {w0 : World} {gr q : Nat} {m t : ByteArray} {w : World} (h : RqSt R B g a n c w0 gr q m t w) : Src w g a n c := by
  obtain ⟨_, _, _, _, _, _, _, h, _, _⟩ := h
  exact h
theorem RqSt.weaken {R R' : List Fld → Prop} {B g : Nat} {a : Option Addr} {n c : Nat} {w0 : World} {gr q : Nat} {m t : ByteArray} {w : World} (h : RqSt R B g a n c w0 gr q m t w) (hr : ∀ x, R x → R' x) : RqSt R' B g a n c w0 gr q m t w := by
  obtain ⟨z, vF, x, h1, h2, h3, h5, h⟩ := h
  exact ⟨z, vF, x, h1, h2, h3, hr x h5, h⟩
/-- The same with its parts named, within a region. -/
structure RqJ (g : Nat) (a : Option Addr) (n c : Nat) (w0 : World) (gr q : Nat) (m t : ByteArray) (z : Int) (vF : Value) (w : World) : Prop where
  row : w.heap[gr]? = some (.cells #[.string m, .string t, .int .i64 z, vF, .bool false, .slice none 0 0] 35 (0, 0))
  src : Src w g a n c
  grown : w0.grownBy w (some g)
  res : RVar w q ⟨#[]⟩ ⟨#[]⟩ 0
theorem RqJ.keep {g : Nat} {a : Option Addr} {n c : Nat} {w0 : World} {gr q : Nat} {m t : ByteArray} {z : Int} {vF : Value} {w w' : World} (h : RqJ g a n c w0 gr q m t z vF w) (hb : Below w.heap.size w w') : RqJ g a n c w0 gr q m t z vF w' :=
  ⟨by rw [hb.block gr (Array.getElem?_eq_some_iff.1 h.row).1]; exact h.row, h.src.keep hb, grownBy_trans h.grown (grownBy_below hb), h.res.keep hb⟩
theorem RqJ.next {B g : Nat} {a : Option Addr} {n c : Nat} {w0 : World} {gr q : Nat} {m t : ByteArray} {z : Int} {vF : Value} {w w' : World} (h : RqJ g a n c w0 gr q m t z vF w) (N : RqN B g a n w0 gr q) (hg : w.grownBy w' (some g)) (hs : Src w' g a n c) : RqJ g a n c w0 gr q m t z vF w' := by
  have n1 := N.lo
  have n2 := N.hq
  have n3 := N.hgr
  exact ⟨(hg.block gr (Array.getElem?_eq_some_iff.1 h.row).1 (fun e => by have := Option.some.inj e; omega)).trans h.row, hs, grownBy_trans h.grown hg, (hg.block q (Array.getElem?_eq_some_iff.1 h.res).1 (fun e => by have := Option.some.inj e; omega)).trans h.res⟩
theorem RqJ.app {B g : Nat} {a : Option Addr} {n c : Nat} {w0 : World} {gr q : Nat} {m t : ByteArray} {z : Int} {vF : Value} {row : Option Nat} {w w' : World} (h : RqJ g a n c w0 gr q m t z vF w) (N : RqN B g a n w0 gr q) (hg : w.grownBy w' row) (hr : ∀ k, row = some k → B ≤ k) : RqJ g a n c w0 gr q m t z vF w' := by
  have n1 := N.lo
  have n2 := N.hq
  have n3 := N.hgr
  have n4 := N.top
  exact ⟨(hg.block gr (Array.getElem?_eq_some_iff.1 h.row).1 (fun e => by have := hr _ e.symm; omega)).trans h.row, h.src.grown hg (fun e => by have := hr g e.symm; omega) (fun y e h0 e2 => by have := hr _ e2.symm; have := N.src y e h0; omega), grownBy_new h.grown hg (fun j e => by have := hr j e; omega), (hg.block q (Array.getElem?_eq_some_iff.1 h.res).1 (fun e => by have := hr q e.symm; omega)).trans h.res⟩

/-- The variable with its cells, and what is kept beside it. -/
structure RqK (B g : Nat) (a : Option Addr) (n c : Nat) (w0 : World) (gr q : Nat) (vF : Value) (x : List Fld) (cs : Array Value) (w : World) : Prop where
  row : w.heap[gr]? = some (.cells cs 35 (0, 0))
  own : OwnF B w vF x
  src : Src w g a n c
  grown : w0.grownBy w (some g)
  res : RVar w q ⟨#[]⟩ ⟨#[]⟩ 0
theorem RqK.set {B g : Nat} {a : Option Addr} {n c : Nat} {w0 : World} {gr q : Nat} {vF : Value} {x : List Fld} {cs : Array Value} {w : World} (h : RqK B g a n c w0 gr q vF x cs w) (N : RqN B g a n w0 gr q) (i : Nat) (v : Value) :
    RqK B g a n c w0 gr q vF x (cs.setIfInBounds i v) (w.setCell ⟨gr, i, none⟩ v) := by
  have n1 := N.lo
  have n2 := N.hq
  have n3 := N.hgr
  have n4 := N.top
  have hg : w.grownBy (w.setCell ⟨gr, i, none⟩ v) (some gr) := grownBy_setCell
  exact ⟨heap_setCell_same w gr i cs 35 v h.row, h.own.grown hg (fun k hk e => by have := (h.own.lt hk).1; have := Option.some.inj e; omega), h.src.other hg (by omega) (fun y e h0 => by have := N.src y e h0; omega), grownBy_new h.grown hg (fun j e => by have := Option.some.inj e; omega), (heap_setCell_other w ⟨gr, i, none⟩ q _ (by show q ≠ gr; omega)).trans h.res⟩
theorem RqK.next {B g : Nat} {a : Option Addr} {n c : Nat} {w0 : World} {gr q : Nat} {vF : Value} {x : List Fld} {cs : Array Value} {w w' : World} (h : RqK B g a n c w0 gr q vF x cs w) (N : RqN B g a n w0 gr q) (hg : w.grownBy w' (some g)) (hs : Src w' g a n c) : RqK B g a n c w0 gr q vF x cs w' := by
  have n1 := N.lo
  have n2 := N.hq
  have n3 := N.hgr
  have n4 := N.top
  exact ⟨(hg.block gr (Array.getElem?_eq_some_iff.1 h.row).1 (fun e => by have := Option.some.inj e; omega)).trans h.row, h.own.grown hg (fun k hk e => by have := (h.own.lt hk).1; have := Option.some.inj e; omega), hs, grownBy_trans h.grown hg, (hg.block q (Array.getElem?_eq_some_iff.1 h.res).1 (fun e => by have := Option.some.inj e; omega)).trans h.res⟩
theorem Own.set {B g i : Nat} {w : World} {v u : Value} {l : List UInt8} (h : Own B w v l) (hg : g < B) : Own B (w.setCell ⟨g, i, none⟩ u) v l :=
  h.grown grownBy_setCell (fun k hk e => by have := (h.lt hk).1; have := Option.some.inj e; omega)
def RqFin (B g : Nat) (a : Option Addr) (n c : Nat) (w0 : World) (gr q : Nat) (m t : ByteArray) (w : World) : Prop :=
  ∃ z vF x fr vB l, (z = 0 ∨ z = 1) ∧ RqK B g a n c w0 gr q vF x #[.string m, .string t, .int .i64 z, vF, .bool fr, vB] w ∧ Own B w vB l ∧ RF3 x ∧ l.length ≤ 30 ∧ (fr = false → l = [])

set_option maxRecDepth 100000 in
set_option maxHeartbeats 4000000 in
theorem srcReq_any (g : Nat) (a : Option Addr) (n c : Nat) (w : World) (h : Src w g a n c) :
    Calls Tryz.prog 20 #[.pointer (some ⟨g, 0, none⟩)] w (ReqMade w g a n c) := by
  have H0 := Box.mk h
  have HLOW := Box.mk h.low
  have hlt := h.lt
  clear h
  go_enter Tryz.func20, Tryz.ntmps20
  go_wp2_with fail
  obtain ⟨W, hW⟩ : ∃ W, W = (w.alloc (.cells #[.string ⟨#[]⟩, .string ⟨#[]⟩, .int .i64 0, .slice none 0 0, .bool false, .slice none 0 0] 35)).alloc (.cells (methF.map Value.string).toArray 9) := ⟨_, rfl⟩
  have HBW := Box.mk (show Below w.heap.size w W by rw [hW]; exact below_twoF (below_oneF w _) _)
  have HQ := Box.mk (show RVar W w.heap.size ⟨#[]⟩ ⟨#[]⟩ 0 by rw [hW]; exact (show RVar (w.alloc _) _ _ _ _ from heap_alloc_new _ _).keep (below_oneF _ _))
  have HL := Box.mk (show StrsIn W (some ⟨w.heap.size + 1, 0, none⟩) methF by
    have h1 := strsIn_newF (w.alloc (.cells #[.string ⟨#[]⟩, .string ⟨#[]⟩, .int .i64 0, .slice none 0 0, .bool false, .slice none 0 0] 35)) methF 9
    rw [World.size_alloc] at h1
    rw [hW]; exact h1)
  have HS := Box.mk (H0.out.keep HBW.out)
  change Calls _ _ _ ((w.alloc (.cells #[.string ⟨#[]⟩, .string ⟨#[]⟩, .int .i64 0, .slice none 0 0, .bool false, .slice none 0 0] 35)).alloc (.cells (methF.map Value.string).toArray 9)) _
  rw [← hW]
  clear hW
  refine (of_n g (w.heap.size + 1) 5 methF 5 a n c W HS.out HL.out (by omega) rfl (by decide) (by decide)).mono ?_
  rintro e w1 ⟨m, hm, rfl, hsrc, hg1⟩
  have HNM := Box.mk hm
  have HS1 := Box.mk hsrc
  have HG1 := Box.mk (show w.grownBy w1 (some g) from grownBy_trans (grownBy_below HBW.out) hg1)
  have HQ1 := Box.mk (show RVar w1 w.heap.size ⟨#[]⟩ ⟨#[]⟩ 0 from (hg1.block _ (Array.getElem?_eq_some_iff.1 HQ.out).1 (fun e => by have := Option.some.inj e; omega)).trans HQ.out)
  clear hm hsrc hg1 HS HL HQ HBW H0
  go_wp2_with fail
  obtain ⟨W, hW⟩ : ∃ W, W = w1.alloc (.cells (targF.map Value.string).toArray 9) := ⟨_, rfl⟩
  have HBW := Box.mk (show Below w1.heap.size w1 W by rw [hW]; exact below_oneF w1 _)
  have HL := Box.mk (show StrsIn W (some ⟨w1.heap.size, 0, none⟩) targF by rw [hW]; exact strsIn_newF w1 targF 9)
  have HS2 := Box.mk (HS1.out.keep HBW.out)
  have hlt1 := HS1.out.lt
  change Calls _ _ _ (w1.alloc (.cells (targF.map Value.string).toArray 9)) _
  rw [← hW]
  clear hW
  refine (of_n g w1.heap.size 4 targF 4 a n c W HS2.out HL.out (by omega) rfl (by decide) (by decide)).mono ?_
  rintro e w2 ⟨t, ht, rfl, hsrc, hg2⟩
  have HTM := Box.mk ht
  have HS3 := Box.mk hsrc
  have HG3 := Box.mk (show w.grownBy w2 (some g) from grownBy_trans HG1.out (grownBy_trans (grownBy_below HBW.out) hg2))
  have HQ3 := Box.mk (show RVar w2 w.heap.size ⟨#[]⟩ ⟨#[]⟩ 0 from (hg2.block _ (Array.getElem?_eq_some_iff.1 (HQ1.out.keep HBW.out)).1 (fun e => by have := Option.some.inj e; omega)).trans (HQ1.out.keep HBW.out))
  clear ht hsrc hg2 HS2 HL HQ1 HBW HS1 HG1
  have hgr := HG3.out.size
  have hq2 : w.heap.size < w2.heap.size := (Array.getElem?_eq_some_iff.1 HQ3.out).1
  go_wp2_with fail
  have HN := Box.mk (show RqN (w2.heap.size + 1) g a n w w2.heap.size w.heap.size from ⟨hlt, HLOW.out, rfl, hq2, Nat.lt_succ_self _⟩)
  have HST := Box.mk (show RqSt (fun x => x = []) (w2.heap.size + 1) g a n c w w2.heap.size w.heap.size m t (w2.alloc (.cells #[.string m, .string t, .int .i64 1, .slice none 0 0, .bool false, .slice none 0 0] 35)) from
    ⟨1, _, [], .inr rfl, heap_alloc_new _ _, OwnF.start _ _, rfl, HS3.out.keep (below_oneF _ _), grownBy_trans HG3.out (grownBy_below (below_oneF _ _)), HQ3.out.keep (below_oneF _ _)⟩)
  obtain ⟨W, hW⟩ : ∃ W, W = w2.alloc (.cells #[.string m, .string t, .int .i64 1, .slice none 0 0, .bool false, .slice none 0 0] 35) := ⟨_, rfl⟩
  have hgs : w2.heap.size < W.heap.size := by rw [hW, World.size_alloc]; omega
  have hsW := Box.mk (show Src W g a n c by rw [hW]; exact HS3.out.keep (below_oneF _ _))
  change Calls _ _ _ (w2.alloc (.cells #[.string m, .string t, .int .i64 1, .slice none 0 0, .bool false, .slice none 0 0] 35)) _
  rw [← hW] at HST ⊢
  clear hW HS3 HG3 HQ3
  generalize hgr0 : w2.heap.size = gr at *
  clear hgr0 hgr
  generalize hq0 : w.heap.size = q at *
  have HQ0 := Box.mk hq0
  clear hq0
  refine (next_any g 6 a n c W hsW.out (by decide) (by decide)).mono ?_
  rintro e w3 ⟨k, hk, rfl, hsrc, hg3⟩
  have HST3 := Box.mk (HST.out.next HN.out hg3 hsrc)
  clear hsrc hg3 hsW HST
  go_upto_if 13 with fail
  go_cut [] (fun wx => Box (RqSt (fun x => x = []) (gr + 1) g a n c w gr q m t wx))
  case first =>
    obtain ⟨z, vF, x, h1, h2, h3, h5, h8, h9, h10⟩ := HST3.out
    have H2 := Box.mk h2
    have HA := Box.mk (And.intro h3 (And.intro h8 (And.intro h9 h10)))
    have hf := frozen_of_row w3 gr 2 _ _ h2
    have hc2 : w3.cell? ⟨gr, 2, none⟩ = some (.int .i64 z) := by rw [cell_of_row _ _ _ _ _ _ h2]; rfl
    subst h5
    clear h1 h2 h3 h8 h9 h10
    by_cases hk0 : k = 0
    · have e0 : (((k : Nat) : Int) == 0) = true := by rw [hk0]; rfl
      clear hk0
      go_wp2_with fail
      go_meet
      exact ⟨RqSt.put HN.out (.inl rfl) H2.out rfl HA.out.1 rfl HA.out.2.1 HA.out.2.2.1 HA.out.2.2.2⟩
    · have e0 : (((k : Nat) : Int) == 0) = false := by rw [beq_eq_false_iff_ne]; omega
      clear hk0
      go_wp2_with fail
      go_meet
      exact HST3
  case rest =>
    obtain ⟨z, vF, x, h1, h2, h3, h5, h8, h9, h10⟩ := hcut.out
    have hgc : gr < wc.heap.size := (Array.getElem?_eq_some_iff.1 h2).1
    have HA := Box.mk (And.intro h1 (And.intro h2 (And.intro h8 (And.intro h9 h10))))
    clear h1 h2 h3 h5 h8 h9 h10 HST3 hcut
    go_wp2_with fail
    refine (srcFieldsS_any g 3 a n c wc HA.out.2.2.1 (by decide)).mono ?_
    rintro e w4 ⟨v4, y, rfl, hy, hyl, hyf, hsrc, hg4⟩
    have HY := Box.mk (hy.mono (show gr + 1 ≤ wc.heap.size from hgc))
    have HRF := Box.mk (show RF1 (y ++ [hostF]) from ⟨y, hyf, hyl, rfl⟩)
    have HROW := Box.mk ((hg4.block gr hgc (fun e => by have := Option.some.inj e; omega)).trans HA.out.2.1)
    have HQ4 := Box.mk (show RVar w4 q ⟨#[]⟩ ⟨#[]⟩ 0 from (hg4.block q (by omega) (fun e => by have := Option.some.inj e; omega)).trans HA.out.2.2.2.2)
    have HS4 := Box.mk hsrc
    have HG4 := Box.mk (grownBy_trans HA.out.2.2.2.1 hg4)
    have hsz4 := hg4.size
    have HZ := Box.mk HA.out.1
    clear hy hyf hsrc hg4 HA
    go_wp2_with (at_builtin; refine wpList_append_ownf _ rfl _ _ rfl rfl (HY.out.keep (below_oneF w4 (.cells #[.string hostF.1, .string hostF.2] 74))) rfl (y := hostF) ?c1 ?c2 (by omega) (by simp; omega) ?c3)
    case c1 => simp [hostF]
    case c2 => simp [hostF]
    case c3 =>
      intro v5 w5 hown hgrow
      obtain ⟨X, hX⟩ : ∃ X, y ++ [hostF] = X := ⟨_, rfl⟩
      rw [hX] at hown HRF
      clear hX
      have hb4 := below_oneF w4 (.cells #[.string hostF.1, .string hostF.2] 74)
      have HST6 := Box.mk (RqSt.app (R' := RF1) HN.out HZ.out ((hb4.block gr (Nat.lt_of_lt_of_le hgc hsz4)).trans HROW.out) rfl (fun k hk => (HY.out.lt hk).1) hgrow hown HRF.out (HS4.out.keep hb4) (grownBy_trans HG4.out (grownBy_below hb4)) (HQ4.out.keep hb4))
      have hrow := (hgrow.block gr (by rw [World.size_alloc]; omega) (fun e => by have := (HY.out.lt e.symm).1; omega)).trans ((hb4.block gr (Nat.lt_of_lt_of_le hgc hsz4)).trans HROW.out)
      have hf := frozen_of_row w5 gr 3 _ _ hrow
      have hc3 : w5.cell? ⟨gr, 3, none⟩ = some vF := by rw [cell_of_row _ _ _ _ _ _ hrow]; rfl
      obtain ⟨sa, sc, hv5, _, _⟩ := hown.shape
      subst hv5
      clear hown hgrow hrow hb4 HY HRF HROW HQ4 HS4 HG4 HZ
      go_wp2_with fail
      have hgc6 : gr < (w5.setCell ⟨gr, 3, none⟩ (.slice sa X.length sc)).heap.size := by
        obtain ⟨_, _, _, _, h2, _⟩ := HST6.out
        exact (Array.getElem?_eq_some_iff.1 h2).1
      clear hf hc3
      generalize w5.setCell ⟨gr, 3, none⟩ (.slice sa X.length sc) = W6 at *
      refine (next_any g 2 a n c W6 HST6.out.src (by decide) (by decide)).mono ?_
      rintro e w7 ⟨k2, hk2, rfl, hsrc, hg7⟩
      have HST7 := Box.mk (HST6.out.next HN.out hg7 hsrc)
      clear hsrc hg7 HST6 hgc6
      go_upto_if 23 with fail
      go_cut [] (fun wx => Box (RqSt RF2 (gr + 1) g a n c w gr q m t wx))
      case first =>
        by_cases hk0 : k2 = 0
        · have e0 : (((k2 : Nat) : Int) == 0) = true := by rw [hk0]; rfl
          clear hk0
          obtain ⟨z, vF, x, h1, h2, h3, h5, h8, h9, h10⟩ := HST7.out
          have HZ := Box.mk h1
          have HJ := Box.mk (show RqJ g a n c w gr q m t z vF w7 from ⟨h2, h8, h9, h10⟩)
          have HF := Box.mk h3
          have HR := Box.mk h5
          have hx4 := h5.made.2
          clear h1 h2 h3 h5 h8 h9 h10 HST7
          go_wp2_with fail
          rename_i J hJ _
          have hgw : gr < w7.heap.size := (Array.getElem?_eq_some_iff.1 HJ.out.row).1
          refine wp_region_phases [3, 7, 9] (fun p => match p with | 0 => [0, 1, 2] | 1 => [0, 1, 4, 5, 6] | 2 => [8] | _ => [])
            (fun p => match p with
              | 0 => [.val (.pointer (some ⟨gr, 3, none⟩)), .val vF, .val (.pointer (some ⟨g, 0, none⟩)), .nope, .nope, .nope, .nope, .nope, .nope, .any]
              | 1 => [.val (.pointer (some ⟨gr, 3, none⟩)), .val vF, .any, .ids (fun s => .string s), .ids (fun s => .string (cohort ++ s)), .ids (fun s => .agg #[.string (cookF s).1, .string (cookF s).2]), .cooks, .nope, .nope, .any]
              | 2 => [.any, .any, .any, .any, .any, .any, .any, .capp (gr + 1) x, .val (.pointer (some ⟨gr, 3, none⟩)), .any]
              | _ => [.any, .any, .any, .any, .any, .any, .any, .any, .any, .any])
            (fun p => match p with
              | 0 => fun wx => RqJ g a n c w gr q m t z vF wx ∧ OwnF (gr + 1) wx vF x ∧ gr < wx.heap.size
              | 1 => fun wx => RqJ g a n c w gr q m t z vF wx ∧ OwnF (gr + 1) wx vF x ∧ gr < wx.heap.size
              | 2 => fun wx => RqJ g a n c w gr q m t z vF wx
              | _ => fun wx => RqSt RF2 (gr + 1) g a n c w gr q m t wx)
            (by kernel_rfl) (by kernel_rfl) (by kernel_rfl) (by kernel_rfl) (by kernel_rfl) (by kernel_rfl) ?_ ⟨HJ.out, HF.out, hgw⟩ ?_ ?_ ?_
          · intro p w1 w2 h hb
            match p, h with
            | 0, h => exact ⟨h.1.keep hb, h.2.1.keep hb, Nat.lt_of_lt_of_le h.2.2 hb.size⟩
            | 1, h => exact ⟨h.1.keep hb, h.2.1.keep hb, Nat.lt_of_lt_of_le h.2.2 hb.size⟩
            | 2, h => exact RqJ.keep h hb
            | (_ + 3), h => exact RqSt.keep h hb
          · intro p hp
            match p, hp with
            | 0, _ =>
              refine ⟨?_, ?_, ?_, trivial⟩ <;> intro a1 w1 hv hf hd
              · exact ⟨wanted_none rfl, loc_fieldR rfl (hf.base 3 rfl) (by decide) rfl⟩
              · exact ⟨wanted_none rfl, loc_cell rfl (hd 0 rfl) (by rw [cell_of_row _ _ _ _ _ _ hv.1.row]; rfl) (agg_fields _) rfl⟩
              · exact ⟨wanted_none rfl, loc_move rfl (hf.base 0 rfl)⟩
            | 1, _ =>
              refine ⟨?_, ?_, ?_, ?_, ?_, trivial⟩ <;> intro a1 w1 hv hf hd
              · exact ⟨wanted_none rfl, loc_fieldR rfl (hf.base 3 rfl) (by decide) rfl⟩
              · exact ⟨wanted_none rfl, loc_cell rfl (hd 0 rfl) (by rw [cell_of_row _ _ _ _ _ _ hv.1.row]; rfl) (agg_fields _) rfl⟩
              · obtain ⟨s, hs, e⟩ := hd 3 rfl
                exact ⟨wanted_none rfl, loc_addS (b := cohort) rfl rfl e (by rw [hs.1]; decide) ⟨s, hs, rfl⟩⟩
              · obtain ⟨s, hs, e⟩ := hd 4 rfl
                exact ⟨wanted_none rfl, loc_buildF (b := (cookF s).1) (c := (cookF s).2) rfl rfl e ⟨s, hs, rfl⟩⟩
              · obtain ⟨s, hs, e⟩ := hd 5 rfl
                exact ⟨wanted_none rfl, loc_slice1F (f := cookF s) rfl e fun w' h0 h1 => ⟨s, _, _, hs, rfl, h0, h1⟩⟩
            | 2, _ =>
              refine ⟨?_, trivial⟩
              intro a1 w1 hv hf hd
              exact ⟨wanted_none rfl, loc_fieldR rfl (hf.base 3 rfl) (by decide) rfl⟩
            | 3, _ => exact trivial
          · intro p hp
            match p, hp with
            | 0, _ =>
              intro a2 w2 hv hf hd
              refine ⟨wanted_none rfl, chain_call rfl (by kernel_rfl) ?_⟩
              show Calls _ _ #[a2.eval (.tmp 26)] w2 _
              rw [show a2.eval (.tmp 26) = .pointer (some ⟨g, 0, none⟩) from hd 2 rfl]
              refine (srcID_any g a n c w2 hv.1.src).mono ?_
              rintro e w' ⟨s, rfl, h16, hhex, hsrc, hg⟩
              exact ⟨_, rfl, _, rfl, ⟨hv.1.next HN.out hg hsrc, hv.2.1.grown hg (fun k hk e => by have := (hv.2.1.lt hk).1; have := Option.some.inj e; omega), Nat.lt_of_lt_of_le hv.2.2 hg.size⟩, ⟨s, ⟨h16, hhex⟩, rfl⟩,
                ⟨.inr fun _ _ h => h, .inr fun _ _ h => h, .inr fun _ _ _ => trivial, .inl rfl, .inr fun _ _ h => h.elim, .inr fun _ _ h => h.elim, .inr fun _ _ h => h.elim, .inr fun _ _ h => h.elim, .inr fun _ _ h => h.elim, .inr fun _ _ _ => trivial, trivial⟩⟩
            | 1, _ =>
              intro a2 w2 hv hf hd
              have e25 : a2.eval (.tmp 25) = vF := hd 1 rfl
              obtain ⟨s, b, cb, hs, e30, h0, h1⟩ := hd 6 rfl
              refine ⟨wanted_none rfl, wp_append_oneF rfl (by show OwnF (gr + 1) w2 (a2.eval (.tmp 25)) x; rw [e25]; exact hv.2.1) e30 h0 h1 (by omega) hv.2.2 fun v' w3 hown hgrow => ?_⟩
              rw [show a2.eval (.tmp 25) = vF from e25] at hgrow
              exact ⟨v', rfl, hv.1.app HN.out hgrow (fun k hk => (hv.2.1.lt hk).1), ⟨s, hs, hown⟩,
                ⟨.inr fun _ _ _ => trivial, .inr fun _ _ _ => trivial, .inr fun _ _ _ => trivial, .inr fun _ _ _ => trivial, .inr fun _ _ _ => trivial, .inr fun _ _ _ => trivial, .inr fun _ _ _ => trivial, .inl rfl, .inr fun _ _ h => h.elim, .inr fun _ _ _ => trivial, trivial⟩⟩
            | 2, _ =>
              intro a2 w2 hv hf hd
              obtain ⟨s, hs, hown⟩ := hd 7 rfl
              obtain ⟨sa, sc, e31, _, _⟩ := hown.shape
              have e32 : a2.eval (.tmp 32) = .pointer (some ⟨gr, 3, none⟩) := hd 8 rfl
              refine ⟨wanted_none rfl, wp_store_slice (u := vF) rfl e32 e31 (by kernel_rfl) (by rw [cell_of_row _ _ _ _ _ _ hv.row]; rfl) (frozen_of_row w2 gr 3 _ _ hv.row) ?_⟩
              rw [e31] at hown
              exact ⟨undef, rfl, RqSt.put HN.out HZ.out hv.row rfl hown (.inr ⟨x, s, HR.out, hs, rfl⟩) hv.src hv.grown hv.res, trivial,
                ⟨.inr fun _ _ _ => trivial, .inr fun _ _ _ => trivial, .inr fun _ _ _ => trivial, .inr fun _ _ _ => trivial, .inr fun _ _ _ => trivial, .inr fun _ _ _ => trivial, .inr fun _ _ _ => trivial, .inr fun _ _ _ => trivial, .inr fun _ _ _ => trivial, .inl rfl, trivial⟩⟩
          · intro a2 w2 hv hf hh
            clear hh
            rw [fr_putAll hf]
            clear hf
            simp only [putAll]
            generalize a2.eval (.tmp 24) = u24
            generalize a2.eval (.tmp 25) = u25
            generalize a2.eval (.tmp 26) = u26
            generalize a2.eval (.tmp 27) = u27
            generalize a2.eval (.tmp 28) = u28
            generalize a2.eval (.tmp 29) = u29
            generalize a2.eval (.tmp 30) = u30
            generalize a2.eval (.tmp 31) = u31
            generalize a2.eval (.tmp 32) = u32
            clear a2
            simp only [Act.put, List.setIfInBounds_toArray, List.set_cons_succ, List.set_cons_zero]
            refine hJ _ _ ?_
            go_meet
            exact ⟨hv⟩
        · have e0 : (((k2 : Nat) : Int) == 0) = false := by rw [beq_eq_false_iff_ne]; omega
          clear hk0
          go_wp2_with fail
          go_meet
          exact ⟨HST7.out.weaken fun _ h => .inl h⟩
      case rest =>
        have HSTC := Box.mk hcut.out
        clear hcut HST7
        go_wp2_with fail
        refine (next_any g 5 a n c wc HSTC.out.src (by decide) (by decide)).mono ?_
        rintro e w8 ⟨k3, hk3, rfl, hsrc, hg8⟩
        have HST8 := Box.mk (HSTC.out.next HN.out hg8 hsrc)
        clear hsrc hg8 HSTC
        go_upto_if 35 with fail
        go_cut [] (fun wx => Box (RqSt RF3 (gr + 1) g a n c w gr q m t wx))
        case first =>
          by_cases hk0 : k3 = 0
          · have e0 : (((k3 : Nat) : Int) == 0) = true := by rw [hk0]; rfl
            clear hk0
            obtain ⟨z, vF, x, h1, h2, h3, h5, h8, h9, h10⟩ := HST8.out
            have hgw : gr < w8.heap.size := (Array.getElem?_eq_some_iff.1 h2).1
            have hb8 := below_oneF w8 (.cells #[.string expF.1, .string expF.2] 74)
            have hc3 : w8.cell? ⟨gr, 3, none⟩ = some vF := by rw [cell_of_row _ _ _ _ _ _ h2]; rfl
            have HA := Box.mk (And.intro h1 (And.intro h2 (And.intro h3 (And.intro h5 (And.intro h8 (And.intro h9 h10))))))
            have HB8 := Box.mk hb8
            have hx5 := h5.made.2
            clear h1 h2 h3 h5 h8 h9 h10 hb8 HST8
            go_wp2_with (at_builtin; refine wpList_append_ownf _ rfl _ _ rfl rfl (HA.out.2.2.1.keep HB8.out) rfl (y := expF) ?d1 ?d2 (by omega) (by simp; omega) ?d3)
            case d1 => simp [expF]
            case d2 => simp [expF]
            case d3 =>
              intro v9 w9 hown hgrow
              obtain ⟨X9, hX⟩ : ∃ X9, x ++ [expF] = X9 := ⟨_, rfl⟩
              have HRF9 := Box.mk (show RF3 X9 by rw [← hX]; exact .inr ⟨x, HA.out.2.2.2.1, rfl⟩)
              rw [hX] at hown
              clear hX
              have HST9 := Box.mk (RqSt.app (R' := RF3) HN.out HA.out.1 ((HB8.out.block gr hgw).trans HA.out.2.1) rfl (fun k hk => (HA.out.2.2.1.lt hk).1) hgrow hown HRF9.out (HA.out.2.2.2.2.1.keep HB8.out) (grownBy_trans HA.out.2.2.2.2.2.1 (grownBy_below HB8.out)) (HA.out.2.2.2.2.2.2.keep HB8.out))
              have hrow := (hgrow.block gr (by rw [World.size_alloc]; omega) (fun e => by have := (HA.out.2.2.1.lt e.symm).1; omega)).trans ((HB8.out.block gr hgw).trans HA.out.2.1)
              have hf := frozen_of_row w9 gr 3 _ _ hrow
              have hc3 : w9.cell? ⟨gr, 3, none⟩ = some vF := by rw [cell_of_row _ _ _ _ _ _ hrow]; rfl
              obtain ⟨sa9, sc9, hv9, _, _⟩ := hown.shape
              subst hv9
              clear hown hgrow hrow HA HRF9
              go_wp2_with fail
              go_meet
              exact HST9
          · have e0 : (((k3 : Nat) : Int) == 0) = false := by rw [beq_eq_false_iff_ne]; omega
            clear hk0
            go_wp2_with fail
            go_meet
            exact ⟨HST8.out.weaken fun _ h => .inl h⟩
        case rest =>
          have HSTC := Box.mk hcut.out
          clear hcut HST8
          go_wp2_with fail
          refine (next_any g 4 a n c wc HSTC.out.src (by decide) (by decide)).mono ?_
          rintro e wa ⟨k4, hk4, rfl, hsrc, hga⟩
          obtain ⟨z, vF, x, h1, h2, h3, h5, h8, h9, h10⟩ := HSTC.out.next HN.out hga hsrc
          have HK := Box.mk (show RqK (gr + 1) g a n c w gr q vF x #[.string m, .string t, .int .i64 z, vF, .bool false, .slice none 0 0] wa from ⟨h2, h3, h8, h9, h10⟩)
          have HZ := Box.mk h1
          have HR := Box.mk h5
          have hf4 := frozen_of_row wa gr 4 _ _ h2
          have hf5 := frozen_of_row wa gr 5 _ _ h2
          clear h1 h2 h3 h5 h8 h9 h10 hsrc hga HSTC
          go_upto_block 0 with fail
          go_cut [] (fun wx => Box (RqFin (gr + 1) g a n c w gr q m t wx))
          case first =>
            have hc4 : wa.cell? ⟨gr, 4, none⟩ = some (.bool false) := by rw [cell_of_row _ _ _ _ _ _ HK.out.row]; rfl
            have hc5 : wa.cell? ⟨gr, 5, none⟩ = some (.slice none 0 0) := by rw [cell_of_row _ _ _ _ _ _ HK.out.row]; rfl
            have hc2 : wa.cell? ⟨gr, 2, none⟩ = some (.int .i64 z) := by rw [cell_of_row _ _ _ _ _ _ HK.out.row]; rfl
            by_cases hk0 : k4 = 0
            · have e0 : (((k4 : Nat) : Int) == 0) = true := by rw [hk0]; rfl
              clear hk0 hf4 hf5 hc4 hc5 hc2
              go_wp2_with fail
              refine (srcBytes_any g 30 a n c wa HK.out.src (by decide)).mono ?_
              rintro e wb ⟨vB, l, rfl, hB, hl, hsrc, hgb⟩
              have HKB := Box.mk (HK.out.next HN.out hgb hsrc)
              have HBB := Box.mk (hB.mono (show gr + 1 ≤ wa.heap.size from (Array.getElem?_eq_some_iff.1 HK.out.row).1))
              clear hB hsrc hgb HK
              obtain ⟨sB, cB, hvB, _⟩ := HBB.out.val
              subst hvB
              have hf4 := frozen_of_row wb gr 4 _ _ HKB.out.row
              have hf5 := frozen_of_row wb gr 5 _ _ HKB.out.row
              have hc4 : wb.cell? ⟨gr, 4, none⟩ = some (.bool false) := by rw [cell_of_row _ _ _ _ _ _ HKB.out.row]; rfl
              have hc5 : wb.cell? ⟨gr, 5, none⟩ = some (.slice none 0 0) := by rw [cell_of_row _ _ _ _ _ _ HKB.out.row]; rfl
              go_wp2_with fail
              go_meet
              exact ⟨⟨z, vF, x, true, _, l, HZ.out, (HKB.out.set HN.out 4 _).set HN.out 5 _, (HBB.out.set (Nat.lt_succ_self _)).set (Nat.lt_succ_self _), HR.out, hl, fun h => by cases h⟩⟩
            · have e0 : (((k4 : Nat) : Int) == 0) = false := by rw [beq_eq_false_iff_ne]; omega
              by_cases hk1 : k4 = 1
              · have e1 : (((k4 : Nat) : Int) == 1) = true := by rw [hk1]; rfl
                clear hk0 hk1
                rcases HZ.out with rfl | rfl
                · go_wp2_with fail
                  go_meet
                  exact ⟨⟨0, vF, x, false, _, [], .inl rfl, (HK.out.set HN.out 4 _).set HN.out 5 _, Own.start _ _, HR.out, by decide, fun _ => rfl⟩⟩
                · have HK5 := Box.mk ((HK.out.set HN.out 4 (.bool true)).set HN.out 5 (.slice none 0 0))
                  go_wp2_with fail
                  generalize (wa.setCell ⟨gr, 4, none⟩ (.bool true)).setCell ⟨gr, 5, none⟩ (.slice none 0 0) = wq at *
                  refine (srcBytes_any g 30 a n c wq HK5.out.src (by decide)).mono ?_
                  rintro e wb ⟨vB, l, rfl, hB, hl, hsrc, hgb⟩
                  have HKB := Box.mk (HK5.out.next HN.out hgb hsrc)
                  have HBB := Box.mk (hB.mono (show gr + 1 ≤ wq.heap.size from (Array.getElem?_eq_some_iff.1 HK5.out.row).1))
                  clear hB hsrc hgb HK HK5 hf4 hf5 hc4 hc5 hc2
                  obtain ⟨sB, cB, hvB, _⟩ := HBB.out.val
                  subst hvB
                  have hf5 := frozen_of_row wb gr 5 _ _ HKB.out.row
                  have hc5 : wb.cell? ⟨gr, 5, none⟩ = some (.slice none 0 0) := by rw [cell_of_row _ _ _ _ _ _ HKB.out.row]; rfl
                  go_wp2_with fail
                  go_meet
                  exact ⟨⟨1, vF, x, true, _, l, .inr rfl, HKB.out.set HN.out 5 _, HBB.out.set (Nat.lt_succ_self _), HR.out, hl, fun h => by cases h⟩⟩
              · have e1 : (((k4 : Nat) : Int) == 1) = false := by rw [beq_eq_false_iff_ne]; omega
                clear hk0 hk1
                go_wp2_with fail
                go_meet
                exact ⟨⟨z, vF, x, false, _, [], HZ.out, HK.out, Own.start _ _, HR.out, by decide, fun _ => rfl⟩⟩
          case rest =>
            obtain ⟨z, vF, x, fr, vB, l, h1, hk, hB, hR, hl, hfr⟩ := hcut.out
            obtain ⟨sF, cF, hvF, _, _⟩ := hk.own.shape
            obtain ⟨sB, cB, hvB, _⟩ := hB.val
            subst hvF hvB
            have hrow := hk.row
            have hres := hk.res
            have HK2 := Box.mk hk
            have HB2 := Box.mk (And.intro hB (And.intro hR (And.intro hl hfr)))
            have HZ2 := Box.mk h1
            clear hk hB hR hl hfr h1 hcut HK HZ HR
            go_wp2_with (first | (refine wpList_load_row rfl 35 _ rfl gr rfl 35 _ (0, 0) _ hrow Tryz.underlying35 rfl sizeR ?_) | (refine wpList_store_row rfl 35 _ _ rfl q #[.string m, .string t, .int .i64 z, .slice sF x.length cF, .bool fr, .slice sB l.length cB] rfl rfl 35 _ hres sizeR rfl (by simp [Value.oneCell']) ?_))
            (try simp only [Exit.inBlock, Exit.then])
            refine bodyPost_ret (results_cell_row rfl _ _ q _ _ _ _ rfl (setRow_heap _ _ _ _ _ _ hres) Tryz.underlying35 rfl sizeR) rfl ?_
            have hnew := grownBy_setRowF wc q #[.string m, .string t, .int .i64 z, .slice sF x.length cF, .bool fr, .slice sB l.length cB]
            have hq9 := HQ0.out
            have n3 := HN.out.hgr
            exact ⟨m, t, z, _, x, fr, _, l, rfl, HNM.out, HTM.out, HZ2.out, (HK2.out.own.grown hnew (fun k hk e => by have := (HK2.out.own.lt hk).1; have := Option.some.inj e; omega)).mono (by omega), (HB2.out.1.grown hnew (fun k hk e => by have := (HB2.out.1.lt hk).1; have := Option.some.inj e; omega)).mono (by omega),
              HB2.out.2.1, HB2.out.2.2.1, HB2.out.2.2.2, HK2.out.src.other hnew (by omega) (fun y e h0 => by have := HLOW.out y e h0; omega), grownBy_new HK2.out.grown hnew (fun i e => by have := Option.some.inj e; omega)⟩
end Go.Proofs.YtcdianojchmgpaaGreatDoor
namespace Go.Proofs.YtcdianojchmgpaaGreatDoor
open Go.RowKit

/-- The block's frozen stretch lies behind its last cell, or there is none. -/
def NoFz (n : Nat) (fz : Nat × Nat) : Prop := fz.2 = 0 ∨ n ≤ fz.1
theorem noFz_frozen {w : World} {g i : Nat} {cur : Array Value} {t : TypeId} {fz : Nat × Nat} (hg : w.heap[g]? = some (.cells cur t fz)) (hf : NoFz cur.size fz) (hi : i < cur.size) : w.frozen? ⟨g, i, none⟩ = false := by
  obtain ⟨lo, hi'⟩ := fz
  simp only [World.frozen?, hg, Bool.and_eq_false_iff, decide_eq_false_iff_not]
  rcases hf with h | h
  · right; simp only at h; omega
  · left; simp only at h; omega
theorem run_storeCells_atM (P : Program) (g o : Nat) (t : TypeId) (fz : Nat × Nat) : ∀ (vs : List Value) (i : Nat) (cur : Array Value) (w : World), w.heap[g]? = some (.cells cur t fz) → NoFz cur.size fz → o + i + vs.length ≤ cur.size → (∀ v ∈ vs, v.oneCell' = true) →
    (storeCells ⟨g, o, none⟩ vs i).run P w = .ok () (w.setRow g (cur.toList.take (o + i) ++ vs ++ cur.toList.drop (o + i + vs.length)).toArray)
  | [], i, cur, w, hg, _, _, _ => by
    simp only [storeCells, List.append_nil, List.length_nil, Nat.add_zero, List.take_append_drop, Array.toArray_toList]
    rw [setRow_self w g cur t fz hg]
    rfl
  | v :: rest, i, cur, w, hg, hfz, hl, h1 => by
    have hi : o + i < cur.size := by simp at hl; omega
    have hadd : (⟨g, o, none⟩ : Addr).add i = ⟨g, o + i, none⟩ := by unfold Addr.add; split <;> simp_all
    have hcell : w.cell? ⟨g, o + i, none⟩ = some cur[o + i] := by simp [World.cell?, hg, hi]
    have hfro : w.frozen? ⟨g, o + i, none⟩ = false := noFz_frozen hg hfz hi
    have hst : (store ((⟨g, o, none⟩ : Addr).add i) v).run P w = .ok () (w.setRow g (cur.setIfInBounds (o + i) v)) := by
      rw [hadd, run_store P w _ v _ (h1 v (by simp)), hcell]
      simp [hfro, setCell_eq_setRow w g (o + i) cur t fz v hg]
    have ih := run_storeCells_atM P g o t fz rest (i + 1) (cur.setIfInBounds (o + i) v) (w.setRow g (cur.setIfInBounds (o + i) v)) (setRow_heap w g cur _ t _ hg) (by rw [Array.size_setIfInBounds]; exact hfz) (by simp at hl ⊢; omega) (fun x hx => h1 x (by simp [hx]))
    simp only [storeCells, Sem.run_bind, hst, Result.andThen_ok, ih, setRow_setRow]
    congr 3
    have e := list_seg_step cur.toList (o + i) v rest (by simp at hl ⊢; omega)
    simpa [Array.toList_setIfInBounds, Nat.add_assoc] using e
/-- v is a slice with the bytes l in a block of its own, at B or beyond; the block may bear a conversion's mark. -/
def OwnM (B : Nat) (w : World) (v : Value) (l : List UInt8) : Prop :=
  ∃ g cap cur fz, v = .slice (some ⟨g, 0, none⟩) l.length cap ∧ B ≤ g ∧ w.heap[g]? = some (.cells cur 5 fz) ∧ NoFz cur.size fz ∧ l.length ≤ cap ∧ cap ≤ maxLen ∧ cur.size = cap ∧ cur.toList.take l.length = bytesV l
theorem OwnM.lt {B : Nat} {w : World} {v : Value} {l : List UInt8} (h : OwnM B w v l) {k : Nat} (hk : v.ownBlock = some k) : B ≤ k ∧ k < w.heap.size := by
  obtain ⟨g, cap, cur, fz, rfl, hb, hg, _⟩ := h
  obtain rfl : g = k := Option.some.inj hk
  exact ⟨hb, (Array.getElem?_eq_some_iff.1 hg).1⟩
theorem OwnM.same {B : Nat} {w w' : World} {v : Value} {l : List UInt8} (h : OwnM B w v l) (hs : ∀ k, v.ownBlock = some k → w'.heap[k]? = w.heap[k]?) : OwnM B w' v l := by
  obtain ⟨g, cap, cur, fz, hv, hb, hg, r⟩ := h
  exact ⟨g, cap, cur, fz, hv, hb, by rw [hs g (by rw [hv]; rfl)]; exact hg, r⟩
theorem OwnM.keep {B : Nat} {w w' : World} {v : Value} {l : List UInt8} (h : OwnM B w v l) (hb : Below w.heap.size w w') : OwnM B w' v l :=
  h.same fun k hk => hb.block k (h.lt hk).2
theorem OwnM.grown {B : Nat} {w w' : World} {v : Value} {l : List UInt8} {row : Option Nat} (h : OwnM B w v l) (hg : w.grownBy w' row) (hne : ∀ k, v.ownBlock = some k → some k ≠ row) : OwnM B w' v l :=
  h.same fun k hk => hg.block k (h.lt hk).2 (hne k hk)
theorem OwnM.low {B B' : Nat} {w : World} {v : Value} {l : List UInt8} (h : OwnM B w v l) (hB : B' ≤ B) : OwnM B' w v l := by
  obtain ⟨g, cap, cur, fz, hv, hb, r⟩ := h
  exact ⟨g, cap, cur, fz, hv, Nat.le_trans hB hb, r⟩
theorem OwnM.form {B : Nat} {w : World} {v : Value} {l : List UInt8} (h : OwnM B w v l) : ∃ g c, v = .slice (some ⟨g, 0, none⟩) l.length c ∧ l.length ≤ c ∧ IsBytes w (some ⟨g, 0, none⟩) l c := by
  obtain ⟨g, cap, cur, fz, rfl, hb, hg, hf, h1, h2, h3, ht⟩ := h
  refine ⟨g, cap, rfl, h1, .inr ⟨_, rfl, h1, h2, fun j hj => ?_⟩⟩
  have e : cur.toList[j]? = some (Value.int .u8 (l[j].toNat : Int)) := by
    have := congrArg (fun x => x[j]?) ht
    simp only [bytesV] at this
    rw [List.getElem?_take_of_lt hj, List.getElem?_map, List.getElem?_eq_getElem hj] at this
    exact this
  rw [Addr.add_lit]
  simp only [World.cell?, hg, Nat.zero_add]
  simpa using e
theorem OwnM.cut {B g n c : Nat} {w : World} {l : List UInt8} (h : OwnM B w (.slice (some ⟨g, 0, none⟩) n c) l) {k : Nat} (hk : k ≤ l.length) : OwnM B w (.slice (some ⟨g, 0, none⟩) k c) (l.take k) := by
  obtain ⟨g', cap, cur, fz, hv, hb, hg, hf, h1, h2, h3, ht⟩ := h
  injection hv with e1 e2 e3
  injection e1 with e1
  injection e1 with e1 _ _
  subst e1 e3
  have e : (l.take k).length = k := by rw [List.length_take]; omega
  refine ⟨g, c, cur, fz, by rw [e], hb, hg, hf, by omega, h2, h3, ?_⟩
  rw [e]
  have := congrArg (List.take k) ht
  rw [List.take_take, Nat.min_eq_left hk] at this
  rw [this]
  unfold bytesV
  rw [List.map_take]
theorem OwnM.thawed {B g c n : Nat} {w : World} {l : List UInt8} (h : OwnM B w (.slice (some ⟨g, 0, none⟩) n c) l) {k : Nat} (hk : k < l.length) : w.frozen? ⟨g, k, none⟩ = false := by
  obtain ⟨g', cap, cur, fz, hv, hb, hg, hf, h1, h2, h3, ht⟩ := h
  injection hv with e1 _ _
  injection e1 with e1
  injection e1 with e1 _ _
  subst e1
  exact noFz_frozen hg hf (by omega)
theorem OwnM.put8 {B g c n : Nat} {w : World} {l : List UInt8} (h : OwnM B w (.slice (some ⟨g, 0, none⟩) n c) l) (k : Nat) (x : UInt8) :
    OwnM B (w.setCell ⟨g, k, none⟩ (.int .u8 (x.toNat : Int))) (.slice (some ⟨g, 0, none⟩) n c) (l.set k x) ∧ w.grownBy (w.setCell ⟨g, k, none⟩ (.int .u8 (x.toNat : Int))) (some g) := by
  obtain ⟨g', cap, cur, fz, hv, hb, hg, hf, h1, h2, h3, ht⟩ := h
  injection hv with e1 e2 e3
  injection e1 with e1
  injection e1 with e1 _ _
  subst e1 e2 e3
  refine ⟨?_, grownBy_setCell⟩
  rw [setCell_eq_setRow w g k cur 5 fz _ hg]
  refine ⟨g, c, _, fz, by rw [List.length_set], hb, setRow_heap w g cur _ _ _ hg, by rw [Array.size_setIfInBounds]; exact hf, by rw [List.length_set]; exact h1, h2, by rw [Array.size_setIfInBounds]; exact h3, ?_⟩
  rw [List.length_set, Array.toList_setIfInBounds, List.take_set, ht]
  unfold bytesV; rw [List.map_set]
theorem OwnM.conv (w : World) (s : ByteArray) (hs : s.size ≤ 4000000000) : OwnM w.heap.size (Lib.bytesWorld w 5 s) (.slice (some ⟨w.heap.size, 0, none⟩) s.size (grownCap w s.size 0 5)) s.data.toList := by
  have hge := grownCap_ge w s.size 0 5
  have hz : (Lib.bytesCells w 5 s).size = grownCap w s.size 0 5 := by
    unfold Lib.bytesCells
    rw [Array.size_append, Array.size_map, Array.size_replicate]
    have : s.data.size = s.size := rfl
    omega
  have el : s.data.toList.length = s.size := by rw [Array.length_toList]; rfl
  refine ⟨w.heap.size, _, _, _, by rw [el], Nat.le_refl _, Lib.bytesWorld_at_new w 5 s, .inr (Nat.le_refl _), by rw [el]; exact hge, grownCap_le_maxLen w s.size 0 5 (by unfold maxLen; omega), hz, ?_⟩
  unfold Lib.bytesCells
  rw [Array.toList_append, el, List.take_left' (by rw [Array.length_toList, Array.size_map]; rfl), Array.toList_map]
  rfl
set_option maxRecDepth 100000 in
theorem ownM_string (w : World) (ty : TypeId) {B : Nat} {v : Value} {l : List UInt8} (h : OwnM B w v l) (s : ByteArray) (hn : l.length + s.size ≤ 1000000000) (hB : B ≤ w.heap.size) :
    ∃ v' w', (Builtin.append_ #[23, 9] ty #[v, .string s]).run Tryz.prog w = .ok v' w' ∧ OwnM B w' v' (l ++ s.data.toList) ∧ w.grownBy w' v.ownBlock ∧ (v'.ownBlock = v.ownBlock ∨ v'.ownBlock = some w.heap.size) := by
  obtain ⟨i0, hi, hz0, hz1, hz2⟩ := info_parts Tryz.info5
  obtain ⟨g, cap, cur, fz, rfl, hb, hg, hf, h1, h2, h3, ht⟩ := h
  have el : (l ++ s.data.toList).length = l.length + s.size := by rw [List.length_append, Array.length_toList]; rfl
  have ev : bytesV (l ++ s.data.toList) = bytesV l ++ Lib.strCells s := by unfold bytesV Lib.strCells; rw [List.map_append]
  have es := Lib.strCells_length s
  by_cases hroom : l.length + s.size ≤ cap
  · have hf1 := Lib.run_firstCells_string (P := Tryz.prog) w 1 s
    have hst := run_storeCells_atM Tryz.prog g l.length 5 fz (Lib.strCells s) 0 cur w hg hf (by rw [es]; omega) (Lib.strCells_oneCell s)
    simp only [Nat.add_zero, es] at hst
    have hr : (Builtin.append_ #[23, 9] ty #[.slice (some ⟨g, 0, none⟩) l.length cap, .string s]).run Tryz.prog w = .ok (.slice (some ⟨g, 0, none⟩) (l.length + s.size) cap) (w.setRow g (cur.toList.take l.length ++ Lib.strCells s ++ cur.toList.drop (l.length + s.size)).toArray) := by
      simp [Builtin.append_, run_underlying Tryz.underlying23, run_underlying Tryz.underlying9, sizeOf, typeInfo, hi, hz1, Builtin.lenOf, hroom, hf1, Addr.add_lit, hst]
    have hcz : ((cur.toList.take l.length ++ Lib.strCells s ++ cur.toList.drop (l.length + s.size)).toArray).size = cur.size := by
      simp only [List.size_toArray, List.length_append, List.length_take, List.length_drop, Array.length_toList, es]
      omega
    refine ⟨_, _, hr, ⟨g, cap, _, fz, by rw [el], hb, setRow_heap w g cur _ _ _ hg, by rw [hcz]; exact hf, by rw [el]; exact hroom, h2, by rw [hcz]; exact h3, ?_⟩, ⟨rfl, rfl, rfl, by simp, fun k _ hk => setRow_other w g k _ (fun e => hk (by simp [Value.ownBlock, e]))⟩, .inl rfl⟩
    rw [ht, ev, el]
    have e9 : l.length + s.size = (bytesV l ++ Lib.strCells s).length := by rw [List.length_append, es, bytesV_len]
    rw [e9]
    exact List.take_left
  · have holds : ∀ j u, (bytesV l)[j]? = some u → w.cell? ((⟨g, 0, none⟩ : Addr).add j) = some u := by
      intro j u hu
      rw [Addr.add_lit, Nat.zero_add, cell_of_row w g j cur _ _ hg]
      rw [← ht, List.getElem?_take] at hu
      split at hu
      · simpa using hu
      · cases hu
    have hr := Lib.run_append_grow_string (P := Tryz.prog) w 23 9 ty 5 i0 (.int .u8 0) Tryz.underlying23 Tryz.underlying9 hi hz0 ⟨g, 0, none⟩ l.length cap (bytesV l) (by rw [hz1, bytesV_len, Nat.mul_one]) holds s (by omega) (by omega) (by rw [hz2]; exact growslice_fits (by omega) (by omega))
    have hge := grownCap_ge w (l.length + s.size) cap 5
    have hcm : grownCap w (l.length + s.size) cap 5 ≤ maxLen := grownCap_le_maxLen w _ cap _ (by unfold maxLen; omega)
    refine ⟨_, _, hr, ⟨w.heap.size, _, _, (0, 0), by rw [el], hB, heap_alloc_new w.drew _, .inl rfl, by rw [el]; exact hge, hcm, ?_, ?_⟩, ⟨rfl, rfl, rfl, by simp, fun k hk _ => heap_alloc_old w.drew _ hk⟩, .inr rfl⟩
    · have hzz : (Value.int IntKind.u8 0).cells.size = 1 := rfl
      simp only [Array.size_append, List.size_toArray, size_zeroCells, hzz, bytesV_len, es]
      omega
    · simp only [Array.toList_append, List.append_assoc]
      rw [← List.append_assoc, ev, el]
      have e9 : l.length + s.size = (bytesV l ++ Lib.strCells s).length := by rw [List.length_append, es, bytesV_len]
      rw [e9]
      exact List.take_left
set_option maxRecDepth 100000 in
theorem ownM_slice (w : World) (ty : TypeId) {B : Nat} {v : Value} {l : List UInt8} (h : OwnM B w v l) {a : Option Addr} {r : List UInt8} {c : Nat} (hr : IsBytes w a r c) (hn : l.length + r.length ≤ 1000000000) (hB : B ≤ w.heap.size) :
    ∃ v' w', (Builtin.append_ #[23, 23] ty #[v, .slice a r.length c]).run Tryz.prog w = .ok v' w' ∧ OwnM B w' v' (l ++ r) ∧ w.grownBy w' v.ownBlock ∧ (v'.ownBlock = v.ownBlock ∨ v'.ownBlock = some w.heap.size) := by
  obtain ⟨i0, hi, hz0, hz1, hz2⟩ := info_parts Tryz.info5
  obtain ⟨g, cap, cur, fz, rfl, hb, hg, hf, h1, h2, h3, ht⟩ := h
  have el : (l ++ r).length = l.length + r.length := List.length_append
  have ev : bytesV (l ++ r) = bytesV l ++ bytesV r := by unfold bytesV; rw [List.map_append]
  rcases hr with ⟨rfl, rfl, rfl⟩ | ⟨ad, rfl, hr1, hr2, hr3⟩
  · refine ⟨.slice (some ⟨g, 0, none⟩) l.length cap, w, ?_, by rw [List.append_nil]; exact ⟨g, cap, cur, fz, rfl, hb, hg, hf, h1, h2, h3, ht⟩, ⟨rfl, rfl, rfl, Nat.le_refl _, fun _ _ _ => rfl⟩, .inl rfl⟩
    simp [Builtin.append_, run_underlying Tryz.underlying23, sizeOf, typeInfo, hi, Builtin.lenOf, Builtin.firstCells, loadCells, h1, storeCells]
  · have hnews : ∀ j u, (bytesV r)[j]? = some u → w.cell? (ad.add j) = some u := by
      intro j u hj
      unfold bytesV at hj
      rw [List.getElem?_map] at hj
      obtain ⟨c', hc', rfl⟩ := Option.map_eq_some_iff.1 hj
      obtain ⟨hlt, rfl⟩ := List.getElem?_eq_some_iff.1 hc'
      exact hr3 j hlt
    have hone : ∀ u ∈ bytesV r, u.oneCell' = true := by
      intro u hu
      unfold bytesV at hu
      obtain ⟨c', _, rfl⟩ := List.mem_map.1 hu
      rfl
    by_cases hroom : l.length + r.length ≤ cap
    · have hf1 := run_firstCells_some (P := Tryz.prog) w i0.size r.length ad r.length c (bytesV r) (by rw [hz1, bytesV_len, Nat.mul_one]) hnews
      have hst := run_storeCells_atM Tryz.prog g l.length 5 fz (bytesV r) 0 cur w hg hf (by rw [bytesV_len]; omega) hone
      simp only [Nat.add_zero, bytesV_len] at hst
      rw [hz1] at hf1
      have hr : (Builtin.append_ #[23, 23] ty #[.slice (some ⟨g, 0, none⟩) l.length cap, .slice (some ad) r.length c]).run Tryz.prog w = .ok (.slice (some ⟨g, 0, none⟩) (l.length + r.length) cap) (w.setRow g (cur.toList.take l.length ++ bytesV r ++ cur.toList.drop (l.length + r.length)).toArray) := by
        simp [Builtin.append_, run_underlying Tryz.underlying23, sizeOf, typeInfo, hi, hz1, Builtin.lenOf, hroom, hf1, Addr.add_lit, hst]
      have hcz : ((cur.toList.take l.length ++ bytesV r ++ cur.toList.drop (l.length + r.length)).toArray).size = cur.size := by
        simp only [List.size_toArray, List.length_append, List.length_take, List.length_drop, Array.length_toList, bytesV_len]
        omega
      refine ⟨_, _, hr, ⟨g, cap, _, fz, by rw [el], hb, setRow_heap w g cur _ _ _ hg, by rw [hcz]; exact hf, by rw [el]; exact hroom, h2, by rw [hcz]; exact h3, ?_⟩, ⟨rfl, rfl, rfl, by simp, fun k _ hk => setRow_other w g k _ (fun e => hk (by simp [Value.ownBlock, e]))⟩, .inl rfl⟩
      rw [ht, ev, el]
      have e9 : l.length + r.length = (bytesV l ++ bytesV r).length := by rw [List.length_append, bytesV_len, bytesV_len]
      rw [e9]
      exact List.take_left
    · have holds : ∀ j u, (bytesV l)[j]? = some u → w.cell? ((⟨g, 0, none⟩ : Addr).add j) = some u := by
        intro j u hu
        rw [Addr.add_lit, Nat.zero_add, cell_of_row w g j cur _ _ hg]
        rw [← ht, List.getElem?_take] at hu
        split at hu
        · simpa using hu
        · cases hu
      have hr := run_append_grow (P := Tryz.prog) w 23 ty 5 i0 (.int .u8 0) Tryz.underlying23 hi hz0 ⟨g, 0, none⟩ l.length cap (bytesV l) (by rw [hz1, bytesV_len, Nat.mul_one]) holds ad r.length c (bytesV r) (by rw [hz1, bytesV_len, Nat.mul_one]) hnews (by omega) (by omega) (by rw [hz2]; exact growslice_fits (by omega) (by omega))
      have hge := grownCap_ge w (l.length + r.length) cap 5
      have hcm : grownCap w (l.length + r.length) cap 5 ≤ maxLen := grownCap_le_maxLen w _ cap _ (by unfold maxLen; omega)
      refine ⟨_, _, hr, ⟨w.heap.size, _, _, (0, 0), by rw [el], hB, heap_alloc_new w.drew _, .inl rfl, by rw [el]; exact hge, hcm, ?_, ?_⟩, ⟨rfl, rfl, rfl, by simp, fun k hk _ => heap_alloc_old w.drew _ hk⟩, .inr rfl⟩
      · have hzz : (Value.int IntKind.u8 0).cells.size = 1 := rfl
        simp only [Array.size_append, List.size_toArray, size_zeroCells, hzz, bytesV_len]
        omega
      · simp only [Array.toList_append, List.append_assoc]
        rw [← List.append_assoc, ev, el]
        have e9 : l.length + r.length = (bytesV l ++ bytesV r).length := by rw [List.length_append, bytesV_len, bytesV_len]
        rw [e9]
        exact List.take_left
section
variable {ops : Array Oper} {rest : List Oper} {o : Oper} {act : Act} {Q : Exit → Act → World → Prop}
theorem wpList_append_mb (w : World) (hgd : o.guard = none) (s x : Operand) (ho : o.op = .call { callee := .builtin .append, args := #[s, x], argTypes := #[23, 23] })
    {B : Nat} {v : Value} {l : List UInt8} (hs : act.eval s = v) (h : OwnM B w v l) {a : Option Addr} {r : List UInt8} {c : Nat} (hx : act.eval x = .slice a r.length c) (hr : IsBytes w a r c) (hn : l.length + r.length ≤ 1000000000) (hB : B ≤ w.heap.size)
    (K : ∀ v' w', OwnM B w' v' (l ++ r) → w.grownBy w' v.ownBlock → (v'.ownBlock = v.ownBlock ∨ v'.ownBlock = some w.heap.size) → wpList Tryz.prog ops Q rest (act.put o.dst v') w') : wpList Tryz.prog ops Q (o :: rest) act w := by
  refine wpList_plain hgd fun K2 hK => ?_
  obtain ⟨v', w', hr', h2, h3, h4⟩ := ownM_slice w o.type h hr hn hB
  unfold Oper.wp execOp
  simp only [ho, resolve, invoke, builtin, Sem.run_bind, Sem.run_pure, Result.andThen_ok, List.map_toArray, List.map_cons, List.map_nil, hs, hx, hr']
  exact hK _ _ (K v' w' h2 h3 h4)
end
end Go.Proofs.YtcdianojchmgpaaGreatDoor
namespace Go.Proofs.YtcdianojchmgpaaGreatDoor
open Go.RowKit

theorem namesF_small : (namesF.all fun s => decide (s.size ≤ 20)) = true := by decide +kernel
theorem valsF_small : (valsF.all fun s => decide (s.size ≤ 40)) = true := by decide +kernel
def TinyF (x : List Fld) : Prop := ∀ f ∈ x, f.1.size + f.2.size ≤ 60
theorem SrcF.tiny {f : Fld} (h : SrcF f) : f.1.size + f.2.size ≤ 60 := by
  obtain ⟨s, hs, v, hv, rfl⟩ := h
  have h1 := of_decide_eq_true (List.all_eq_true.1 namesF_small s hs)
  have h2 := of_decide_eq_true (List.all_eq_true.1 valsF_small v hv)
  have h3 := trimBA_size v
  show s.size + (trimBA v).size ≤ 60
  omega
theorem tiny_app {x : List Fld} {f : Fld} (h : TinyF x) (hf : f.1.size + f.2.size ≤ 60) : TinyF (x ++ [f]) := fun k hk => by
  rcases List.mem_append.1 hk with h1 | h1
  · exact h k h1
  · obtain rfl := List.mem_singleton.1 h1; exact hf
theorem RF1.tiny {x : List Fld} (h : RF1 x) : TinyF x := by
  obtain ⟨y, h1, _, rfl⟩ := h
  exact tiny_app (fun f hf => (h1 f hf).tiny) (by decide)
theorem RF2.tiny {x : List Fld} (h : RF2 x) : TinyF x := by
  rcases h with h | ⟨y, s, h1, h2, rfl⟩
  · exact h.tiny
  · refine tiny_app h1.tiny ?_
    show (6 : Nat) + (cohort ++ s).size ≤ 60
    rw [ByteArray.size_append, h2.1]; decide
theorem RF3.tiny {x : List Fld} (h : RF3 x) : TinyF x := by
  rcases h with h | ⟨y, h1, rfl⟩
  · exact h.tiny
  · exact tiny_app h1.tiny (by decide)
theorem linesB_tiny : ∀ (x : List Fld), TinyF x → (linesB x).length ≤ 64 * x.length
  | [], _ => by simp [linesB]
  | f :: x, h => by
    have h1 := linesB_tiny x fun k hk => h k (List.mem_cons_of_mem _ hk)
    have h2 := h f (List.mem_cons_self ..)
    unfold linesB at *
    rw [List.flatMap_cons, List.length_append, lineB_len, List.length_cons]
    omega
theorem TinyF.small {x : List Fld} (h : TinyF x) : SmallF x := fun f hf => by
  have := h f hf
  omega
theorem fmtS10_one {z : Int} (h : z = 0 ∨ z = 1) : (fmtS 10 z).size ≤ 1 := by
  rcases h with rfl | rfl
  · decide +kernel
  · decide +kernel
theorem fmtS10_200 {k : Nat} (h : k < 5) : (fmtS 10 ((200 + k : Nat) : Int)).size ≤ 3 := by
  have : ∀ m : Fin 5, (fmtS 10 ((200 + m.val : Nat) : Int)).size ≤ 3 := by decide +kernel
  exact this ⟨k, h⟩
theorem methF_tiny : (methF.all fun s => decide (s.size ≤ 4)) = true := by decide +kernel
theorem targF_tiny : (targF.all fun s => decide (s.size ≤ 8)) = true := by decide +kernel
theorem fmtReq_made {m t : ByteArray} {z : Int} (hm : m ∈ methF) (ht : t ∈ targF) (hz : z = 0 ∨ z = 1) : 0 < (fmtReq m t z).size ∧ (fmtReq m t z).size ≤ 40 := by
  have h1 := of_decide_eq_true (List.all_eq_true.1 methF_tiny m hm)
  have h2 := of_decide_eq_true (List.all_eq_true.1 targF_tiny t ht)
  have h3 := fmtS10_one hz
  have h4 := (meth_at hm).1
  have h5 := (targ_at ht).1
  unfold fmtReq
  rw [if_pos ⟨h4, h5, by omega, by omega⟩]
  simp only [ByteArray.size_append]
  have e1 : http1.size = 8 := rfl
  have e2 : (⟨#[32]⟩ : ByteArray).size = 1 := rfl
  omega
def reasF : List ByteArray := [⟨#[]⟩, ⟨#[79, 75]⟩]
theorem reasF_ok : (reasF.all fun s => visS s && decide (s.size ≤ 2)) = true := by decide +kernel
theorem fmtRep_made {k : Nat} {r : ByteArray} {z : Int} (hk : k < 5) (hr : r ∈ reasF) (hz : z = 0 ∨ z = 1) : 0 < (fmtRep ((200 + k : Nat) : Int) r z).size ∧ (fmtRep ((200 + k : Nat) : Int) r z).size ≤ 40 := by
  have h1 := List.all_eq_true.1 reasF_ok r hr
  simp only [Bool.and_eq_true, decide_eq_true_eq] at h1
  have h2 := fmtS10_200 hk
  have h3 := fmtS10_one hz
  unfold fmtRep
  rw [if_pos ⟨by omega, by omega, by omega, by omega, h1.1⟩]
  simp only [ByteArray.size_append]
  have e1 : http0.size = 7 := rfl
  have e2 : (⟨#[32]⟩ : ByteArray).size = 1 := rfl
  omega
theorem headB_made {s : ByteArray} {x : List Fld} (h0 : 0 < s.size) (h1 : s.size ≤ 40) (hv : ∀ f ∈ x, MadeF f) (ht : TinyF x) (hl : x.length ≤ 6) : headB s x = s.data.toList ++ [13, 10] ++ linesB x ++ [13, 10] ∧ 2 ≤ (headB s x).length ∧ (headB s x).length ≤ 500 := by
  have e := headB_yes (s := s) (x := x) (by omega) (allB_yes fun f hf => (hv f hf).1)
  have h2 := linesB_tiny x ht
  have h3 : s.data.toList.length = s.size := by rw [Array.length_toList]; rfl
  refine ⟨e, ?_, ?_⟩
  · rw [e]; simp only [List.length_append, List.length_cons, List.length_nil]; omega
  · rw [e]; simp only [List.length_append, List.length_cons, List.length_nil]; omega
theorem below_convH (w : World) (e : TypeId) (s : ByteArray) : Below w.heap.size w (Lib.bytesWorld w e s) :=
  ⟨rfl, rfl, rfl, by rw [Lib.bytesWorld_size]; omega, fun k hk => Lib.bytesWorld_at_old w e s k hk⟩
theorem RetHd.own {w w' : World} {l : List UInt8} {e : Ending} (h : RetHd w l e w') (h0 : 0 < l.length) (h1 : l.length ≤ 4000000000) : ∃ v, e = .returned v ∧ OwnM w.heap.size w' v l ∧ Below w.heap.size w w' := by
  rcases h with ⟨rfl, _⟩ | ⟨W, s, rfl, _, rfl, rfl, hb⟩
  · simp at h0
  · refine ⟨_, rfl, (OwnM.conv W s ?_).low hb.size, below_trans hb (below_convH W _ s)⟩
    rw [Array.length_toList] at h1
    exact h1
/-- wire has made l, in a slice of its own. -/
structure WireM (w : World) (g : Nat) (a : Option Addr) (n c : Nat) (l : List UInt8) (v : Value) (W : World) : Prop where
  own : OwnM (g + 1) W v l
  src : Src W g a n c
  below : Below w.heap.size w W
  lo : 2 ≤ l.length
  hi : l.length ≤ 560
theorem WireM.keep {w : World} {g : Nat} {a : Option Addr} {n c : Nat} {l : List UInt8} {v : Value} {W W' : World} (h : WireM w g a n c l v W) (hb : Below W.heap.size W W') : WireM w g a n c l v W' :=
  ⟨h.own.keep hb, h.src.keep hb, below_trans h.below hb, h.lo, h.hi⟩
theorem WireM.next {w : World} {g : Nat} {a : Option Addr} {n c : Nat} {l : List UInt8} {v : Value} {W W' : World} (h : WireM w g a n c l v W) (hg : w.heap.size ≤ g) (hs : Src W' g a n c) (hgr : W.grownBy W' (some g)) : WireM w g a n c l v W' :=
  ⟨h.own.grown hgr (fun k e e2 => by have := (h.own.lt e).1; have := Option.some.inj e2; omega), hs, h.below.grown hgr h.below.size (fun q e => by have := Option.some.inj e; omega), h.lo, h.hi⟩
def foldsH : List ByteArray := [⟨#[32, 102, 111, 108, 100, 101, 100, 13, 10, 13, 10]⟩, ⟨#[72, 111, 115, 116, 58, 32, 116, 119, 111, 13, 10, 13, 10]⟩, ⟨#[97, 13, 10, 13, 10]⟩, ⟨#[65, 32, 58, 32, 98, 13, 10, 13, 10]⟩, ⟨#[65, 58, 32, 98, 10, 13, 10]⟩, ⟨#[13, 10, 65, 58, 32, 98, 13, 10, 13, 10]⟩]
theorem foldsH_ok : (foldsH.all fun s => decide (s.size ≤ 20) && decide (2 ≤ s.size)) = true := by decide +kernel
def Spec.strsNew (B : Nat) (l : List ByteArray) : Spec := ⟨fun v w => ∃ b, v = .slice (some ⟨b, 0, none⟩) l.length l.length ∧ B ≤ b ∧ StrsIn w (some ⟨b, 0, none⟩) l, fun _ _ _ h hb => by
  obtain ⟨b, h1, h2, h3⟩ := h
  exact ⟨b, h1, h2, h3.keep hb⟩⟩
def Spec.strOf (l : List ByteArray) : Spec := ⟨fun v _ => ∃ s ∈ l, v = .string s, fun _ _ _ h _ => h⟩
def Spec.ownM (B : Nat) : Spec := ⟨fun v w => ∃ l, OwnM B w v l ∧ 2 ≤ l.length ∧ l.length ≤ 580, fun _ _ _ h hb => by
  obtain ⟨l, h1, h2⟩ := h
  exact ⟨l, h1.keep hb, h2⟩⟩
section
variable {Q : Exit → Act → World → Prop} {act : Act} {w : World} {o : Oper} {s : Spec} {K : Act → World → Prop}
theorem loc_strsH {ps : Array (Nat × Operand)} {len : Nat} (l : List ByteArray) (hl : l.length = len) (ho : o.op = .buildSlice 56 len ps) (hps : ps.map (fun p => (p.1, act.eval p.2)) = (l.zipIdx.map fun p => (p.2, Value.string p.1)).toArray)
    (h0 : 0 < l.length) (h1 : l.length ≤ 1000) (hfill : Instr.fill (fun i => some (i * 1, 1)) ((Array.range (len * 1)).map ((Value.string ⟨#[]⟩).cells[· % (Value.string ⟨#[]⟩).cells.size]!)) (l.zipIdx.map fun p => (p.2, Value.string p.1)) = some (l.map Value.string).toArray)
    (hs : StrsIn (w.alloc (.cells (l.map Value.string).toArray 9)) (some ⟨w.heap.size, 0, none⟩) l → s.p (.slice (some ⟨w.heap.size, 0, none⟩) l.length l.length) (w.alloc (.cells (l.map Value.string).toArray 9))) :
    o.wp Tryz.prog act w (fun a' w' => ∃ v, a' = act.put o.dst v ∧ Below w.heap.size w w' ∧ s.p v w') Q := by
  subst hl
  obtain ⟨i0, hi, hz0, hz1, hz2⟩ := info_parts Tryz.info9
  have hrun := run_buildSlice (P := Tryz.prog) w 56 9 l.length (l.zipIdx.map fun p => (p.2, Value.string p.1)).toArray (l.map Value.string).toArray i0 _ Tryz.underlying56 hi hz0 (by rw [hz1]; omega) (by rw [hz1]; omega) (by rw [hz1]; exact hfill)
  refine loc_run (v := .slice (some ⟨w.heap.size, 0, none⟩) l.length l.length) (w' := w.alloc (.cells (l.map Value.string).toArray 9)) ?_ (below_oneF _ _) (hs (strsIn_newF w l _))
  unfold execOp
  simp only [ho]
  rw [hps, Sem.run_bind, hrun]; rfl
theorem loc_sub2H {x y : Operand} {t : TypeId} (ho : o.op = .binOp .sub 3 x y t) {m k : Nat} (hx : act.eval x = .int .i64 m) (hy : act.eval y = .int .i64 k) (hk : k ≤ m) (hn : m ≤ 1000000) (hs : s.p (.int .i64 ((m - k : Nat) : Int)) w) :
    o.wp Tryz.prog act w (fun a' w' => ∃ v, a' = act.put o.dst v ∧ Below w.heap.size w w' ∧ s.p v w') Q :=
  loc_run (v := .int .i64 ((m - k : Nat) : Int)) (by
    have e : IntKind.i64.wrap ((m : Int) - (k : Int)) = ((m - k : Nat) : Int) := by
      simp only [IntKind.wrap, IntKind.bits, IntKind.signed]; simp; omega
    have h : (Op.intArith .sub .i64 (m : Int) (k : Int)).run Tryz.prog w = .ok (.int .i64 ((m - k : Nat) : Int)) w := by
      unfold Op.intArith
      rw [← e]; rfl
    unfold execOp
    simp only [ho, hx, hy]
    simp [eqGuard, binOp, h, Result.andThen]) (Below.refl _ _) hs
theorem sizeOf_u8H (w : World) : (sizeOf 5).run Tryz.prog w = .ok 1 w := by
  obtain ⟨i0, hi, hz0, hz1, hz2⟩ := info_parts Tryz.info5
  simp [sizeOf, typeInfo, hi, hz1]
theorem loc_uptoH {x y : Operand} (ho : o.op = .slice 23 x none (some y) none) {ad : Option Addr} {n c k : Nat} (hx : act.eval x = .slice ad n c) (hy : act.eval y = .int .i64 k) (hk : k ≤ n) (hc : n ≤ c) (hs : s.p (.slice ad k c) w) :
    o.wp Tryz.prog act w (fun a' w' => ∃ v, a' = act.put o.dst v ∧ Below w.heap.size w w' ∧ s.p v w') Q := by
  have es : (sizeOf (Tryz.prog.elem 23)).run Tryz.prog w = .ok 1 w := by rw [show Tryz.prog.elem 23 = 5 by kernel_rfl]; exact sizeOf_u8H w
  refine loc_run (v := .slice ad k c) ?_ (Below.refl _ _) hs
  have hrun : (Instr.sliceAt 23 (.slice ad n c) none (some (.int .i64 (k : Int))) none).run Tryz.prog w = .ok (.slice ad k c) w := by
    rw [run_sliceAt_slice w 23 _ _ _ _ (by kernel_rfl), run_slice_h w 23 _ _ _ (by kernel_rfl) .i64 (k : Int) (by omega) (by omega), es]
    have ha : Option.map (fun x : Addr => x.add 0) ad = ad := by cases ad <;> simp [Addr.add]
    simp [Result.andThen, sliced, ha]
  unfold execOp
  simp only [ho, hx, hy, Option.map_some, Option.map_none, Sem.run_bind, hrun, Result.andThen_ok, Sem.run_pure]
theorem wp_append_mstrH {x y : Operand} (ho : o.op = .call { callee := .builtin .append, args := #[x, y], argTypes := #[23, 9] }) {B : Nat} {l : List UInt8} (hx : OwnM B w (act.eval x) l) {t : ByteArray} (hy : act.eval y = .string t)
    (hn : l.length + t.size ≤ 1000000000) (hB : B ≤ w.heap.size)
    (h : ∀ v' w', OwnM B w' v' (l ++ t.data.toList) → w.grownBy w' (act.eval x).ownBlock → (v'.ownBlock = (act.eval x).ownBlock ∨ v'.ownBlock = some w.heap.size) → K (act.put o.dst v') w') : o.wp Tryz.prog act w K Q := by
  obtain ⟨v', w', hr, h2, h3, h4⟩ := ownM_string w o.type hx t hn hB
  unfold Oper.wp execOp
  simp only [ho, resolve, invoke, builtin, Sem.run_bind, Sem.run_pure, Result.andThen_ok, List.map_toArray, List.map_cons, List.map_nil, hy, hr]
  exact h v' w' h2 h3 h4
end
end Go.Proofs.YtcdianojchmgpaaGreatDoor
namespace Go.Proofs.YtcdianojchmgpaaGreatDoor
open Go.RowKit

set_option maxRecDepth 100000 in
set_option maxHeartbeats 2000000 in
theorem projFormatRep_any (st : Int) (r : ByteArray) (z : Int) (fa ba : Option Addr) (fn fc bn bc : Nat) (w : World) (hr : r.size ≤ 1000000000) (ht : Tabs w) :
    Calls Tryz.prog 47 #[.agg #[.int .i64 st, .string r, .int .i64 z, .slice fa fn fc, .slice ba bn bc]] w fun e w' => e = .returned (.string (fmtRep st r z)) ∧ Below w.heap.size w w' := by
  have HB0 := Box.mk (below_oneF w (.cells #[.int .i64 st, .string r, .int .i64 z, .slice fa fn fc, .slice ba bn bc] 39))
  have HRow := Box.mk (show (w.alloc (.cells #[.int .i64 st, .string r, .int .i64 z, .slice fa fn fc, .slice ba bn bc] 39)).heap[w.heap.size]? = some (.cells #[.int .i64 st, .string r, .int .i64 z, .slice fa fn fc, .slice ba bn bc] 39 (0, 0)) from heap_alloc_new _ _)
  have HT := Box.mk ht
  clear ht
  by_cases h3 : 0 ≤ z ∧ z ≤ 1
  · have hz8 := versionS_size h3.1 h3.2
    have hne := isEmpty_no (s := versionS z) (by omega)
    by_cases h1 : statB st = true
    · have h100 : 100 ≤ st ∧ st ≤ 599 := by unfold statB at h1; simpa using h1
      by_cases h2 : visS r = true
      · have HR := Box.mk (show fmtRep st r z = versionS z ++ ⟨#[32]⟩ ++ fmtS 10 st ++ ⟨#[32]⟩ ++ r by
          unfold fmtRep; rw [if_pos ⟨h100.1, h100.2, h3.1, h3.2, h2⟩, (versionS_dec h3.1 h3.2).2])
        have HD := Box.mk (fmtS_code (by omega) h100.2)
        have H1 := Box.mk h1
        have H2 := Box.mk h2
        obtain ⟨t0, t1⟩ := h100
        clear h1 h2 h3
        have s1 : (versionS z ++ ⟨#[32]⟩).size = 9 := by rw [ByteArray.size_append, hz8]; rfl
        have s2 : (versionS z ++ ⟨#[32]⟩ ++ fmtS 10 st).size ≤ 1009 := by rw [ByteArray.size_append, s1]; have := HD.out; omega
        have s3 : (versionS z ++ ⟨#[32]⟩ ++ fmtS 10 st ++ ⟨#[32]⟩).size ≤ 1010 := by rw [ByteArray.size_append]; show _ + 1 ≤ _; omega
        generalize hv : versionS z = v at *
        have HV := Box.mk hv
        clear hv
        go_enter Tryz.func47, Tryz.ntmps47
        go_wp2_with fail
        refine (fmtVersion_any z _).mono ?_
        rintro e w1 ⟨he, rfl⟩
        rw [HV.out] at he
        subst he
        go_wp2_with fail
        refine (isStatus_any st _).mono ?_
        rintro e w1 ⟨he, rfl⟩
        rw [H1.out] at he
        subst he
        go_wp2_with fail
        refine (isReason_any r _).mono ?_
        rintro e w2 ⟨he, hb2⟩
        rw [H2.out] at he
        subst he
        have HB2 := Box.mk (below_trans HB0.out hb2)
        have HRW := Box.mk ((hb2.block w.heap.size (by rw [World.size_alloc]; omega)).trans HRow.out)
        clear hb2 HB0 HRow
        go_wp2_with fail
        generalize hg : w.heap.size = g at *
        have HG := Box.mk hg
        clear hg
        rename_i K hK
        refine wp_region_local (S := [.val (.string v), .val (.string (v ++ ⟨#[32]⟩)), .val (.pointer (some ⟨g, 0, none⟩)), .val (.int .i64 st), .val (.string (fmtS 10 st)), .val (.string (v ++ ⟨#[32]⟩ ++ fmtS 10 st)), .val (.string (v ++ ⟨#[32]⟩ ++ fmtS 10 st ++ ⟨#[32]⟩)),
          .val (.pointer (some ⟨g, 1, none⟩)), .val (.string r), .val (.string (v ++ ⟨#[32]⟩ ++ fmtS 10 st ++ ⟨#[32]⟩ ++ r)), .val (.string (v ++ ⟨#[32]⟩ ++ fmtS 10 st ++ ⟨#[32]⟩ ++ r))])
          (by kernel_rfl) (by kernel_rfl) (by kernel_rfl) ?_ ?_
        · have cell : ∀ w' i u, Below w2.heap.size w2 w' → (#[.int .i64 st, .string r, .int .i64 z, .slice fa fn fc, .slice ba bn bc] : Array Value)[i]? = some u → w'.cell? ⟨g, i, none⟩ = some u := fun w' i u hb hu => below_cell hb (by rw [cell_of_row _ _ _ _ _ _ HRW.out]; exact hu)
          refine ⟨?_, ?_, ?_, ?_, ?_, ?_, ?_, ?_, ?_, ?_, ?_, trivial⟩ <;> intro a w3 hb hf hd
          · exact ⟨wanted_none rfl, loc_move rfl (hf.base 3 rfl)⟩
          · exact ⟨wanted_none rfl, loc_addS rfl (hd 0 rfl) rfl (by rw [hz8]; decide) rfl⟩
          · exact ⟨wanted_none rfl, loc_fieldA rfl (hf.base 1 rfl) (by decide) rfl⟩
          · exact ⟨wanted_none rfl, loc_cell rfl (hd 2 rfl) (cell w3 0 _ hb rfl) (agg_int _) rfl⟩
          · refine ⟨wanted_none rfl, loc_call rfl (by kernel_rfl) ?_⟩
            show Calls _ _ #[a.eval (.tmp 24)] w3 _
            rw [show a.eval (.tmp 24) = .int .i64 st from hd 3 rfl]
            have hbw : Below w.heap.size w w3 := by
              have h9 := HB2.out
              rw [← HG.out] at h9
              exact below_trans h9 hb
            refine (decimal_any st w3 (by omega) (by omega) (tabs_below HT.out hbw)).mono ?_
            rintro e w' ⟨rfl, hb'⟩
            exact ⟨_, rfl, hb', rfl⟩
          · exact ⟨wanted_none rfl, loc_addS rfl (hd 1 rfl) (hd 4 rfl) (by rw [s1]; have := HD.out; omega) rfl⟩
          · exact ⟨wanted_none rfl, loc_addS rfl (hd 5 rfl) rfl (by show _ + 1 ≤ _; omega) rfl⟩
          · exact ⟨wanted_none rfl, loc_fieldA rfl (hf.base 1 rfl) (by decide) rfl⟩
          · exact ⟨wanted_none rfl, loc_cell rfl (hd 7 rfl) (cell w3 1 _ hb rfl) (agg_string _) rfl⟩
          · exact ⟨wanted_none rfl, loc_addS rfl (hd 6 rfl) (hd 8 rfl) (by omega) rfl⟩
          · exact ⟨wanted_none rfl, loc_assign rfl (hd 9 rfl)⟩
        · intro a w3 hb hf hh
          refine hK a w3 ?_
          go_wp2_with fail
          exact local_ret rfl hf.defers (show a.eval (.tmp 2) = .string (v ++ ⟨#[32]⟩ ++ fmtS 10 st ++ ⟨#[32]⟩ ++ r) from hh 10 (by decide)) ⟨ret_str HR.out.symm, by have h9 := HB2.out; rw [← HG.out] at h9; exact below_trans h9 hb⟩
      · have HR := Box.mk (show fmtRep st r z = ⟨#[]⟩ by unfold fmtRep; rw [if_neg (fun h => h2 h.2.2.2.2)])
        have H1 := Box.mk h1
        have H2 := Box.mk (show visS r = false by simpa using h2)
        clear h1 h2 h3 h100
        generalize hv : versionS z = v at *
        have HV := Box.mk hv
        clear hv
        go_enter Tryz.func47, Tryz.ntmps47
        go_wp2_with fail
        refine (fmtVersion_any z _).mono ?_
        rintro e w1 ⟨he, rfl⟩
        rw [HV.out] at he
        subst he
        go_wp2_with fail
        refine (isStatus_any st _).mono ?_
        rintro e w1 ⟨he, rfl⟩
        rw [H1.out] at he
        subst he
        go_wp2_with fail
        refine (isReason_any r _).mono ?_
        rintro e w2 ⟨he, hb2⟩
        rw [H2.out] at he
        subst he
        have HB2 := Box.mk (below_trans HB0.out hb2)
        clear hb2 HB0 HRow
        go_wp2_with fail
        go_ret
        exact ⟨ret_str HR.out.symm, HB2.out⟩
    · have HR := Box.mk (show fmtRep st r z = ⟨#[]⟩ by unfold fmtRep; rw [if_neg (fun h => h1 (by unfold statB; simp; exact ⟨h.1, h.2.1⟩))])
      have H1 := Box.mk (show statB st = false by simpa using h1)
      clear h1 h3
      generalize hv : versionS z = v at *
      have HV := Box.mk hv
      clear hv
      go_enter Tryz.func47, Tryz.ntmps47
      go_wp2_with fail
      refine (fmtVersion_any z _).mono ?_
      rintro e w1 ⟨he, rfl⟩
      rw [HV.out] at he
      subst he
      go_wp2_with fail
      refine (isStatus_any st _).mono ?_
      rintro e w1 ⟨he, rfl⟩
      rw [H1.out] at he
      subst he
      go_wp2_with fail
      go_ret
      exact ⟨ret_str HR.out.symm, HB0.out⟩
  · have HR := Box.mk (show fmtRep st r z = ⟨#[]⟩ by unfold fmtRep; rw [if_neg (fun h => h3 ⟨h.2.2.1, h.2.2.2.1⟩)])
    have HV := Box.mk (versionS_no h3)
    clear h3
    go_enter Tryz.func47, Tryz.ntmps47
    go_wp2_with fail
    refine (fmtVersion_any z _).mono ?_
    rintro e w1 ⟨he, rfl⟩
    rw [HV.out] at he
    subst he
    go_wp2_with fail
    go_ret
    exact ⟨ret_str HR.out.symm, HB0.out⟩

end Go.Proofs.YtcdianojchmgpaaGreatDoor
namespace Go.Proofs.YtcdianojchmgpaaGreatDoor
open Go.RowKit

theorem fmtRep_size (st : Int) (r : ByteArray) (z : Int) (hr : r.size ≤ 100000000) : (fmtRep st r z).size ≤ 1000000000 := by
  unfold fmtRep
  split
  · rename_i h
    have h1 := fmtS_small h.2.2.1 h.2.2.2.1
    have h2 := fmtS_code (z := st) (by omega) h.2.1
    simp only [ByteArray.size_append]
    have e1 : http0.size = 7 := rfl
    have e2 : (⟨#[32]⟩ : ByteArray).size = 1 := rfl
    omega
  · exact Nat.zero_le _
theorem AVar.cells {w : World} {g : Nat} {st : Int} {r : ByteArray} {z : Int} (h : AVar w g st r z) : g < w.heap.size ∧ w.cell? ⟨g, 0, none⟩ = some (.int .i64 st) ∧ w.cell? ⟨g, 1, none⟩ = some (.string r) ∧ w.cell? ⟨g, 2, none⟩ = some (.int .i64 z) ∧ w.cell? ⟨g, 3, none⟩ = some (.slice none 0 0) ∧ w.cell? ⟨g, 4, none⟩ = some (.slice none 0 0) := by
  refine ⟨(Array.getElem?_eq_some_iff.1 h).1, ?_, ?_, ?_, ?_, ?_⟩ <;> rw [cell_of_row _ _ _ _ _ _ h] <;> rfl
theorem RVar.cells {w : World} {g : Nat} {m t : ByteArray} {z : Int} (h : RVar w g m t z) : g < w.heap.size ∧ w.cell? ⟨g, 0, none⟩ = some (.string m) ∧ w.cell? ⟨g, 1, none⟩ = some (.string t) ∧ w.cell? ⟨g, 2, none⟩ = some (.int .i64 z) ∧ w.cell? ⟨g, 3, none⟩ = some (.slice none 0 0) ∧ w.cell? ⟨g, 4, none⟩ = some (.bool false) ∧ w.cell? ⟨g, 5, none⟩ = some (.slice none 0 0) := by
  refine ⟨(Array.getElem?_eq_some_iff.1 h).1, ?_, ?_, ?_, ?_, ?_, ?_⟩ <;> rw [cell_of_row _ _ _ _ _ _ h] <;> rfl

section
variable (line reason : ByteArray) (status at_ : Int) (c : UInt8) (wild : Int) (mm : Int) (w : World)
end
end Go.Proofs.YtcdianojchmgpaaGreatDoor
namespace Go.Proofs.YtcdianojchmgpaaGreatDoor
open Go.RowKit

theorem Own.bytes {B : Nat} {w : World} {v : Value} {l : List UInt8} (h : Own B w v l) : ∃ a c, v = .slice a l.length c ∧ IsBytes w a l c := h.val
section
variable (line : ByteArray) (b : Option Addr) (n cb : Nat) (at_ : Int) (c : UInt8) (wild : Int) (mm : Int) (w : World)
end
end Go.Proofs.YtcdianojchmgpaaGreatDoor
namespace Go.Proofs.YtcdianojchmgpaaGreatDoor
open Go.RowKit

theorem splitL_one (c : UInt8) : ∀ l : List UInt8, ¬ c ∈ l → splitL c l = [l]
  | [], _ => rfl
  | b :: t, h => by
    have hb : ¬ b = c := fun e => h (by rw [e]; exact List.mem_cons_self)
    have ih := splitL_one c t (fun e => h (List.mem_cons_of_mem _ e))
    rw [splitL, if_neg hb, ih]; rfl
theorem tok_blank {m : ByteArray} (h : tokS m = true) : ¬ (32 : UInt8) ∈ m.data.toList := fun e => by
  unfold tokS at h
  rw [Bool.and_eq_true] at h
  have := List.all_eq_true.1 h.1 32 e
  revert this; decide +kernel
theorem targ_blank {t : ByteArray} (h : targetS t = true) : ¬ (32 : UInt8) ∈ t.data.toList := fun e => by
  unfold targetS at h
  rw [Bool.and_eq_true] at h
  have := List.all_eq_true.1 h.1 32 e
  revert this; decide +kernel
theorem three_words (m t v : ByteArray) (hm : ¬ (32 : UInt8) ∈ m.data.toList) (ht : ¬ (32 : UInt8) ∈ t.data.toList) (hv : ¬ (32 : UInt8) ∈ v.data.toList) : splitS 32 (m ++ ⟨#[32]⟩ ++ t ++ ⟨#[32]⟩ ++ v) = [m, t, v] := by
  unfold splitS
  have e : (m ++ ⟨#[32]⟩ ++ t ++ ⟨#[32]⟩ ++ v).data.toList = m.data.toList ++ 32 :: (t.data.toList ++ 32 :: v.data.toList) := by
    rw [ba_app_list, ba_app_list, ba_app_list, ba_app_list]
    show m.data.toList ++ [32] ++ t.data.toList ++ [32] ++ v.data.toList = _
    simp
  rw [e, splitL_append, splitL_append, splitL_one 32 _ hm, splitL_one 32 _ ht, splitL_one 32 _ hv]
  simp only [List.map_append, List.map_cons, List.map_nil, ofL_of]
  rfl
theorem versionS_ok {z : Int} (hz : z = 0 ∨ z = 1) : verZ (versionS z) = (z, 0) ∧ ¬ (32 : UInt8) ∈ (versionS z).data.toList := by
  rcases hz with rfl | rfl
  · decide +kernel
  · decide +kernel
theorem twice_req {m t : ByteArray} {z : Int} (hm : tokS m = true) (ht : targetS t = true) (hz : z = 0 ∨ z = 1) : lineR (splitS 32 (fmtReq m t z)) = (some (m, t, z), 0) := by
  have h01 : 0 ≤ z ∧ z ≤ 1 := by omega
  have e : fmtReq m t z = m ++ ⟨#[32]⟩ ++ t ++ ⟨#[32]⟩ ++ versionS z := by
    unfold fmtReq; rw [if_pos ⟨hm, ht, h01⟩]
    have h := (versionS_dec h01.1 h01.2).1
    rw [ByteArray.append_assoc, ← h, ← ByteArray.append_assoc]
  obtain ⟨h1, h2⟩ := versionS_ok hz
  rw [e, three_words m t _ (tok_blank hm) (targ_blank ht) h2, lineR_ok hm ht (by rw [h1]), h1]
theorem code_ok {z : Int} (h0 : 100 ≤ z) (h1 : z ≤ 599) : (fmtS 10 z).size = 3 ∧ parseS 10 599 (fmtS 10 z) = (z, 0) := by
  obtain ⟨k, rfl⟩ : ∃ k : Nat, z = 100 + k := ⟨(z - 100).toNat, by omega⟩
  have hk : k < 500 := by omega
  have h : ∀ m : Fin 500, (fmtS 10 (100 + (m.val : Int))).size = 3 ∧ parseS 10 599 (fmtS 10 (100 + (m.val : Int))) = (100 + (m.val : Int), 0) := by decide +kernel
  exact h ⟨k, hk⟩
theorem minorZ_ver {z : Int} (hz : z = 0 ∨ z = 1) : minorZ (versionS z) = z ∧ (versionS z).size = 8 := by
  rcases hz with rfl | rfl
  · decide +kernel
  · decide +kernel
theorem rep_parts (v d r : ByteArray) (hv : v.size = 8) (hd : d.size = 3) (S : ByteArray) (hS : v ++ ⟨#[32]⟩ ++ d ++ ⟨#[32]⟩ ++ r = S) :
    13 ≤ S.size ∧ S.extract 0 8 = v ∧ S.data.toList[8]? = some 32 ∧ S.extract 9 12 = d ∧ S.data.toList[12]? = some 32 ∧ S.extract 13 S.size = r := by
  have hl : S.data.toList = v.data.toList ++ 32 :: (d.data.toList ++ 32 :: r.data.toList) := by
    rw [← hS, ba_app_list, ba_app_list, ba_app_list, ba_app_list]
    show v.data.toList ++ [32] ++ d.data.toList ++ [32] ++ r.data.toList = _
    simp
  have lv : v.data.toList.length = 8 := by rw [Array.length_toList]; exact hv
  have ld : d.data.toList.length = 3 := by rw [Array.length_toList]; exact hd
  have lS : S.data.toList.length = S.size := by rw [Array.length_toList]; rfl
  have hz : S.size = 13 + r.data.toList.length := by rw [← lS, hl]; simp only [List.length_append, List.length_cons, lv, ld]; omega
  have d9 : S.data.toList.drop 9 = d.data.toList ++ 32 :: r.data.toList := by
    rw [hl, List.drop_append, List.drop_of_length_le (by omega), lv]; rfl
  have d13 : S.data.toList.drop 13 = r.data.toList := by
    rw [show 13 = 9 + 4 from rfl, ← List.drop_drop, d9, List.drop_append, List.drop_of_length_le (by omega), ld]; rfl
  refine ⟨by omega, ?_, ?_, ?_, ?_, ?_⟩
  · apply ba_ext
    rw [Lib.extract_data, List.drop_zero, hl, List.take_append_of_le_length (by omega), List.take_of_length_le (by omega)]
  · rw [hl, List.getElem?_append_right (by omega), lv]; rfl
  · apply ba_ext
    rw [Lib.extract_data, d9, List.take_append_of_le_length (by omega), List.take_of_length_le (by omega)]
  · have : S.data.toList[12]? = (S.data.toList.drop 9)[3]? := by rw [List.getElem?_drop]
    rw [this, d9, List.getElem?_append_right (by omega), ld]; rfl
  · apply ba_ext
    rw [Lib.extract_data, d13, List.take_of_length_le (by omega)]
theorem twice_rep {st z : Int} {r : ByteArray} (h0 : 100 ≤ st) (h1 : st ≤ 599) (hz : z = 0 ∨ z = 1) (hr : visS r = true) : parseA (fmtRep st r z) = some (st, r, z) ∧ 0 < (fmtRep st r z).size := by
  have h01 : 0 ≤ z ∧ z ≤ 1 := by omega
  have e : fmtRep st r z = versionS z ++ ⟨#[32]⟩ ++ fmtS 10 st ++ ⟨#[32]⟩ ++ r := by
    unfold fmtRep; rw [if_pos ⟨h0, h1, h01.1, h01.2, hr⟩, (versionS_dec h01.1 h01.2).2]
  obtain ⟨c1, c2⟩ := code_ok h0 h1
  obtain ⟨v1, v2⟩ := minorZ_ver hz
  obtain ⟨p1, p2, p3, p4, p5, p6⟩ := rep_parts _ _ _ v2 c1 _ e.symm
  generalize fmtRep st r z = S at *
  have hrs : reasonS S = r := by unfold reasonS; rw [if_pos (by omega), p6]
  refine ⟨?_, by omega⟩
  unfold parseA
  rw [p2, p4, hrs, c2, v1, if_pos ⟨by omega, by omega, p3, fun _ => p5, rfl, h0, hr⟩]
theorem fmtRep_no {st z : Int} {r : ByteArray} (hr : visS r = false) : fmtRep st r z = ⟨#[]⟩ := by
  unfold fmtRep; rw [if_neg (fun h => by rw [hr] at h; exact absurd h.2.2.2.2 (by decide))]
theorem and1 (n : Int) : ∃ z : Int, bits BinOp.and IntKind.i64 n 1 = z ∧ (z = 0 ∨ z = 1) := by
  have h2 : (BitVec.ofInt 64 (1 : Int)).toNat = 1 := by decide
  have h3 : (BitVec.ofInt 64 n).toNat &&& 1 ≤ 1 := Nat.and_le_right
  have e : bits BinOp.and IntKind.i64 n 1 = (((BitVec.ofInt 64 n).toNat &&& 1 : Nat) : Int) := by
    show IntKind.i64.wrap ((BitVec.ofInt 64 n &&& BitVec.ofInt 64 1).toNat : Int) = _
    rw [BitVec.toNat_and, h2, IntWalk.i64_in _ (by omega)]
  exact ⟨_, e, by omega⟩
end Go.Proofs.YtcdianojchmgpaaGreatDoor
namespace Go.Proofs.YtcdianojchmgpaaGreatDoor
open Go.RowKit

section
variable (b : Option Addr) (n cb : Nat) (status minor : Int) (reason : ByteArray) (mm : Int) (w : World)
theorem row_cells6 {w : World} {g : Nat} {T : TypeId} {u0 u1 u2 u3 u4 u5 : Value} (h : w.heap[g]? = some (.cells #[u0, u1, u2, u3, u4, u5] T (0, 0))) : g < w.heap.size ∧ w.cell? ⟨g, 0, none⟩ = some u0 ∧ w.cell? ⟨g, 1, none⟩ = some u1 ∧ w.cell? ⟨g, 2, none⟩ = some u2 ∧ w.cell? ⟨g, 3, none⟩ = some u3 ∧ w.cell? ⟨g, 4, none⟩ = some u4 ∧ w.cell? ⟨g, 5, none⟩ = some u5 := by
  refine ⟨(Array.getElem?_eq_some_iff.1 h).1, ?_, ?_, ?_, ?_, ?_, ?_⟩ <;> rw [cell_of_row _ _ _ _ _ _ h] <;> rfl
end
end Go.Proofs.YtcdianojchmgpaaGreatDoor
namespace Go.Proofs.YtcdianojchmgpaaGreatDoor
open Go.RowKit

theorem run_loadReq (w : World) (g : Nat) {u0 u1 u2 u3 u4 u5 : Value} (h : w.heap[g]? = some (.cells #[u0, u1, u2, u3, u4, u5] 35 (0, 0))) :
    (Instr.loadAt 35 (.pointer (some ⟨g, 0, none⟩))).run Tryz.prog w = .ok (.agg #[u0, u1, u2, u3, u4, u5]) w := by
  simp [Instr.loadAt, Instr.sureAddr, run_loadVar_row w g _ 35 _ _ _ h Tryz.underlying35 rfl sizeR]
theorem run_loadRep (w : World) (g : Nat) {u0 u1 u2 u3 u4 : Value} (h : w.heap[g]? = some (.cells #[u0, u1, u2, u3, u4] 39 (0, 0))) :
    (Instr.loadAt 39 (.pointer (some ⟨g, 0, none⟩))).run Tryz.prog w = .ok (.agg #[u0, u1, u2, u3, u4]) w := by
  simp [Instr.loadAt, Instr.sureAddr, run_loadVar_row w g _ 39 _ _ _ h Tryz.underlying39 rfl sizeA]
theorem lt_row {w : World} {g : Nat} {o : Obj} (h : w.heap[g]? = some o) : g < w.heap.size := (Array.getElem?_eq_some_iff.1 h).1

section
variable {act : Act} {w : World} {o : Oper} {K : Act → World → Prop} {Q : Exit → Act → World → Prop}
theorem wp_store_int {P : Program} {ty : TypeId} {x y : Operand} (ho : o.op = .store ty x y) {p : Addr} {z : Int} {u : Value} (hx : act.eval x = .pointer (some p)) (hy : act.eval y = .int .i64 z) (hi : (P.info? ty).map (·.size) = some 1)
    (hc : w.cell? p = some u) (hf : w.frozen? p = false) (h : K (act.put o.dst undef) (w.setCell p (.int .i64 z))) : o.wp P act w K Q := by
  have hz : (sizeOf ty).run P w = .ok 1 w := by
    cases hq : P.info? ty with
    | none => rw [hq] at hi; cases hi
    | some i => rw [hq] at hi; simp at hi; simp [sizeOf, typeInfo, hq, hi]
  unfold Oper.wp execOp
  simp_all [Instr.storeAt, Instr.sureAddr, storeVar, storeCells, Value.cells, go_sem]
end

section
variable (m t : ByteArray) (z : Int) (fa ba : Option Addr) (fn fc bn bc : Nat) (fr : Bool) (st : Int) (r : ByteArray) (z2 : Int) (ga ha : Option Addr) (gn gc hn hc : Nat) (b : Option Addr) (n cb : Nat) (raw : Bool) (mm : Int) (w : World)
end
end Go.Proofs.YtcdianojchmgpaaGreatDoor
namespace Go.Proofs.YtcdianojchmgpaaGreatDoor
open Go.RowKit

/-- A slice with the bytes l comes back. -/
def RetHdP (w : World) (l : List UInt8) (e : Ending) (w' : World) : Prop := ∃ a c, e = .returned (.slice a (List.length l) c) ∧ IsBytes w' a l c ∧ Below w.heap.size w w'
theorem fmtF_cases (x : List Fld) : (allB x = true ∧ (fmtF x).data.toList = linesB x ∧ ((fmtF x).size = 0 → x = [])) ∨ (allB x = false ∧ (fmtF x).size = 0 ∧ ¬ x = []) := by
  by_cases h : allB x = true
  · refine .inl ⟨h, by unfold fmtF; rw [if_pos h], fun h0 => ?_⟩
    cases x with
    | nil => rfl
    | cons f r =>
      exfalso
      have h2 : (fmtF (f :: r)).data.toList = linesB (f :: r) := by unfold fmtF; rw [if_pos h]
      have h3 := congrArg List.length h2
      rw [Array.length_toList] at h3
      have h4 : (fmtF (f :: r)).data.size = (fmtF (f :: r)).size := rfl
      rw [h4, h0] at h3
      unfold linesB at h3
      rw [List.flatMap_cons, List.length_append, lineB_len] at h3
      omega
  · refine .inr ⟨by rw [← Bool.not_eq_true]; exact h, by unfold fmtF; rw [if_neg h]; rfl, ?_⟩
    rintro rfl
    exact h rfl
set_option maxRecDepth 100000 in
set_option maxHeartbeats 4000000 in
theorem projFormatH_any (s : ByteArray) (x : List Fld) (fa : Option Addr) (fc : Nat) (w : World) (hx : FldsIn w fa x) (hz : SmallF x) (hl : x.length ≤ 100) (hq : s.size ≤ 3000000000) :
    Calls Tryz.prog 42 #[.string s, .slice fa x.length fc] w (RetHdP w (headB s x)) := by
  have HN := Box.mk (fun h => headB_no (s := s) (x := x) h)
  have HY := Box.mk (fun h h2 => headB_yes (s := s) (x := x) h h2)
  have HFM := Box.mk (fFormat_any x fa fc w hx hz (by omega))
  have HC := Box.mk (fmtF_cases x)
  have HL := Box.mk (show (linesB x).length ≤ 100 * 2097156 by
    have h1 := linesB_len x hz x.length
    rw [List.take_length] at h1
    exact Nat.le_trans h1 (Nat.mul_le_mul_right _ hl))
  generalize headB s x = R at *
  generalize fmtF x = f at *
  clear hx hz
  go_enter Tryz.func42, Tryz.ntmps42
  go_wp2_with fail
  refine HFM.out.mono ?_
  rintro e w1 ⟨rfl, hb1⟩
  have HB1 := Box.mk hb1
  clear hb1 HFM
  by_cases h0 : s.size = 0
  · have he := empty_s h0
    have HP := Box.mk (HN.out (.inl h0))
    clear h0
    go_wp2_with fail
    go_ret
    rw [HP.out]
    exact ⟨none, 0, rfl, .inl ⟨rfl, rfl, rfl⟩, HB1.out⟩
  · have he := full_s h0
    have H0 := Box.mk h0
    have hs1 : 0 < s.size := by omega
    clear h0
    rcases HC.out with ⟨hv, hf, hf0⟩ | ⟨hv, hf, hx0⟩
    · have HP := Box.mk (HY.out H0.out hv)
      have HF := Box.mk hf
      have hfz : f.size ≤ 100 * 2097156 := by
        have h2 := congrArg List.length hf
        rw [Array.length_toList] at h2
        have h3 : f.data.size = f.size := rfl
        have := HL.out
        omega
      have hadd1 := fun W => run_string_add_sum (P := Tryz.prog) (w := W) s ⟨#[13, 10]⟩ (by show s.size + 2 ≤ _; omega)
      obtain ⟨s1, hs1⟩ : ∃ s1, s1 = s ++ (⟨#[13, 10]⟩ : ByteArray) := ⟨_, rfl⟩
      rw [← hs1] at hadd1
      have hs1z : s1.size = s.size + 2 := by rw [hs1, ByteArray.size_append]; rfl
      have hadd2 := fun W => run_string_add_sum (P := Tryz.prog) (w := W) s1 f (by omega)
      obtain ⟨s2, hs2⟩ : ∃ s2, s2 = s1 ++ f := ⟨_, rfl⟩
      rw [← hs2] at hadd2
      have hs2z : s2.size = s.size + 2 + f.size := by rw [hs2, ByteArray.size_append, hs1z]
      have hadd3 := fun W => run_string_add_sum (P := Tryz.prog) (w := W) s2 ⟨#[13, 10]⟩ (by show s2.size + 2 ≤ _; omega)
      obtain ⟨s3, hs3⟩ : ∃ s3, s3 = s2 ++ (⟨#[13, 10]⟩ : ByteArray) := ⟨_, rfl⟩
      rw [← hs3] at hadd3
      have HS3 := Box.mk (show s3.data.toList = R by
        rw [HP.out, hs3, hs2, hs1, ← HF.out]
        simp)
      have hs3z : s3.size = s2.size + 2 := by rw [hs3, ByteArray.size_append]; rfl
      have HZ3 := Box.mk (show s3.size ≤ 4000000000 by rw [hs3z, hs2z]; omega)
      have hcvb := fun W => Lib.run_convert_string_bytes (P := Tryz.prog) W 9 23 5 s3 Tryz.underlying9 Tryz.underlying23 Tryz.underlying5
      have HRL := Box.mk (show R.length = s3.size by rw [← HS3.out, Array.length_toList]; rfl)
      have HW := Box.mk (fun W => OwnM.conv W s3 ?hz)
      case hz => exact HZ3.out
      clear hs1 hs2 hs3 hs1z hs2z hv hf HC HN HY HL hs3z
      by_cases hfe : f.size = 0
      · have hfe2 := empty_s hfe
        obtain rfl := hf0 hfe
        clear hf0 hfe
        go_wp2_with fail
        go_ret
        obtain ⟨g, c, hg, hc, hib⟩ := (HW.out w1).form
        rw [HS3.out] at hg hib
        refine ⟨_, _, by rw [← hg]; rfl, hib, below_trans HB1.out (below_convH _ _ _)⟩
      · have hfe2 := full_s hfe
        clear hf0 hfe
        go_wp2_with fail
        go_ret
        obtain ⟨g, c, hg, hc, hib⟩ := (HW.out w1).form
        rw [HS3.out] at hg hib
        refine ⟨_, _, by rw [← hg]; rfl, hib, below_trans HB1.out (below_convH _ _ _)⟩
    · have he2 := empty_s hf
      have HP := Box.mk (HN.out (.inr hv))
      have hxl : 0 < x.length := List.length_pos_iff.2 hx0
      clear hv hx0 HN HY HC hf
      go_wp2_with fail
      go_ret
      rw [HP.out]
      exact ⟨none, 0, rfl, .inl ⟨rfl, rfl, rfl⟩, HB1.out⟩
set_option maxRecDepth 100000 in
set_option maxHeartbeats 4000000 in
theorem projFmtReq_any (m t : ByteArray) (z : Int) (fr : Bool) (x : List Fld) (fa ba : Option Addr) (fc bn bc : Nat) (mm : Int) (w : World) (hm : m.size ≤ 1000000000) (ht : t.size ≤ 1000000000) (hx : FldsIn w fa x) (hz : SmallF x) (hl : x.length ≤ 100) (hq : (fmtReq m t z).size ≤ 3000000000) (_hk : HdOk w mm) :
    Calls Tryz.prog 21 #[.agg #[.string m, .string t, .int .i64 z, .slice fa x.length fc, .bool fr, .slice ba bn bc]] w (RetHdP w (headB (fmtReq m t z) x)) := by
  obtain ⟨W0, hW0⟩ : ∃ W0, W0 = w.alloc (.cells #[.string m, .string t, .int .i64 z, .slice fa x.length fc, .bool fr, .slice ba bn bc] 35) := ⟨_, rfl⟩
  have HB0 := Box.mk (show Below w.heap.size w W0 by rw [hW0]; exact below_oneF w _)
  have HR := Box.mk (show W0.heap[w.heap.size]? = some (.cells #[.string m, .string t, .int .i64 z, .slice fa x.length fc, .bool fr, .slice ba bn bc] 35 (0, 0)) by rw [hW0]; exact heap_alloc_new _ _)
  have HX := Box.mk (hx.keep HB0.out)
  have HZ := Box.mk hz
  have HQ := Box.mk hq
  have HW0 := Box.mk hW0
  have row1 : ∀ w', Below W0.heap.size W0 w' → w'.heap[w.heap.size]? = some (.cells #[.string m, .string t, .int .i64 z, .slice fa x.length fc, .bool fr, .slice ba bn bc] 35 (0, 0)) := fun w' hb => by rw [hb.block _ (lt_row HR.out)]; exact HR.out
  have ROW1 := Box.mk row1
  clear hx hz hW0 hq row1
  go_enter Tryz.func21, Tryz.ntmps21
  go_wp2_with fail
  rw [← HW0.out]
  clear HW0
  rename_i K hK
  refine wp_region_local (S := [.val (.agg #[.string m, .string t, .int .i64 z, .slice fa x.length fc, .bool fr, .slice ba bn bc]), .val (.string (fmtReq m t z)), .val (.pointer (some ⟨w.heap.size, 3, none⟩)), .val (.slice fa x.length fc), .bytes (headB (fmtReq m t z) x), .bytes (headB (fmtReq m t z) x)])
    (by kernel_rfl) (by kernel_rfl) (by kernel_rfl) ?_ ?_
  · refine ⟨?_, ?_, ?_, ?_, ?_, ?_, trivial⟩ <;> intro a w3 hb hf hd
    · exact ⟨wanted_none rfl, loc_load rfl (by rw [show a.eval (.tmp 1) = .pointer (some ⟨w.heap.size, 0, none⟩) from hf.base 1 rfl]; exact run_loadReq _ _ (ROW1.out w3 hb)) rfl⟩
    · refine ⟨wanted_none rfl, loc_call rfl (by kernel_rfl) ?_⟩
      show Calls _ _ #[a.eval (.tmp 3)] w3 _
      rw [show a.eval (.tmp 3) = _ from hd 0 rfl]
      refine (projFormatReq_any m t z fa ba x.length fc bn bc fr w3 hm ht).mono ?_
      rintro e w' ⟨rfl, hb'⟩
      exact ⟨_, rfl, hb', rfl⟩
    · exact ⟨wanted_none rfl, loc_fieldR rfl (hf.base 1 rfl) (by decide) rfl⟩
    · exact ⟨wanted_none rfl, loc_cell rfl (hd 2 rfl) (by rw [cell_of_row _ _ _ _ _ _ (ROW1.out w3 hb)]; rfl) (agg_fields _) rfl⟩
    · refine ⟨wanted_none rfl, loc_call rfl (by kernel_rfl) ?_⟩
      show Calls _ _ #[a.eval (.tmp 4), a.eval (.tmp 6)] w3 _
      rw [show a.eval (.tmp 4) = _ from hd 1 rfl, show a.eval (.tmp 6) = _ from hd 3 rfl]
      refine (projFormatH_any (fmtReq m t z) x fa fc w3 (HX.out.keep hb) HZ.out hl HQ.out).mono ?_
      rintro e w' ⟨qa, qc, rfl, hqb, hb'⟩
      exact ⟨_, rfl, hb', qa, qc, rfl, hqb⟩
    · exact ⟨wanted_none rfl, loc_assign rfl (hd 4 rfl)⟩
  · intro a w3 hb hf hh
    refine hK a w3 ?_
    obtain ⟨qa, qc, hv, hqb⟩ := (show BytesV w3 (a.eval (.tmp 2)) (headB (fmtReq m t z) x) from hh 5 (by decide))
    go_wp2_with fail
    exact local_ret rfl hf.defers hv ⟨qa, qc, rfl, hqb, below_trans HB0.out hb⟩
set_option maxRecDepth 100000 in
set_option maxHeartbeats 4000000 in
theorem projFmtRep_any (m : Int) (t : ByteArray) (z : Int) (x : List Fld) (fa ba : Option Addr) (fc bn bc : Nat) (w : World) (ht : t.size ≤ 1000000000) (hx : FldsIn w fa x) (hz : SmallF x) (hl : x.length ≤ 100) (hq : (fmtRep m t z).size ≤ 3000000000) (htb : Tabs w) :
    Calls Tryz.prog 23 #[.agg #[.int .i64 m, .string t, .int .i64 z, .slice fa x.length fc, .slice ba bn bc]] w (RetHdP w (headB (fmtRep m t z) x)) := by
  obtain ⟨W0, hW0⟩ : ∃ W0, W0 = w.alloc (.cells #[.int .i64 m, .string t, .int .i64 z, .slice fa x.length fc, .slice ba bn bc] 39) := ⟨_, rfl⟩
  have HB0 := Box.mk (show Below w.heap.size w W0 by rw [hW0]; exact below_oneF w _)
  have HR := Box.mk (show W0.heap[w.heap.size]? = some (.cells #[.int .i64 m, .string t, .int .i64 z, .slice fa x.length fc, .slice ba bn bc] 39 (0, 0)) by rw [hW0]; exact heap_alloc_new _ _)
  have HX := Box.mk (hx.keep HB0.out)
  have HZ := Box.mk hz
  have HTB := Box.mk htb
  have HQ := Box.mk hq
  have HW0 := Box.mk hW0
  have row1 : ∀ w', Below W0.heap.size W0 w' → w'.heap[w.heap.size]? = some (.cells #[.int .i64 m, .string t, .int .i64 z, .slice fa x.length fc, .slice ba bn bc] 39 (0, 0)) := fun w' hb => by rw [hb.block _ (lt_row HR.out)]; exact HR.out
  have ROW1 := Box.mk row1
  clear hx hz hW0 hq row1 htb
  go_enter Tryz.func23, Tryz.ntmps23
  go_wp2_with fail
  rw [← HW0.out]
  clear HW0
  rename_i K hK
  refine wp_region_local (S := [.val (.agg #[.int .i64 m, .string t, .int .i64 z, .slice fa x.length fc, .slice ba bn bc]), .val (.string (fmtRep m t z)), .val (.pointer (some ⟨w.heap.size, 3, none⟩)), .val (.slice fa x.length fc), .bytes (headB (fmtRep m t z) x), .bytes (headB (fmtRep m t z) x)])
    (by kernel_rfl) (by kernel_rfl) (by kernel_rfl) ?_ ?_
  · refine ⟨?_, ?_, ?_, ?_, ?_, ?_, trivial⟩ <;> intro a w3 hb hf hd
    · exact ⟨wanted_none rfl, loc_load rfl (by rw [show a.eval (.tmp 1) = .pointer (some ⟨w.heap.size, 0, none⟩) from hf.base 1 rfl]; exact run_loadRep _ _ (ROW1.out w3 hb)) rfl⟩
    · refine ⟨wanted_none rfl, loc_call rfl (by kernel_rfl) ?_⟩
      show Calls _ _ #[a.eval (.tmp 3)] w3 _
      rw [show a.eval (.tmp 3) = _ from hd 0 rfl]
      refine (projFormatRep_any m t z fa ba x.length fc bn bc w3 ht (tabs_below HTB.out (below_trans HB0.out hb))).mono ?_
      rintro e w' ⟨rfl, hb'⟩
      exact ⟨_, rfl, hb', rfl⟩
    · exact ⟨wanted_none rfl, loc_fieldA rfl (hf.base 1 rfl) (by decide) rfl⟩
    · exact ⟨wanted_none rfl, loc_cell rfl (hd 2 rfl) (by rw [cell_of_row _ _ _ _ _ _ (ROW1.out w3 hb)]; rfl) (agg_fields _) rfl⟩
    · refine ⟨wanted_none rfl, loc_call rfl (by kernel_rfl) ?_⟩
      show Calls _ _ #[a.eval (.tmp 4), a.eval (.tmp 6)] w3 _
      rw [show a.eval (.tmp 4) = _ from hd 1 rfl, show a.eval (.tmp 6) = _ from hd 3 rfl]
      refine (projFormatH_any (fmtRep m t z) x fa fc w3 (HX.out.keep hb) HZ.out hl HQ.out).mono ?_
      rintro e w' ⟨qa, qc, rfl, hqb, hb'⟩
      exact ⟨_, rfl, hb', qa, qc, rfl, hqb⟩
    · exact ⟨wanted_none rfl, loc_assign rfl (hd 4 rfl)⟩
  · intro a w3 hb hf hh
    refine hK a w3 ?_
    obtain ⟨qa, qc, hv, hqb⟩ := (show BytesV w3 (a.eval (.tmp 2)) (headB (fmtRep m t z) x) from hh 5 (by decide))
    go_wp2_with fail
    exact local_ret rfl hf.defers hv ⟨qa, qc, rfl, hqb, below_trans HB0.out hb⟩
end Go.Proofs.YtcdianojchmgpaaGreatDoor
namespace Go.Proofs.YtcdianojchmgpaaGreatDoor
open Go.RowKit

theorem run_loadQH (w : World) (g : Nat) (m t : ByteArray) (z : Int) (a : Option Addr) (n c : Nat) (h : QVarH w g m t z (.slice a n c)) :
    (Instr.loadAt 35 (.pointer (some ⟨g, 0, none⟩))).run Tryz.prog w = .ok (.agg #[.string m, .string t, .int .i64 z, .slice a n c, .bool false, .slice none 0 0]) w := by
  unfold QVarH at h
  simp [Instr.loadAt, Instr.sureAddr, run_loadVar_row w g _ 35 _ _ _ h Tryz.underlying35 rfl sizeR]
section
variable {Q : Exit → Act → World → Prop} {act : Act} {w : World} {o : Oper} {s : Spec}
theorem loc_eqlEH {x y : Operand} {t : TypeId} (ho : o.op = .binOp .eql 27 x y t) {n : Int} (hx : act.eval x = .int .i64 n) (hy : act.eval y = .int .i64 n) (hs : s.p (.bool true) w) :
    o.wp Tryz.prog act w (fun a' w' => ∃ v, a' = act.put o.dst v ∧ Below w.heap.size w w' ∧ s.p v w') Q :=
  loc_run (v := .bool true) (by
    unfold execOp
    simp [ho, hx, hy, eqGuard, binOp, Op.intCmp]) (Below.refl _ _) hs
theorem loc_lenH {x : Operand} (ho : o.op = .call { callee := .builtin .len, args := #[x], argTypes := #[33] }) {ad : Option Addr} {n c : Nat} (hx : act.eval x = .slice ad n c) (hs : s.p (.int .i64 n) w) :
    o.wp Tryz.prog act w (fun a' w' => ∃ v, a' = act.put o.dst v ∧ Below w.heap.size w w' ∧ s.p v w') Q :=
  loc_run (v := .int .i64 n) (by
    unfold execOp
    simp [ho, hx, resolve, invoke, builtin, Builtin.len_, run_underlying Tryz.underlying33]
    try rfl) (Below.refl _ _) hs
end
def awkL : List UInt8 := [71, 69, 84, 32, 47, 32, 72, 84, 84, 80, 47, 49, 46, 49, 13, 10, 72, 111, 115, 116, 58, 32, 97, 13, 10, 13, 10, 109, 111, 114, 101]
def awkH : List UInt8 := [71, 69, 84, 32, 47, 32, 72, 84, 84, 80, 47, 49, 46, 49, 13, 10, 72, 111, 115, 116, 58, 32, 97, 13, 10, 13, 10]
def awkF : List Fld := [(⟨#[72, 111, 115, 116]⟩, ⟨#[97]⟩)]
theorem awk_end : endS awkL 100 = (27, 0) := by decide +kernel
theorem awk_take : awkL.take 27 = awkH := by decide +kernel
theorem awk_parse : headR awkH = (0, ⟨#[71, 69, 84]⟩, ⟨#[47]⟩, 1, awkF) := by decide +kernel
theorem awk_fmt : headB (fmtReq ⟨#[71, 69, 84]⟩ ⟨#[47]⟩ 1) awkF = awkH := by decide +kernel
theorem awk_size : (fmtReq ⟨#[71, 69, 84]⟩ ⟨#[47]⟩ 1).size ≤ 100 := by decide +kernel
theorem awk_small : SmallF awkF := fun f hf => by
  obtain rfl := List.mem_singleton.1 hf; exact ⟨by decide, by decide⟩
set_option maxRecDepth 100000 in
set_option maxHeartbeats 4000000 in
theorem awakeH_any (mm : Int) (w : World) (hm : HdOk w mm) : Calls Tryz.prog 13 #[] w fun e w' => e = .returned (.bool true) ∧ Below w.heap.size w w' := by
  have kc := fun (w : World) (C : Array Value) (n c : Nat) => Lib.run_convert_bytes_const (P := Tryz.prog) w 23 5 C n c Tryz.underlying23 Tryz.underlying5
  have HM := Box.mk hm
  clear hm
  go_enter Tryz.func13, Tryz.ntmps13
  go_wp2_with fail
  clear kc
  obtain ⟨W1, hW1⟩ : ∃ W1, W1 = w.alloc (.cells (bytesV awkL).toArray 5 (31, 32)) := ⟨_, rfl⟩
  have HB1 := Box.mk (show Below w.heap.size w W1 by rw [hW1]; exact below_oneF w _)
  have HBY := Box.mk (show IsBytes W1 (some ⟨w.heap.size, 0, none⟩) awkL 31 by rw [hW1]; exact row_bytesH (heap_alloc_new w (.cells (bytesV awkL).toArray 5 (31, 32))) (by decide))
  change Calls _ _ _ (w.alloc (.cells (bytesV awkL).toArray 5 (31, 32))) _
  rw [← hW1]
  clear hW1
  refine (projEnd_any awkL (some ⟨w.heap.size, 0, none⟩) 31 100 mm W1 HBY.out (by decide) (HM.out.keep HB1.out)).mono ?_
  rintro e w2 ⟨he, hb2⟩
  rw [awk_end] at he
  simp only [] at he
  subst he
  have HB2 := Box.mk (below_trans HB1.out hb2)
  have HBY2 := Box.mk (HBY.out.keep hb2)
  clear hb2 HBY HB1
  go_wp2_with fail
  refine (projHeadReq_any awkH (some ⟨w.heap.size, 0, none⟩) 31 mm _ (by have := isBytes_takeH HBY2.out 27; rw [awk_take] at this; exact this) (by decide) (HM.out.keep HB2.out)).mono ?_
  rintro e w3 ⟨fa, fc, he, hf, hb3⟩
  rw [awk_parse] at he hf
  simp only [] at he hf
  subst he
  have HB3 := Box.mk (below_trans HB2.out hb3)
  have HBY3 := Box.mk (HBY2.out.keep hb3)
  have HF3 := Box.mk hf
  clear hb3 hf HB2 HBY2
  go_wp2_with fail
  obtain ⟨W4, hW4⟩ : ∃ W4, W4 = w3.alloc (.cells #[.string ⟨#[71, 69, 84]⟩, .string ⟨#[47]⟩, .int .i64 1, .slice fa awkF.length fc, .bool false, .slice none 0 0] 35) := ⟨_, rfl⟩
  have hb4 : Below w3.heap.size w3 W4 := by rw [hW4]; exact below_oneF w3 _
  have HB4 := Box.mk (below_trans HB3.out hb4)
  have HQ4 := Box.mk (show QVarH W4 w3.heap.size ⟨#[71, 69, 84]⟩ ⟨#[47]⟩ 1 (.slice fa awkF.length fc) by rw [hW4]; exact heap_alloc_new _ _)
  have HBY4 := Box.mk (show IsBytes W4 (some ⟨w.heap.size, 0, none⟩) awkH 31 by have := isBytes_takeH (HBY3.out.keep hb4) 27; rw [awk_take] at this; exact this)
  have HF4 := Box.mk (HF3.out.keep hb4)
  change Code.wp _ _ _ _ (w3.alloc (.cells #[.string ⟨#[71, 69, 84]⟩, .string ⟨#[47]⟩, .int .i64 1, .slice fa awkF.length fc, .bool false, .slice none 0 0] 35))
  rw [← hW4]
  clear hW4 hb4 HB3 HF3 HBY3
  rename_i K hK
  refine wp_region_local (S := [.val (.int .i64 0), .val (.bool true), .val (.bool true), .val (.pointer (some ⟨w3.heap.size, 0, none⟩)), .val (.string ⟨#[71, 69, 84]⟩), .val (.bool true), .val (.bool true), .val (.bool true),
    .val (.pointer (some ⟨w3.heap.size, 3, none⟩)), .val (.slice fa awkF.length fc), .val (.int .i64 awkF.length), .val (.bool true), .val (.bool true), .val (.bool true),
    .val (.agg #[.string ⟨#[71, 69, 84]⟩, .string ⟨#[47]⟩, .int .i64 1, .slice fa awkF.length fc, .bool false, .slice none 0 0]), .bytes awkH, .val (.string ⟨awkH.toArray⟩),
    .val (.slice (some ⟨w.heap.size, 0, none⟩) 31 31), .val (.int .i64 27), .val (.slice (some ⟨w.heap.size, 0, none⟩) 27 31), .val (.string ⟨awkH.toArray⟩), .val (.bool true), .val (.bool true), .val (.bool true)])
    (by kernel_rfl) (by kernel_rfl) (by kernel_rfl) ?_ ?_
  · refine ⟨?_, ?_, ?_, ?_, ?_, ?_, ?_, ?_, ?_, ?_, ?_, ?_, ?_, ?_, ?_, ?_, ?_, ?_, ?_, ?_, ?_, ?_, ?_, ?_, trivial⟩ <;> intro a1 w7 hb hf hd
    · exact ⟨wanted_none rfl, loc_move rfl (hf.base 5 rfl)⟩
    · exact ⟨wanted_none rfl, loc_eqlEH rfl (hd 0 rfl) rfl rfl⟩
    · exact ⟨wanted_none rfl, loc_move rfl (hd 1 rfl)⟩
    · exact ⟨wanted_true rfl rfl (hd 2 rfl), loc_fieldR rfl (hf.base 4 rfl) (by decide) rfl⟩
    · exact ⟨wanted_true rfl rfl (hd 2 rfl), loc_cell rfl (hd 3 rfl) (by rw [cell_of_row _ _ _ _ _ _ (HQ4.out.keep hb)]; rfl) (agg_string _) rfl⟩
    · exact ⟨wanted_true rfl rfl (hd 2 rfl), loc_eql_str rfl (hd 4 rfl) rfl rfl⟩
    · exact ⟨wanted_none rfl, loc_pick rfl (hd 2 rfl) (hd 5 rfl)⟩
    · exact ⟨wanted_none rfl, loc_move rfl (hd 6 rfl)⟩
    · exact ⟨wanted_true rfl rfl (hd 7 rfl), loc_fieldR rfl (hf.base 4 rfl) (by decide) rfl⟩
    · exact ⟨wanted_true rfl rfl (hd 7 rfl), loc_cell rfl (hd 8 rfl) (by rw [cell_of_row _ _ _ _ _ _ (HQ4.out.keep hb)]; rfl) (agg_fields _) rfl⟩
    · exact ⟨wanted_true rfl rfl (hd 7 rfl), loc_lenH rfl (hd 9 rfl) rfl⟩
    · exact ⟨wanted_true rfl rfl (hd 7 rfl), loc_eql_int rfl (hd 10 rfl) rfl rfl⟩
    · exact ⟨wanted_none rfl, loc_pick rfl (hd 7 rfl) (hd 11 rfl)⟩
    · exact ⟨wanted_none rfl, loc_move rfl (hd 12 rfl)⟩
    · exact ⟨wanted_true rfl rfl (hd 13 rfl), loc_load rfl (by rw [show a1.eval (.tmp 4) = _ from hf.base 4 rfl]; exact run_loadQH _ _ _ _ _ _ _ _ (HQ4.out.keep hb)) rfl⟩
    · refine ⟨wanted_true rfl rfl (hd 13 rfl), loc_call rfl (by kernel_rfl) ?_⟩
      show Calls _ _ #[a1.eval (.tmp 40)] w7 _
      rw [show a1.eval (.tmp 40) = _ from hd 14 rfl]
      refine (projFmtReq_any ⟨#[71, 69, 84]⟩ ⟨#[47]⟩ 1 false awkF fa none fc 0 0 mm w7 (by decide) (by decide) (HF4.out.keep hb) awk_small (by decide) (Nat.le_trans awk_size (by decide)) (HM.out.keep (below_trans HB4.out hb))).mono ?_
      rintro e w' ⟨qa, qc, rfl, hqb, hb'⟩
      rw [awk_fmt] at hqb ⊢
      exact ⟨_, rfl, hb', qa, qc, rfl, hqb⟩
    · exact ⟨wanted_true rfl rfl (hd 13 rfl), loc_string rfl (hd 15 rfl) rfl⟩
    · exact ⟨wanted_true rfl rfl (hd 13 rfl), loc_move rfl (hf.base 1 rfl)⟩
    · exact ⟨wanted_true rfl rfl (hd 13 rfl), loc_move rfl (hf.base 2 rfl)⟩
    · exact ⟨wanted_true rfl rfl (hd 13 rfl), loc_uptoH rfl (hd 17 rfl) (hd 18 rfl) (by decide) (by decide) rfl⟩
    · exact ⟨wanted_true rfl rfl (hd 13 rfl), loc_string rfl (by rw [show a1.eval (.tmp 45) = _ from hd 19 rfl]; exact ⟨_, 31, rfl, HBY4.out.keep hb⟩) rfl⟩
    · exact ⟨wanted_true rfl rfl (hd 13 rfl), loc_eql_str rfl (hd 16 rfl) (hd 20 rfl) rfl⟩
    · exact ⟨wanted_none rfl, loc_pick rfl (hd 13 rfl) (hd 21 rfl)⟩
    · exact ⟨wanted_none rfl, loc_assign rfl (hd 22 rfl)⟩
  · intro a1 w7 hb hf hh
    refine hK a1 w7 ?_
    go_wp2_with fail
    exact local_ret rfl hf.defers (show a1.eval (.tmp 0) = .bool true from hh 23 (by decide)) ⟨rfl, below_trans HB4.out hb⟩
end Go.Proofs.YtcdianojchmgpaaGreatDoor
