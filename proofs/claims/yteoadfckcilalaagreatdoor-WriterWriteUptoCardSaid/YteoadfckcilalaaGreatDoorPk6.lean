/- The request that the source makes: what is said of it. The request that the source makes. A slice of bytes in a block of the call's own that may bear the mark of a conversion: append in place, one byte stored. Sizes of what the source makes; local laws for wire. FormatStatus of package startline; the law LineStatus. The law LineStatus. The law LineRequest. A line that was formatted is parsed to the same fields; the law LineTwice. The law LineTwice. The law LineFormat. Package head: FormatRequest, FormatReply. A region that draws its order, in phases, where an operation may read a slot that a later one writes. The laws HeadEnd and HeadGrows. The law HeadParse. The law FieldLine. -/
import Derived.Test.YteoadfckcilalaaGreatDoorPk1
import Derived.Test.YteoadfckcilalaaGreatDoorPk2
import Derived.Test.YteoadfckcilalaaGreatDoorPk3
import Derived.Test.YteoadfckcilalaaGreatDoorPk4
import Derived.Test.YteoadfckcilalaaGreatDoorPk5
import Derived.Test.YteoadfckcilalaaGreatDoorRows
import Derived.WalkKit
import Derived.WalkSpells
import Derived.WalkLawsBesides
import Derived.BigQuiet
import Derived.Deep.QuietTactic
import Derived.Lib.Bytealg
import Derived.Lib.IndexLaws
import Derived.Lib.Hide
import Derived.Laws.IdiomStrings
import Derived.Lib.SlTrimSet
import Derived.Lib.IndexBytes
import Derived.Lib.Split
import Derived.Deep.AppendLies
import Derived.Shelf.Strings.SlTrimAscii
import Derived.Shelf.Strings.SplitShaped
import Derived.Shelf.LaysM
import Derived.Shelf.Strings.BuilderK
import Derived.Shelf.Strconv.Itoa4
import Derived.Shelf.Strings.Prefix
import Derived.Shelf.Bytes.SlIndexWhole
import Derived.Test.YteoadfckcilalaaGreatDoorProg
import Derived.Lib.SplitLaws
import Derived.WalkSmall
import Derived.ProofKit
import Derived.OpenShut
import Derived.Lib.Strings
import Derived.SliceStrings
import Derived.Deep.Quiet
import Derived.Tactics
import Derived.KernelRfl
import Derived.Below
import Derived.Laws.Bits64
import Derived.Lib.SlBytesConst
import Derived.Maps.AppendAt
import Derived.Laws.AppendOwnNone
import Derived.Great.BuildSlice
import Derived.Laws.Rows
import Derived.Laws.BitsAllLaws
import Derived.Laws.Shifts
import Derived.Maps.OwnOps
import Derived.Maps.OwnSet
import Derived.Deep.SlicePairs
import Derived.Lib.AppendZerosOnto
import Derived.Lib.AppendStr
import Derived.Laws.CopyOwn
import Derived.OwnWalk
import Derived.Laws.Strings3
import Derived.Laws.Concat
import Derived.Lib.ItoaMem
import Derived.IntWalk
import Derived.Sort.Grow
import Derived.Lib.LaidTab
import Derived.LaidSub
import Derived.Laws.Bits64b
import Derived.Laws.RangeAny
import Derived.LoopTactic
import Derived.Deep.DeepCutAuto
import Derived.Deep.CutBlock
import Derived.Lib.ConvBytes
import Derived.Lib.FrozenHead2
namespace Go.Proofs.YteoadfckcilalaaGreatDoor
open Go.RowKit

theorem trimL_none : ∀ l : List UInt8, l.all (fun c => !blankB c) = true → trimL l = l := fun l h => by
  have hd : ∀ k : List UInt8, k.all (fun c => !blankB c) = true → k.dropWhile blankB = k := fun k hk => by
    cases k with
    | nil => rfl
    | cons a t =>
      rw [List.all_cons, Bool.and_eq_true] at hk
      have : blankB a = false := by simpa using hk.1
      rw [List.dropWhile_cons, this]; rfl
  have hr : rdrop blankB l = l := by
    unfold rdrop
    rw [hd l.reverse (by rw [List.all_reverse]; exact h), List.reverse_reverse]
  unfold trimL
  rw [hr, hd l h]
def hostF : Fld := (⟨#[72, 111, 115, 116]⟩, ⟨#[104]⟩)
def cohort : ByteArray := ⟨#[99, 111, 104, 111, 114, 116, 61]⟩
def cookF (s : ByteArray) : Fld := (⟨#[67, 111, 111, 107, 105, 101]⟩, cohort ++ s)
def expF : Fld := (⟨#[69, 120, 112, 101, 99, 116]⟩, ⟨#[49, 48, 48, 45, 99, 111, 110, 116, 105, 110, 117, 101]⟩)
def IdOk (s : ByteArray) : Prop := s.size = 16 ∧ s.data.toList.all hexOk = true
def RF1 (x : List Fld) : Prop := ∃ y, (∀ f ∈ y, SrcF f) ∧ y.length ≤ 3 ∧ x = y ++ [hostF]
def RF2 (x : List Fld) : Prop := RF1 x ∨ ∃ y s, RF1 y ∧ IdOk s ∧ x = y ++ [cookF s]
def RF3 (x : List Fld) : Prop := RF2 x ∨ ∃ y, RF2 y ∧ x = y ++ [expF]
theorem host_made : MadeF hostF := ⟨by decide +kernel, by decide, by decide⟩
theorem exp_made : MadeF expF := ⟨by decide +kernel, by decide, by decide⟩
theorem hex_byte {c : UInt8} (h : hexOk c = true) : valB c = true ∧ blankB c = false := by
  have hk : ∀ k : Fin 256, hexOk (UInt8.ofNat k.val) = true → valB (UInt8.ofNat k.val) = true ∧ blankB (UInt8.ofNat k.val) = false := by decide +kernel
  have := hk ⟨c.toNat, c.toNat_lt⟩
  simp only [UInt8.ofNat_toNat] at this
  exact this h
theorem cook_made {s : ByteArray} (h : IdOk s) : MadeF (cookF s) := by
  have hl : (cohort ++ s).data.toList = cohort.data.toList ++ s.data.toList := ba_app_list _ _
  have hv : valS (cohort ++ s) = true := by
    unfold valS visS
    have h1 : trimL (cohort ++ s).data.toList = (cohort ++ s).data.toList := trimL_none _ (by
      rw [hl, List.all_append]
      have : cohort.data.toList.all (fun c => !blankB c) = true := by decide
      rw [this, Bool.true_and, List.all_eq_true]
      intro c hc
      rw [(hex_byte (List.all_eq_true.1 h.2 c hc)).2]; rfl)
    have h2 : trimBA (cohort ++ s) = cohort ++ s := ba_ext (by rw [trimBA_list, h1])
    rw [h2]
    simp only [beq_self_eq_true, Bool.and_true]
    rw [hl, List.all_append]
    have : cohort.data.toList.all valB = true := by decide +kernel
    rw [this, Bool.true_and, List.all_eq_true]
    intro c hc
    exact (hex_byte (List.all_eq_true.1 h.2 c hc)).1
  refine ⟨?_, by show 6 ≤ 1000; decide, ?_⟩
  · show fldB _ _ = true
    unfold fldB
    rw [show valS (cookF s).2 = true from hv]
    show (tokS ⟨#[67, 111, 111, 107, 105, 101]⟩ && true) = true
    decide +kernel
  · show (cohort ++ s).size ≤ 1000
    rw [ByteArray.size_append, h.1]; decide
theorem RF1.made {x : List Fld} (h : RF1 x) : (∀ f ∈ x, MadeF f) ∧ x.length ≤ 4 := by
  obtain ⟨y, h1, h2, rfl⟩ := h
  refine ⟨fun f hf => ?_, by rw [List.length_append]; show _ + 1 ≤ 4; omega⟩
  rcases List.mem_append.1 hf with h | h
  · exact (h1 f h).made
  · obtain rfl := List.mem_singleton.1 h; exact host_made
theorem RF2.made {x : List Fld} (h : RF2 x) : (∀ f ∈ x, MadeF f) ∧ x.length ≤ 5 := by
  rcases h with h | ⟨y, s, h1, h2, rfl⟩
  · exact ⟨h.made.1, by have := h.made.2; omega⟩
  · refine ⟨fun f hf => ?_, by have := h1.made.2; rw [List.length_append]; show _ + 1 ≤ 5; omega⟩
    rcases List.mem_append.1 hf with h | h
    · exact h1.made.1 f h
    · obtain rfl := List.mem_singleton.1 h; exact cook_made h2
theorem RF3.made {x : List Fld} (h : RF3 x) : (∀ f ∈ x, MadeF f) ∧ x.length ≤ 6 := by
  rcases h with h | ⟨y, h1, rfl⟩
  · exact ⟨h.made.1, by have := h.made.2; omega⟩
  · refine ⟨fun f hf => ?_, by have := h1.made.2; rw [List.length_append]; show _ + 1 ≤ 6; omega⟩
    rcases List.mem_append.1 hf with h | h
    · exact h1.made.1 f h
    · obtain rfl := List.mem_singleton.1 h; exact exp_made

def methF : List ByteArray := [⟨#[71, 69, 84]⟩, ⟨#[71, 69, 84]⟩, ⟨#[80, 79, 83, 84]⟩, ⟨#[72, 69, 65, 68]⟩, ⟨#[80, 85, 84]⟩]
def targF : List ByteArray := [⟨#[47]⟩, ⟨#[47, 97, 63, 98]⟩, ⟨#[47, 114, 111, 108, 108, 111, 117, 116]⟩, ⟨#[47, 114, 101, 112, 111, 114, 116, 115]⟩]
theorem methF_ok : (methF.all fun s => tokS s && decide (s.size ≤ 1000)) = true := by decide +kernel
theorem targF_ok : (targF.all fun s => targetS s && decide (s.size ≤ 1000)) = true := by decide +kernel
theorem meth_at {s : ByteArray} (h : s ∈ methF) : tokS s = true ∧ s.size ≤ 1000 := by
  have := List.all_eq_true.1 methF_ok s h
  simpa using this
theorem targ_at {s : ByteArray} (h : s ∈ targF) : targetS s = true ∧ s.size ≤ 1000 := by
  have := List.all_eq_true.1 targF_ok s h
  simpa using this

/-- The request on the way: its variable at gr, the result's at q. -/
def RqSt (R : List Fld → Prop) (B g : Nat) (a : Option Addr) (n c : Nat) (w0 : World) (gr q : Nat) (m t : ByteArray) (w : World) : Prop :=
  ∃ z vF x, (z = 0 ∨ z = 1) ∧ w.heap[gr]? = some (.cells #[.string m, .string t, .int .i64 z, vF, .bool false, .slice none 0 0] 29 (0, 0)) ∧ OwnF B w vF x ∧ R x ∧
    Src w g a n c ∧ w0.grownBy w (some g) ∧ RVar w q ⟨#[]⟩ ⟨#[]⟩ 0
theorem RqSt.keep {R : List Fld → Prop} {B g : Nat} {a : Option Addr} {n c : Nat} {w0 : World} {gr q : Nat} {m t : ByteArray} {w w' : World} (h : RqSt R B g a n c w0 gr q m t w) (hb : Below w.heap.size w w') : RqSt R B g a n c w0 gr q m t w' := by
  obtain ⟨z, vF, x, h1, h2, h3, h5, h8, h9, h10⟩ := h
  exact ⟨z, vF, x, h1, by rw [hb.block gr (Array.getElem?_eq_some_iff.1 h2).1]; exact h2, h3.keep hb, h5, h8.keep hb, grownBy_trans h9 (grownBy_below hb), h10.keep hb⟩
theorem OwnF.mono {B B' : Nat} {w : World} {v : Value} {l : List Fld} (h : OwnF B w v l) (hb : B' ≤ B) : OwnF B' w v l := by
  obtain ⟨h1, h2⟩ := h
  refine ⟨h1, ?_⟩
  rcases h2 with h2 | ⟨g, cap, cur, hv, hg, hc, r⟩
  · exact .inl h2
  · exact .inr ⟨g, cap, cur, hv, Nat.le_trans hb hg, hc, r⟩
theorem Own.mono {B B' : Nat} {w : World} {v : Value} {l : List UInt8} (h : Own B w v l) (hb : B' ≤ B) : Own B' w v l := by
  obtain ⟨h1, h2⟩ := h
  refine ⟨h1, ?_⟩
  rcases h2 with h2 | ⟨g, cap, cur, hv, hg, hc, r⟩
  · exact .inl h2
  · exact .inr ⟨g, cap, cur, hv, Nat.le_trans hb hg, hc, r⟩
/-- What the blocks' numbers are to each other. -/
structure RqN (B g : Nat) (a : Option Addr) (n : Nat) (w0 : World) (gr q : Nat) : Prop where
  lo : g < w0.heap.size
  src : ∀ x, a = some x → 0 < n → x.block < w0.heap.size
  hq : q = w0.heap.size
  hgr : q < gr
  top : gr < B
theorem RqSt.next {R : List Fld → Prop} {B g : Nat} {a : Option Addr} {n c : Nat} {w0 : World} {gr q : Nat} {m t : ByteArray} {w w' : World} (h : RqSt R B g a n c w0 gr q m t w) (N : RqN B g a n w0 gr q) (hg : w.grownBy w' (some g)) (hs : Src w' g a n c) :
    RqSt R B g a n c w0 gr q m t w' := by
  obtain ⟨z, vF, x, h1, h2, h3, h5, h8, h9, h10⟩ := h
  have n1 := N.lo
  have n2 := N.hq
  have n3 := N.hgr
  have n4 := N.top
  refine ⟨z, vF, x, h1, ?_, h3.grown hg (fun k hk e => ?_), h5, hs, grownBy_trans h9 hg, ?_⟩
  · rw [hg.block gr (Array.getElem?_eq_some_iff.1 h2).1 (fun e => by have := Option.some.inj e; omega)]; exact h2
  · have := (h3.lt hk).1; have := Option.some.inj e; omega
  · exact (hg.block q (Array.getElem?_eq_some_iff.1 h10).1 (fun e => by have := Option.some.inj e; omega)).trans h10
theorem grownBy_setCell {w : World} {gr i : Nat} {v : Value} : w.grownBy (w.setCell ⟨gr, i, none⟩ v) (some gr) :=
  ⟨rfl, rfl, rfl, by simp [World.setCell], fun k _ hne => heap_setCell_other w ⟨gr, i, none⟩ k _ (fun e => hne (by rw [e]))⟩
theorem RqSt.put {R' : List Fld → Prop} {B g : Nat} {a : Option Addr} {n c : Nat} {w0 : World} {gr q : Nat} {m t : ByteArray} {w : World} (N : RqN B g a n w0 gr q) {z : Int} {vF : Value} {x : List Fld} {cs : Array Value} {i : Nat} {v : Value}
    (hz : z = 0 ∨ z = 1) (hrow : w.heap[gr]? = some (.cells cs 29 (0, 0))) (hcs : cs.setIfInBounds i v = #[.string m, .string t, .int .i64 z, vF, .bool false, .slice none 0 0]) (hF : OwnF B w vF x) (hR : R' x)
    (hS : Src w g a n c) (hG : w0.grownBy w (some g)) (hq : RVar w q ⟨#[]⟩ ⟨#[]⟩ 0) : RqSt R' B g a n c w0 gr q m t (w.setCell ⟨gr, i, none⟩ v) := by
  have n1 := N.lo
  have n2 := N.hq
  have n3 := N.hgr
  have n4 := N.top
  have hg : w.grownBy (w.setCell ⟨gr, i, none⟩ v) (some gr) := grownBy_setCell
  refine ⟨z, vF, x, hz, ?_, hF.grown hg (fun k hk e => ?_), hR, hS.other hg (by omega) (fun y e h0 => by have := N.src y e h0; omega), grownBy_new hG hg (fun j e => by have := Option.some.inj e; omega), ?_⟩
  · rw [← hcs]; exact heap_setCell_same w gr i cs 29 v hrow
  · have := (hF.lt hk).1; have := Option.some.inj e; omega
  · exact (heap_setCell_other w ⟨gr, i, none⟩ q _ (by show q ≠ gr; omega)).trans hq
/-- One field more: the variable, the source and the rest are as they were. -/
theorem RqSt.app {R' : List Fld → Prop} {B g : Nat} {a : Option Addr} {n c : Nat} {w0 : World} {gr q : Nat} {m t : ByteArray} {w w' : World} (N : RqN B g a n w0 gr q) {z : Int} {cs : Array Value} {v' : Value} {x' : List Fld} {row : Option Nat}
    (hz : z = 0 ∨ z = 1) (hrow : w.heap[gr]? = some (.cells cs 29 (0, 0))) (hcs : cs.setIfInBounds 3 v' = #[.string m, .string t, .int .i64 z, v', .bool false, .slice none 0 0]) (hr : ∀ k, row = some k → B ≤ k) (hg : w.grownBy w' row) (hF : OwnF B w' v' x') (hR : R' x')
    (hS : Src w g a n c) (hG : w0.grownBy w (some g)) (hq : RVar w q ⟨#[]⟩ ⟨#[]⟩ 0) : RqSt R' B g a n c w0 gr q m t (w'.setCell ⟨gr, 3, none⟩ v') := by
  have n1 := N.lo
  have n2 := N.hq
  have n3 := N.hgr
  have n4 := N.top
  refine RqSt.put N hz ?_ hcs hF hR (hS.grown hg (fun e => by have := hr g e.symm; omega) (fun y e h0 e2 => by have := hr _ e2.symm; have := N.src y e h0; omega)) (grownBy_new hG hg (fun j e => by have := hr j e; omega)) ?_
  · rw [hg.block gr (Array.getElem?_eq_some_iff.1 hrow).1 (fun e => by have := hr gr e.symm; omega)]; exact hrow
  · exact (hg.block q (Array.getElem?_eq_some_iff.1 hq).1 (fun e => by have := hr q e.symm; omega)).trans hq

/-- What Request makes. -/
def ReqMade (w : World) (g : Nat) (a : Option Addr) (n c : Nat) (e : Ending) (w' : World) : Prop :=
  ∃ m t z vF x fr vB l, e = .returned (.agg #[.string m, .string t, .int .i64 z, vF, .bool fr, vB]) ∧ m ∈ methF ∧ t ∈ targF ∧ (z = 0 ∨ z = 1) ∧ OwnF w.heap.size w' vF x ∧ Own w.heap.size w' vB l ∧
    RF3 x ∧ l.length ≤ 30 ∧ (fr = false → l = []) ∧ Src w' g a n c ∧ w.grownBy w' (some g)

end Go.Proofs.YteoadfckcilalaaGreatDoor
namespace Go.Proofs.YteoadfckcilalaaGreatDoor
open Go.RowKit

def Spec.nope : Spec := ⟨fun _ _ => False, fun _ _ _ h _ => h⟩
def Spec.ids (f : ByteArray → Value) : Spec := ⟨fun v _ => ∃ s, IdOk s ∧ v = f s, fun _ _ _ h _ => h⟩
def CookS (w : World) (v : Value) : Prop := ∃ s b c, IdOk s ∧ v = .slice (some ⟨b, 0, none⟩) 1 c ∧ w.cell? ⟨b, 0, none⟩ = some (.string (cookF s).1) ∧ w.cell? ⟨b, 1, none⟩ = some (.string (cookF s).2)
def Spec.cooks : Spec := ⟨fun v w => CookS w v, fun _ _ _ h hb => by
  obtain ⟨s, b, c, h1, h2, h3, h4⟩ := h
  exact ⟨s, b, c, h1, h2, below_cell hb h3, below_cell hb h4⟩⟩
def CookA (B : Nat) (x : List Fld) (w : World) (v : Value) : Prop := ∃ s, IdOk s ∧ OwnF B w v (x ++ [cookF s])
def Spec.capp (B : Nat) (x : List Fld) : Spec := ⟨fun v w => CookA B x w v, fun _ _ _ h hb => by
  obtain ⟨s, h1, h2⟩ := h
  exact ⟨s, h1, h2.keep hb⟩⟩
section
variable {Q : Exit → Act → World → Prop} {act : Act} {w : World} {o : Oper} {s : Spec} {K : Act → World → Prop}
theorem loc_slice1F {x : Operand} (ho : o.op = .buildSlice 27 1 #[(0, x)]) {f : Fld} (hx : act.eval x = .agg #[.string f.1, .string f.2]) (hs : ∀ w', w'.cell? ⟨w.heap.size, 0, none⟩ = some (.string f.1) → w'.cell? ⟨w.heap.size, 1, none⟩ = some (.string f.2) → s.p (.slice (some ⟨w.heap.size, 0, none⟩) 1 1) w') :
    o.wp Tryz.prog act w (fun a' w' => ∃ v, a' = act.put o.dst v ∧ Below w.heap.size w w' ∧ s.p v w') Q := by
  obtain ⟨i0, hi, hz0, hz1, hz2⟩ := info_parts Tryz.info88
  have hrun := run_buildSlice (P := Tryz.prog) w 27 88 1 #[(0, .agg #[.string f.1, .string f.2])] #[.string f.1, .string f.2] i0 _ Tryz.underlying27 hi hz0 (by rw [hz1]; decide) (by rw [hz1]; decide) (by rw [hz1]; simp [Instr.fill, Value.cells, Array.range_succ, show Array.range 0 = #[] from rfl])
  refine loc_run (v := .slice (some ⟨w.heap.size, 0, none⟩) 1 1) (w' := w.alloc (.cells #[.string f.1, .string f.2] 88)) ?_ (below_oneF _ _) (hs _ (by rw [new_cellF]; rfl) (by rw [new_cellF]; rfl))
  unfold execOp
  simp only [ho, List.map_toArray, List.map_cons, List.map_nil, hx]
  rw [Sem.run_bind, hrun]; rfl
theorem wp_append_oneF {x y : Operand} (ho : o.op = .call { callee := .builtin .append, args := #[x, y], argTypes := #[27, 27] }) {B : Nat} {l : List Fld} (hx : OwnF B w (act.eval x) l) {b c : Nat} {f : Fld} (hy : act.eval y = .slice (some ⟨b, 0, none⟩) 1 c)
    (h0 : w.cell? ⟨b, 0, none⟩ = some (.string f.1)) (h1 : w.cell? ⟨b, 1, none⟩ = some (.string f.2)) (hn : l.length + 1 ≤ 4398046511104) (hB : B ≤ w.heap.size)
    (h : ∀ v' w', OwnF B w' v' (l ++ [f]) → w.grownBy w' (act.eval x).ownBlock → K (act.put o.dst v') w') : o.wp Tryz.prog act w K Q := by
  obtain ⟨i0, hi, hz0, hz1, hz2⟩ := info_parts Tryz.info88
  refine wp_append_lies w x y 27 ho B 88 i0 _ 2 32 Tryz.underlying27 hi hz0 hz1 hz2 rfl (by decide) (act.eval x) l.length (cellsF l) rfl hx ⟨b, 0, none⟩ 1 c [.string f.1, .string f.2] hy rfl ?_ ?_ (by decide) (by unfold maxLen; omega) (by omega) hB w.heap.size rfl ?_
  · intro j u hj
    match j, hj with
    | 0, hj => simp at hj; subst hj; rw [Addr.add_lit]; exact h0
    | 1, hj => simp at hj; subst hj; rw [Addr.add_lit]; exact h1
    | j + 2, hj => simp at hj
  · intro u hu; simp at hu; rcases hu with rfl | rfl <;> rfl
  · intro g cap w' hown hgrow hg hlt
    refine h _ w' ?_ hgrow
    unfold OwnF
    rw [List.length_append, cellsF_app]; exact hown
theorem wp_store_slice {P : Program} {ty : TypeId} {x y : Operand} (ho : o.op = .store ty x y) {p : Addr} {sa : Option Addr} {sn sc : Nat} {u : Value} (hx : act.eval x = .pointer (some p)) (hy : act.eval y = .slice sa sn sc) (hi : (P.info? ty).map (·.size) = some 1)
    (hc : w.cell? p = some u) (hf : w.frozen? p = false) (h : K (act.put o.dst undef) (w.setCell p (.slice sa sn sc))) : o.wp P act w K Q := by
  have hz : (sizeOf ty).run P w = .ok 1 w := by
    cases hq : P.info? ty with
    | none => rw [hq] at hi; cases hi
    | some i => rw [hq] at hi; simp at hi; simp [sizeOf, typeInfo, hq, hi]
  unfold Oper.wp execOp
  simp_all [Instr.storeAt, Instr.sureAddr, storeVar, storeCells, Value.cells, go_sem]
theorem chain_call {f : FuncId} {args : List Operand} {ts : Array TypeId} {P : Program} (ho : o.op = .call { callee := .value (.func f), args := args.toArray, argTypes := ts })
    (hf : (P.funcs[f]?).map (fun fn => fn.name != "runtime.NumGoroutine" && fn.body.isSome) = some true) (h : Calls P f (args.map act.eval).toArray w fun e w' => ∃ v, e = .returned v ∧ K (act.put o.dst v) w') : o.wp P act w K Q := by
  have hrun : (execOp act.eval o).run P w = .ok (.enter f (args.map act.eval).toArray) w := by
    unfold execOp; rw [ho]
    cases hfn : P.funcs[f]? with
    | none => rw [hfn] at hf; cases hf
    | some fn =>
      rw [hfn] at hf
      simp only [Option.map_some, Option.some.injEq, Bool.and_eq_true, bne_iff_ne, ne_eq] at hf
      have hb : fn.body ≠ none := fun e => by rw [e] at hf; exact absurd hf.2 (by simp)
      simp [resolve, Deferred.ofValue, invoke, callFunc, show act.eval (.func f) = .func (.func f) #[] #[] from rfl, hfn, hf.1, hb]
  unfold Oper.wp
  rw [hrun, Oper.upon_enter]
  refine h.mono ?_
  rintro e w' ⟨v, rfl, hk⟩
  exact hk
end

theorem agg_fields (w : World) : (isAgg 27).run Tryz.prog w = .ok false w := by
  unfold isAgg; rw [Sem.run_bind, run_underlying Tryz.underlying27 w]; rfl
theorem RqSt.src {R : List Fld → Prop} {B g : Nat} {a : Option Addr} {n c : Nat} {w0 : World} {gr q : Nat} {m t : ByteArray} {w : World} (h : RqSt R B g a n c w0 gr q m t w) : Src w g a n c := by
  obtain ⟨_, _, _, _, _, _, _, h, _, _⟩ := h
  exact h
theorem RqSt.weaken {R R' : List Fld → Prop} {B g : Nat} {a : Option Addr} {n c : Nat} {w0 : World} {gr q : Nat} {m t : ByteArray} {w : World} (h : RqSt R B g a n c w0 gr q m t w) (hr : ∀ x, R x → R' x) : RqSt R' B g a n c w0 gr q m t w := by
  obtain ⟨z, vF, x, h1, h2, h3, h5, h⟩ := h
  exact ⟨z, vF, x, h1, h2, h3, hr x h5, h⟩
/-- The same with its parts named, within a region. -/
structure RqJ (g : Nat) (a : Option Addr) (n c : Nat) (w0 : World) (gr q : Nat) (m t : ByteArray) (z : Int) (vF : Value) (w : World) : Prop where
  row : w.heap[gr]? = some (.cells #[.string m, .string t, .int .i64 z, vF, .bool false, .slice none 0 0] 29 (0, 0))
  src : Src w g a n c
  grown : w0.grownBy w (some g)
  res : RVar w q ⟨#[]⟩ ⟨#[]⟩ 0
theorem RqJ.keep {g : Nat} {a : Option Addr} {n c : Nat} {w0 : World} {gr q : Nat} {m t : ByteArray} {z : Int} {vF : Value} {w w' : World} (h : RqJ g a n c w0 gr q m t z vF w) (hb : Below w.heap.size w w') : RqJ g a n c w0 gr q m t z vF w' :=
  ⟨by rw [hb.block gr (Array.getElem?_eq_some_iff.1 h.row).1]; exact h.row, h.src.keep hb, grownBy_trans h.grown (grownBy_below hb), h.res.keep hb⟩
theorem RqJ.next {B g : Nat} {a : Option Addr} {n c : Nat} {w0 : World} {gr q : Nat} {m t : ByteArray} {z : Int} {vF : Value} {w w' : World} (h : RqJ g a n c w0 gr q m t z vF w) (N : RqN B g a n w0 gr q) (hg : w.grownBy w' (some g)) (hs : Src w' g a n c) : RqJ g a n c w0 gr q m t z vF w' := by
  have n1 := N.lo
  have n2 := N.hq
  have n3 := N.hgr
  exact ⟨(hg.block gr (Array.getElem?_eq_some_iff.1 h.row).1 (fun e => by have := Option.some.inj e; omega)).trans h.row, hs, grownBy_trans h.grown hg, (hg.block q (Array.getElem?_eq_some_iff.1 h.res).1 (fun e => by have := Option.some.inj e; omega)).trans h.res⟩
theorem RqJ.app {B g : Nat} {a : Option Addr} {n c : Nat} {w0 : World} {gr q : Nat} {m t : ByteArray} {z : Int} {vF : Value} {row : Option Nat} {w w' : World} (h : RqJ g a n c w0 gr q m t z vF w) (N : RqN B g a n w0 gr q) (hg : w.grownBy w' row) (hr : ∀ k, row = some k → B ≤ k) : RqJ g a n c w0 gr q m t z vF w' := by
  have n1 := N.lo
  have n2 := N.hq
  have n3 := N.hgr
  have n4 := N.top
  exact ⟨(hg.block gr (Array.getElem?_eq_some_iff.1 h.row).1 (fun e => by have := hr _ e.symm; omega)).trans h.row, h.src.grown hg (fun e => by have := hr g e.symm; omega) (fun y e h0 e2 => by have := hr _ e2.symm; have := N.src y e h0; omega), grownBy_new h.grown hg (fun j e => by have := hr j e; omega), (hg.block q (Array.getElem?_eq_some_iff.1 h.res).1 (fun e => by have := hr q e.symm; omega)).trans h.res⟩

/-- The variable with its cells, and what is kept beside it. -/
structure RqK (B g : Nat) (a : Option Addr) (n c : Nat) (w0 : World) (gr q : Nat) (vF : Value) (x : List Fld) (cs : Array Value) (w : World) : Prop where
  row : w.heap[gr]? = some (.cells cs 29 (0, 0))
  own : OwnF B w vF x
  src : Src w g a n c
  grown : w0.grownBy w (some g)
  res : RVar w q ⟨#[]⟩ ⟨#[]⟩ 0
theorem RqK.set {B g : Nat} {a : Option Addr} {n c : Nat} {w0 : World} {gr q : Nat} {vF : Value} {x : List Fld} {cs : Array Value} {w : World} (h : RqK B g a n c w0 gr q vF x cs w) (N : RqN B g a n w0 gr q) (i : Nat) (v : Value) :
    RqK B g a n c w0 gr q vF x (cs.setIfInBounds i v) (w.setCell ⟨gr, i, none⟩ v) := by
  have n1 := N.lo
  have n2 := N.hq
  have n3 := N.hgr
  have n4 := N.top
  have hg : w.grownBy (w.setCell ⟨gr, i, none⟩ v) (some gr) := grownBy_setCell
  exact ⟨heap_setCell_same w gr i cs 29 v h.row, h.own.grown hg (fun k hk e => by have := (h.own.lt hk).1; have := Option.some.inj e; omega), h.src.other hg (by omega) (fun y e h0 => by have := N.src y e h0; omega), grownBy_new h.grown hg (fun j e => by have := Option.some.inj e; omega), (heap_setCell_other w ⟨gr, i, none⟩ q _ (by show q ≠ gr; omega)).trans h.res⟩
theorem RqK.next {B g : Nat} {a : Option Addr} {n c : Nat} {w0 : World} {gr q : Nat} {vF : Value} {x : List Fld} {cs : Array Value} {w w' : World} (h : RqK B g a n c w0 gr q vF x cs w) (N : RqN B g a n w0 gr q) (hg : w.grownBy w' (some g)) (hs : Src w' g a n c) : RqK B g a n c w0 gr q vF x cs w' := by
  have n1 := N.lo
  have n2 := N.hq
  have n3 := N.hgr
  have n4 := N.top
  exact ⟨(hg.block gr (Array.getElem?_eq_some_iff.1 h.row).1 (fun e => by have := Option.some.inj e; omega)).trans h.row, h.own.grown hg (fun k hk e => by have := (h.own.lt hk).1; have := Option.some.inj e; omega), hs, grownBy_trans h.grown hg, (hg.block q (Array.getElem?_eq_some_iff.1 h.res).1 (fun e => by have := Option.some.inj e; omega)).trans h.res⟩
theorem Own.set {B g i : Nat} {w : World} {v u : Value} {l : List UInt8} (h : Own B w v l) (hg : g < B) : Own B (w.setCell ⟨g, i, none⟩ u) v l :=
  h.grown grownBy_setCell (fun k hk e => by have := (h.lt hk).1; have := Option.some.inj e; omega)
def RqFin (B g : Nat) (a : Option Addr) (n c : Nat) (w0 : World) (gr q : Nat) (m t : ByteArray) (w : World) : Prop :=
  ∃ z vF x fr vB l, (z = 0 ∨ z = 1) ∧ RqK B g a n c w0 gr q vF x #[.string m, .string t, .int .i64 z, vF, .bool fr, vB] w ∧ Own B w vB l ∧ RF3 x ∧ l.length ≤ 30 ∧ (fr = false → l = [])

set_option maxRecDepth 100000 in
set_option maxHeartbeats 4000000 in
theorem srcReq_any (g : Nat) (a : Option Addr) (n c : Nat) (w : World) (h : Src w g a n c) :
    Calls Tryz.prog 21 #[.pointer (some ⟨g, 0, none⟩)] w (ReqMade w g a n c) := by
  have H0 := Box.mk h
  have HLOW := Box.mk h.low
  have hlt := h.lt
  clear h
  go_enter Tryz.func21, Tryz.ntmps21
  go_wp2_with fail
  obtain ⟨W, hW⟩ : ∃ W, W = (w.alloc (.cells #[.string ⟨#[]⟩, .string ⟨#[]⟩, .int .i64 0, .slice none 0 0, .bool false, .slice none 0 0] 29)).alloc (.cells (methF.map Value.string).toArray 9) := ⟨_, rfl⟩
  have HBW := Box.mk (show Below w.heap.size w W by rw [hW]; exact below_twoF (below_oneF w _) _)
  have HQ := Box.mk (show RVar W w.heap.size ⟨#[]⟩ ⟨#[]⟩ 0 by rw [hW]; exact (show RVar (w.alloc _) _ _ _ _ from heap_alloc_new _ _).keep (below_oneF _ _))
  have HL := Box.mk (show StrsIn W (some ⟨w.heap.size + 1, 0, none⟩) methF by
    have h1 := strsIn_newF (w.alloc (.cells #[.string ⟨#[]⟩, .string ⟨#[]⟩, .int .i64 0, .slice none 0 0, .bool false, .slice none 0 0] 29)) methF 9
    rw [World.size_alloc] at h1
    rw [hW]; exact h1)
  have HS := Box.mk (H0.out.keep HBW.out)
  change Calls _ _ _ ((w.alloc (.cells #[.string ⟨#[]⟩, .string ⟨#[]⟩, .int .i64 0, .slice none 0 0, .bool false, .slice none 0 0] 29)).alloc (.cells (methF.map Value.string).toArray 9)) _
  rw [← hW]
  clear hW
  refine (of_n g (w.heap.size + 1) 5 methF 5 a n c W HS.out HL.out (by omega) rfl (by decide) (by decide)).mono ?_
  rintro e w1 ⟨m, hm, rfl, hsrc, hg1⟩
  have HNM := Box.mk hm
  have HS1 := Box.mk hsrc
  have HG1 := Box.mk (show w.grownBy w1 (some g) from grownBy_trans (grownBy_below HBW.out) hg1)
  have HQ1 := Box.mk (show RVar w1 w.heap.size ⟨#[]⟩ ⟨#[]⟩ 0 from (hg1.block _ (Array.getElem?_eq_some_iff.1 HQ.out).1 (fun e => by have := Option.some.inj e; omega)).trans HQ.out)
  clear hm hsrc hg1 HS HL HQ HBW H0
  go_wp2_with fail
  obtain ⟨W, hW⟩ : ∃ W, W = w1.alloc (.cells (targF.map Value.string).toArray 9) := ⟨_, rfl⟩
  have HBW := Box.mk (show Below w1.heap.size w1 W by rw [hW]; exact below_oneF w1 _)
  have HL := Box.mk (show StrsIn W (some ⟨w1.heap.size, 0, none⟩) targF by rw [hW]; exact strsIn_newF w1 targF 9)
  have HS2 := Box.mk (HS1.out.keep HBW.out)
  have hlt1 := HS1.out.lt
  change Calls _ _ _ (w1.alloc (.cells (targF.map Value.string).toArray 9)) _
  rw [← hW]
  clear hW
  refine (of_n g w1.heap.size 4 targF 4 a n c W HS2.out HL.out (by omega) rfl (by decide) (by decide)).mono ?_
  rintro e w2 ⟨t, ht, rfl, hsrc, hg2⟩
  have HTM := Box.mk ht
  have HS3 := Box.mk hsrc
  have HG3 := Box.mk (show w.grownBy w2 (some g) from grownBy_trans HG1.out (grownBy_trans (grownBy_below HBW.out) hg2))
  have HQ3 := Box.mk (show RVar w2 w.heap.size ⟨#[]⟩ ⟨#[]⟩ 0 from (hg2.block _ (Array.getElem?_eq_some_iff.1 (HQ1.out.keep HBW.out)).1 (fun e => by have := Option.some.inj e; omega)).trans (HQ1.out.keep HBW.out))
  clear ht hsrc hg2 HS2 HL HQ1 HBW HS1 HG1
  have hgr := HG3.out.size
  have hq2 : w.heap.size < w2.heap.size := (Array.getElem?_eq_some_iff.1 HQ3.out).1
  go_wp2_with fail
  have HN := Box.mk (show RqN (w2.heap.size + 1) g a n w w2.heap.size w.heap.size from ⟨hlt, HLOW.out, rfl, hq2, Nat.lt_succ_self _⟩)
  have HST := Box.mk (show RqSt (fun x => x = []) (w2.heap.size + 1) g a n c w w2.heap.size w.heap.size m t (w2.alloc (.cells #[.string m, .string t, .int .i64 1, .slice none 0 0, .bool false, .slice none 0 0] 29)) from
    ⟨1, _, [], .inr rfl, heap_alloc_new _ _, OwnF.start _ _, rfl, HS3.out.keep (below_oneF _ _), grownBy_trans HG3.out (grownBy_below (below_oneF _ _)), HQ3.out.keep (below_oneF _ _)⟩)
  obtain ⟨W, hW⟩ : ∃ W, W = w2.alloc (.cells #[.string m, .string t, .int .i64 1, .slice none 0 0, .bool false, .slice none 0 0] 29) := ⟨_, rfl⟩
  have hgs : w2.heap.size < W.heap.size := by rw [hW, World.size_alloc]; omega
  have hsW := Box.mk (show Src W g a n c by rw [hW]; exact HS3.out.keep (below_oneF _ _))
  change Calls _ _ _ (w2.alloc (.cells #[.string m, .string t, .int .i64 1, .slice none 0 0, .bool false, .slice none 0 0] 29)) _
  rw [← hW] at HST ⊢
  clear hW HS3 HG3 HQ3
  generalize hgr0 : w2.heap.size = gr at *
  clear hgr0 hgr
  generalize hq0 : w.heap.size = q at *
  have HQ0 := Box.mk hq0
  clear hq0
  refine (next_any g 6 a n c W hsW.out (by decide) (by decide)).mono ?_
  rintro e w3 ⟨k, hk, rfl, hsrc, hg3⟩
  have HST3 := Box.mk (HST.out.next HN.out hg3 hsrc)
  clear hsrc hg3 hsW HST
  go_upto_if 13 with fail
  go_cut [] (fun wx => Box (RqSt (fun x => x = []) (gr + 1) g a n c w gr q m t wx))
  case first =>
    obtain ⟨z, vF, x, h1, h2, h3, h5, h8, h9, h10⟩ := HST3.out
    have H2 := Box.mk h2
    have HA := Box.mk (And.intro h3 (And.intro h8 (And.intro h9 h10)))
    have hf := frozen_of_row w3 gr 2 _ _ h2
    have hc2 : w3.cell? ⟨gr, 2, none⟩ = some (.int .i64 z) := by rw [cell_of_row _ _ _ _ _ _ h2]; rfl
    subst h5
    clear h1 h2 h3 h8 h9 h10
    by_cases hk0 : k = 0
    · have e0 : (((k : Nat) : Int) == 0) = true := by rw [hk0]; rfl
      clear hk0
      go_wp2_with fail
      go_meet
      exact ⟨RqSt.put HN.out (.inl rfl) H2.out rfl HA.out.1 rfl HA.out.2.1 HA.out.2.2.1 HA.out.2.2.2⟩
    · have e0 : (((k : Nat) : Int) == 0) = false := by rw [beq_eq_false_iff_ne]; omega
      clear hk0
      go_wp2_with fail
      go_meet
      exact HST3
  case rest =>
    obtain ⟨z, vF, x, h1, h2, h3, h5, h8, h9, h10⟩ := hcut.out
    have hgc : gr < wc.heap.size := (Array.getElem?_eq_some_iff.1 h2).1
    have HA := Box.mk (And.intro h1 (And.intro h2 (And.intro h8 (And.intro h9 h10))))
    clear h1 h2 h3 h5 h8 h9 h10 HST3 hcut
    go_wp2_with fail
    refine (srcFieldsS_any g 3 a n c wc HA.out.2.2.1 (by decide)).mono ?_
    rintro e w4 ⟨v4, y, rfl, hy, hyl, hyf, hsrc, hg4⟩
    have HY := Box.mk (hy.mono (show gr + 1 ≤ wc.heap.size from hgc))
    have HRF := Box.mk (show RF1 (y ++ [hostF]) from ⟨y, hyf, hyl, rfl⟩)
    have HROW := Box.mk ((hg4.block gr hgc (fun e => by have := Option.some.inj e; omega)).trans HA.out.2.1)
    have HQ4 := Box.mk (show RVar w4 q ⟨#[]⟩ ⟨#[]⟩ 0 from (hg4.block q (by omega) (fun e => by have := Option.some.inj e; omega)).trans HA.out.2.2.2.2)
    have HS4 := Box.mk hsrc
    have HG4 := Box.mk (grownBy_trans HA.out.2.2.2.1 hg4)
    have hsz4 := hg4.size
    have HZ := Box.mk HA.out.1
    clear hy hyf hsrc hg4 HA
    go_wp2_with (at_builtin; refine wpList_append_ownf _ rfl _ _ rfl rfl (HY.out.keep (below_oneF w4 (.cells #[.string hostF.1, .string hostF.2] 88))) rfl (y := hostF) ?c1 ?c2 (by omega) (by simp; omega) ?c3)
    case c1 => simp [hostF]
    case c2 => simp [hostF]
    case c3 =>
      intro v5 w5 hown hgrow
      obtain ⟨X, hX⟩ : ∃ X, y ++ [hostF] = X := ⟨_, rfl⟩
      rw [hX] at hown HRF
      clear hX
      have hb4 := below_oneF w4 (.cells #[.string hostF.1, .string hostF.2] 88)
      have HST6 := Box.mk (RqSt.app (R' := RF1) HN.out HZ.out ((hb4.block gr (Nat.lt_of_lt_of_le hgc hsz4)).trans HROW.out) rfl (fun k hk => (HY.out.lt hk).1) hgrow hown HRF.out (HS4.out.keep hb4) (grownBy_trans HG4.out (grownBy_below hb4)) (HQ4.out.keep hb4))
      have hrow := (hgrow.block gr (by rw [World.size_alloc]; omega) (fun e => by have := (HY.out.lt e.symm).1; omega)).trans ((hb4.block gr (Nat.lt_of_lt_of_le hgc hsz4)).trans HROW.out)
      have hf := frozen_of_row w5 gr 3 _ _ hrow
      have hc3 : w5.cell? ⟨gr, 3, none⟩ = some vF := by rw [cell_of_row _ _ _ _ _ _ hrow]; rfl
      obtain ⟨sa, sc, hv5, _, _⟩ := hown.shape
      subst hv5
      clear hown hgrow hrow hb4 HY HRF HROW HQ4 HS4 HG4 HZ
      go_wp2_with fail
      have hgc6 : gr < (w5.setCell ⟨gr, 3, none⟩ (.slice sa X.length sc)).heap.size := by
        obtain ⟨_, _, _, _, h2, _⟩ := HST6.out
        exact (Array.getElem?_eq_some_iff.1 h2).1
      clear hf hc3
      generalize w5.setCell ⟨gr, 3, none⟩ (.slice sa X.length sc) = W6 at *
      refine (next_any g 2 a n c W6 HST6.out.src (by decide) (by decide)).mono ?_
      rintro e w7 ⟨k2, hk2, rfl, hsrc, hg7⟩
      have HST7 := Box.mk (HST6.out.next HN.out hg7 hsrc)
      clear hsrc hg7 HST6 hgc6
      go_upto_if 23 with fail
      go_cut [] (fun wx => Box (RqSt RF2 (gr + 1) g a n c w gr q m t wx))
      case first =>
        by_cases hk0 : k2 = 0
        · have e0 : (((k2 : Nat) : Int) == 0) = true := by rw [hk0]; rfl
          clear hk0
          obtain ⟨z, vF, x, h1, h2, h3, h5, h8, h9, h10⟩ := HST7.out
          have HZ := Box.mk h1
          have HJ := Box.mk (show RqJ g a n c w gr q m t z vF w7 from ⟨h2, h8, h9, h10⟩)
          have HF := Box.mk h3
          have HR := Box.mk h5
          have hx4 := h5.made.2
          clear h1 h2 h3 h5 h8 h9 h10 HST7
          go_wp2_with fail
          rename_i J hJ _
          have hgw : gr < w7.heap.size := (Array.getElem?_eq_some_iff.1 HJ.out.row).1
          refine wp_region_phases [3, 7, 9] (fun p => match p with | 0 => [0, 1, 2] | 1 => [0, 1, 4, 5, 6] | 2 => [8] | _ => [])
            (fun p => match p with
              | 0 => [.val (.pointer (some ⟨gr, 3, none⟩)), .val vF, .val (.pointer (some ⟨g, 0, none⟩)), .nope, .nope, .nope, .nope, .nope, .nope, .any]
              | 1 => [.val (.pointer (some ⟨gr, 3, none⟩)), .val vF, .any, .ids (fun s => .string s), .ids (fun s => .string (cohort ++ s)), .ids (fun s => .agg #[.string (cookF s).1, .string (cookF s).2]), .cooks, .nope, .nope, .any]
              | 2 => [.any, .any, .any, .any, .any, .any, .any, .capp (gr + 1) x, .val (.pointer (some ⟨gr, 3, none⟩)), .any]
              | _ => [.any, .any, .any, .any, .any, .any, .any, .any, .any, .any])
            (fun p => match p with
              | 0 => fun wx => RqJ g a n c w gr q m t z vF wx ∧ OwnF (gr + 1) wx vF x ∧ gr < wx.heap.size
              | 1 => fun wx => RqJ g a n c w gr q m t z vF wx ∧ OwnF (gr + 1) wx vF x ∧ gr < wx.heap.size
              | 2 => fun wx => RqJ g a n c w gr q m t z vF wx
              | _ => fun wx => RqSt RF2 (gr + 1) g a n c w gr q m t wx)
            (by kernel_rfl) (by kernel_rfl) (by kernel_rfl) (by kernel_rfl) (by kernel_rfl) (by kernel_rfl) ?_ ⟨HJ.out, HF.out, hgw⟩ ?_ ?_ ?_
          · intro p w1 w2 h hb
            match p, h with
            | 0, h => exact ⟨h.1.keep hb, h.2.1.keep hb, Nat.lt_of_lt_of_le h.2.2 hb.size⟩
            | 1, h => exact ⟨h.1.keep hb, h.2.1.keep hb, Nat.lt_of_lt_of_le h.2.2 hb.size⟩
            | 2, h => exact RqJ.keep h hb
            | (_ + 3), h => exact RqSt.keep h hb
          · intro p hp
            match p, hp with
            | 0, _ =>
              refine ⟨?_, ?_, ?_, trivial⟩ <;> intro a1 w1 hv hf hd
              · exact ⟨wanted_none rfl, loc_fieldR rfl (hf.base 3 rfl) (by decide) rfl⟩
              · exact ⟨wanted_none rfl, loc_cell rfl (hd 0 rfl) (by rw [cell_of_row _ _ _ _ _ _ hv.1.row]; rfl) (agg_fields _) rfl⟩
              · exact ⟨wanted_none rfl, loc_move rfl (hf.base 0 rfl)⟩
            | 1, _ =>
              refine ⟨?_, ?_, ?_, ?_, ?_, trivial⟩ <;> intro a1 w1 hv hf hd
              · exact ⟨wanted_none rfl, loc_fieldR rfl (hf.base 3 rfl) (by decide) rfl⟩
              · exact ⟨wanted_none rfl, loc_cell rfl (hd 0 rfl) (by rw [cell_of_row _ _ _ _ _ _ hv.1.row]; rfl) (agg_fields _) rfl⟩
              · obtain ⟨s, hs, e⟩ := hd 3 rfl
                exact ⟨wanted_none rfl, loc_addS (b := cohort) rfl rfl e (by rw [hs.1]; decide) ⟨s, hs, rfl⟩⟩
              · obtain ⟨s, hs, e⟩ := hd 4 rfl
                exact ⟨wanted_none rfl, loc_buildF (b := (cookF s).1) (c := (cookF s).2) rfl rfl e ⟨s, hs, rfl⟩⟩
              · obtain ⟨s, hs, e⟩ := hd 5 rfl
                exact ⟨wanted_none rfl, loc_slice1F (f := cookF s) rfl e fun w' h0 h1 => ⟨s, _, _, hs, rfl, h0, h1⟩⟩
            | 2, _ =>
              refine ⟨?_, trivial⟩
              intro a1 w1 hv hf hd
              exact ⟨wanted_none rfl, loc_fieldR rfl (hf.base 3 rfl) (by decide) rfl⟩
            | 3, _ => exact trivial
          · intro p hp
            match p, hp with
            | 0, _ =>
              intro a2 w2 hv hf hd
              refine ⟨wanted_none rfl, chain_call rfl (by kernel_rfl) ?_⟩
              show Calls _ _ #[a2.eval (.tmp 26)] w2 _
              rw [show a2.eval (.tmp 26) = .pointer (some ⟨g, 0, none⟩) from hd 2 rfl]
              refine (srcID_any g a n c w2 hv.1.src).mono ?_
              rintro e w' ⟨s, rfl, h16, hhex, hsrc, hg⟩
              exact ⟨_, rfl, _, rfl, ⟨hv.1.next HN.out hg hsrc, hv.2.1.grown hg (fun k hk e => by have := (hv.2.1.lt hk).1; have := Option.some.inj e; omega), Nat.lt_of_lt_of_le hv.2.2 hg.size⟩, ⟨s, ⟨h16, hhex⟩, rfl⟩,
                ⟨.inr fun _ _ h => h, .inr fun _ _ h => h, .inr fun _ _ _ => trivial, .inl rfl, .inr fun _ _ h => h.elim, .inr fun _ _ h => h.elim, .inr fun _ _ h => h.elim, .inr fun _ _ h => h.elim, .inr fun _ _ h => h.elim, .inr fun _ _ _ => trivial, trivial⟩⟩
            | 1, _ =>
              intro a2 w2 hv hf hd
              have e25 : a2.eval (.tmp 25) = vF := hd 1 rfl
              obtain ⟨s, b, cb, hs, e30, h0, h1⟩ := hd 6 rfl
              refine ⟨wanted_none rfl, wp_append_oneF rfl (by show OwnF (gr + 1) w2 (a2.eval (.tmp 25)) x; rw [e25]; exact hv.2.1) e30 h0 h1 (by omega) hv.2.2 fun v' w3 hown hgrow => ?_⟩
              rw [show a2.eval (.tmp 25) = vF from e25] at hgrow
              exact ⟨v', rfl, hv.1.app HN.out hgrow (fun k hk => (hv.2.1.lt hk).1), ⟨s, hs, hown⟩,
                ⟨.inr fun _ _ _ => trivial, .inr fun _ _ _ => trivial, .inr fun _ _ _ => trivial, .inr fun _ _ _ => trivial, .inr fun _ _ _ => trivial, .inr fun _ _ _ => trivial, .inr fun _ _ _ => trivial, .inl rfl, .inr fun _ _ h => h.elim, .inr fun _ _ _ => trivial, trivial⟩⟩
            | 2, _ =>
              intro a2 w2 hv hf hd
              obtain ⟨s, hs, hown⟩ := hd 7 rfl
              obtain ⟨sa, sc, e31, _, _⟩ := hown.shape
              have e32 : a2.eval (.tmp 32) = .pointer (some ⟨gr, 3, none⟩) := hd 8 rfl
              refine ⟨wanted_none rfl, wp_store_slice (u := vF) rfl e32 e31 (by kernel_rfl) (by rw [cell_of_row _ _ _ _ _ _ hv.row]; rfl) (frozen_of_row w2 gr 3 _ _ hv.row) ?_⟩
              rw [e31] at hown
              exact ⟨undef, rfl, RqSt.put HN.out HZ.out hv.row rfl hown (.inr ⟨x, s, HR.out, hs, rfl⟩) hv.src hv.grown hv.res, trivial,
                ⟨.inr fun _ _ _ => trivial, .inr fun _ _ _ => trivial, .inr fun _ _ _ => trivial, .inr fun _ _ _ => trivial, .inr fun _ _ _ => trivial, .inr fun _ _ _ => trivial, .inr fun _ _ _ => trivial, .inr fun _ _ _ => trivial, .inr fun _ _ _ => trivial, .inl rfl, trivial⟩⟩
          · intro a2 w2 hv hf hh
            clear hh
            rw [fr_putAll hf]
            clear hf
            simp only [putAll]
            generalize a2.eval (.tmp 24) = u24
            generalize a2.eval (.tmp 25) = u25
            generalize a2.eval (.tmp 26) = u26
            generalize a2.eval (.tmp 27) = u27
            generalize a2.eval (.tmp 28) = u28
            generalize a2.eval (.tmp 29) = u29
            generalize a2.eval (.tmp 30) = u30
            generalize a2.eval (.tmp 31) = u31
            generalize a2.eval (.tmp 32) = u32
            clear a2
            simp only [Act.put, List.setIfInBounds_toArray, List.set_cons_succ, List.set_cons_zero]
            refine hJ _ _ ?_
            go_meet
            exact ⟨hv⟩
        · have e0 : (((k2 : Nat) : Int) == 0) = false := by rw [beq_eq_false_iff_ne]; omega
          clear hk0
          go_wp2_with fail
          go_meet
          exact ⟨HST7.out.weaken fun _ h => .inl h⟩
      case rest =>
        have HSTC := Box.mk hcut.out
        clear hcut HST7
        go_wp2_with fail
        refine (next_any g 5 a n c wc HSTC.out.src (by decide) (by decide)).mono ?_
        rintro e w8 ⟨k3, hk3, rfl, hsrc, hg8⟩
        have HST8 := Box.mk (HSTC.out.next HN.out hg8 hsrc)
        clear hsrc hg8 HSTC
        go_upto_if 35 with fail
        go_cut [] (fun wx => Box (RqSt RF3 (gr + 1) g a n c w gr q m t wx))
        case first =>
          by_cases hk0 : k3 = 0
          · have e0 : (((k3 : Nat) : Int) == 0) = true := by rw [hk0]; rfl
            clear hk0
            obtain ⟨z, vF, x, h1, h2, h3, h5, h8, h9, h10⟩ := HST8.out
            have hgw : gr < w8.heap.size := (Array.getElem?_eq_some_iff.1 h2).1
            have hb8 := below_oneF w8 (.cells #[.string expF.1, .string expF.2] 88)
            have hc3 : w8.cell? ⟨gr, 3, none⟩ = some vF := by rw [cell_of_row _ _ _ _ _ _ h2]; rfl
            have HA := Box.mk (And.intro h1 (And.intro h2 (And.intro h3 (And.intro h5 (And.intro h8 (And.intro h9 h10))))))
            have HB8 := Box.mk hb8
            have hx5 := h5.made.2
            clear h1 h2 h3 h5 h8 h9 h10 hb8 HST8
            go_wp2_with (at_builtin; refine wpList_append_ownf _ rfl _ _ rfl rfl (HA.out.2.2.1.keep HB8.out) rfl (y := expF) ?d1 ?d2 (by omega) (by simp; omega) ?d3)
            case d1 => simp [expF]
            case d2 => simp [expF]
            case d3 =>
              intro v9 w9 hown hgrow
              obtain ⟨X9, hX⟩ : ∃ X9, x ++ [expF] = X9 := ⟨_, rfl⟩
              have HRF9 := Box.mk (show RF3 X9 by rw [← hX]; exact .inr ⟨x, HA.out.2.2.2.1, rfl⟩)
              rw [hX] at hown
              clear hX
              have HST9 := Box.mk (RqSt.app (R' := RF3) HN.out HA.out.1 ((HB8.out.block gr hgw).trans HA.out.2.1) rfl (fun k hk => (HA.out.2.2.1.lt hk).1) hgrow hown HRF9.out (HA.out.2.2.2.2.1.keep HB8.out) (grownBy_trans HA.out.2.2.2.2.2.1 (grownBy_below HB8.out)) (HA.out.2.2.2.2.2.2.keep HB8.out))
              have hrow := (hgrow.block gr (by rw [World.size_alloc]; omega) (fun e => by have := (HA.out.2.2.1.lt e.symm).1; omega)).trans ((HB8.out.block gr hgw).trans HA.out.2.1)
              have hf := frozen_of_row w9 gr 3 _ _ hrow
              have hc3 : w9.cell? ⟨gr, 3, none⟩ = some vF := by rw [cell_of_row _ _ _ _ _ _ hrow]; rfl
              obtain ⟨sa9, sc9, hv9, _, _⟩ := hown.shape
              subst hv9
              clear hown hgrow hrow HA HRF9
              go_wp2_with fail
              go_meet
              exact HST9
          · have e0 : (((k3 : Nat) : Int) == 0) = false := by rw [beq_eq_false_iff_ne]; omega
            clear hk0
            go_wp2_with fail
            go_meet
            exact ⟨HST8.out.weaken fun _ h => .inl h⟩
        case rest =>
          have HSTC := Box.mk hcut.out
          clear hcut HST8
          go_wp2_with fail
          refine (next_any g 4 a n c wc HSTC.out.src (by decide) (by decide)).mono ?_
          rintro e wa ⟨k4, hk4, rfl, hsrc, hga⟩
          obtain ⟨z, vF, x, h1, h2, h3, h5, h8, h9, h10⟩ := HSTC.out.next HN.out hga hsrc
          have HK := Box.mk (show RqK (gr + 1) g a n c w gr q vF x #[.string m, .string t, .int .i64 z, vF, .bool false, .slice none 0 0] wa from ⟨h2, h3, h8, h9, h10⟩)
          have HZ := Box.mk h1
          have HR := Box.mk h5
          have hf4 := frozen_of_row wa gr 4 _ _ h2
          have hf5 := frozen_of_row wa gr 5 _ _ h2
          clear h1 h2 h3 h5 h8 h9 h10 hsrc hga HSTC
          go_upto_block 0 with fail
          go_cut [] (fun wx => Box (RqFin (gr + 1) g a n c w gr q m t wx))
          case first =>
            have hc4 : wa.cell? ⟨gr, 4, none⟩ = some (.bool false) := by rw [cell_of_row _ _ _ _ _ _ HK.out.row]; rfl
            have hc5 : wa.cell? ⟨gr, 5, none⟩ = some (.slice none 0 0) := by rw [cell_of_row _ _ _ _ _ _ HK.out.row]; rfl
            have hc2 : wa.cell? ⟨gr, 2, none⟩ = some (.int .i64 z) := by rw [cell_of_row _ _ _ _ _ _ HK.out.row]; rfl
            by_cases hk0 : k4 = 0
            · have e0 : (((k4 : Nat) : Int) == 0) = true := by rw [hk0]; rfl
              clear hk0 hf4 hf5 hc4 hc5 hc2
              go_wp2_with fail
              refine (srcBytes_any g 30 a n c wa HK.out.src (by decide)).mono ?_
              rintro e wb ⟨vB, l, rfl, hB, hl, hsrc, hgb⟩
              have HKB := Box.mk (HK.out.next HN.out hgb hsrc)
              have HBB := Box.mk (hB.mono (show gr + 1 ≤ wa.heap.size from (Array.getElem?_eq_some_iff.1 HK.out.row).1))
              clear hB hsrc hgb HK
              obtain ⟨sB, cB, hvB, _⟩ := HBB.out.val
              subst hvB
              have hf4 := frozen_of_row wb gr 4 _ _ HKB.out.row
              have hf5 := frozen_of_row wb gr 5 _ _ HKB.out.row
              have hc4 : wb.cell? ⟨gr, 4, none⟩ = some (.bool false) := by rw [cell_of_row _ _ _ _ _ _ HKB.out.row]; rfl
              have hc5 : wb.cell? ⟨gr, 5, none⟩ = some (.slice none 0 0) := by rw [cell_of_row _ _ _ _ _ _ HKB.out.row]; rfl
              go_wp2_with fail
              go_meet
              exact ⟨⟨z, vF, x, true, _, l, HZ.out, (HKB.out.set HN.out 4 _).set HN.out 5 _, (HBB.out.set (Nat.lt_succ_self _)).set (Nat.lt_succ_self _), HR.out, hl, fun h => by cases h⟩⟩
            · have e0 : (((k4 : Nat) : Int) == 0) = false := by rw [beq_eq_false_iff_ne]; omega
              by_cases hk1 : k4 = 1
              · have e1 : (((k4 : Nat) : Int) == 1) = true := by rw [hk1]; rfl
                clear hk0 hk1
                rcases HZ.out with rfl | rfl
                · go_wp2_with fail
                  go_meet
                  exact ⟨⟨0, vF, x, false, _, [], .inl rfl, (HK.out.set HN.out 4 _).set HN.out 5 _, Own.start _ _, HR.out, by decide, fun _ => rfl⟩⟩
                · have HK5 := Box.mk ((HK.out.set HN.out 4 (.bool true)).set HN.out 5 (.slice none 0 0))
                  go_wp2_with fail
                  generalize (wa.setCell ⟨gr, 4, none⟩ (.bool true)).setCell ⟨gr, 5, none⟩ (.slice none 0 0) = wq at *
                  refine (srcBytes_any g 30 a n c wq HK5.out.src (by decide)).mono ?_
                  rintro e wb ⟨vB, l, rfl, hB, hl, hsrc, hgb⟩
                  have HKB := Box.mk (HK5.out.next HN.out hgb hsrc)
                  have HBB := Box.mk (hB.mono (show gr + 1 ≤ wq.heap.size from (Array.getElem?_eq_some_iff.1 HK5.out.row).1))
                  clear hB hsrc hgb HK HK5 hf4 hf5 hc4 hc5 hc2
                  obtain ⟨sB, cB, hvB, _⟩ := HBB.out.val
                  subst hvB
                  have hf5 := frozen_of_row wb gr 5 _ _ HKB.out.row
                  have hc5 : wb.cell? ⟨gr, 5, none⟩ = some (.slice none 0 0) := by rw [cell_of_row _ _ _ _ _ _ HKB.out.row]; rfl
                  go_wp2_with fail
                  go_meet
                  exact ⟨⟨1, vF, x, true, _, l, .inr rfl, HKB.out.set HN.out 5 _, HBB.out.set (Nat.lt_succ_self _), HR.out, hl, fun h => by cases h⟩⟩
              · have e1 : (((k4 : Nat) : Int) == 1) = false := by rw [beq_eq_false_iff_ne]; omega
                clear hk0 hk1
                go_wp2_with fail
                go_meet
                exact ⟨⟨z, vF, x, false, _, [], HZ.out, HK.out, Own.start _ _, HR.out, by decide, fun _ => rfl⟩⟩
          case rest =>
            obtain ⟨z, vF, x, fr, vB, l, h1, hk, hB, hR, hl, hfr⟩ := hcut.out
            obtain ⟨sF, cF, hvF, _, _⟩ := hk.own.shape
            obtain ⟨sB, cB, hvB, _⟩ := hB.val
            subst hvF hvB
            have hrow := hk.row
            have hres := hk.res
            have HK2 := Box.mk hk
            have HB2 := Box.mk (And.intro hB (And.intro hR (And.intro hl hfr)))
            have HZ2 := Box.mk h1
            clear hk hB hR hl hfr h1 hcut HK HZ HR
            go_wp2_with (first | (refine wpList_load_row rfl 29 _ rfl gr rfl 29 _ (0, 0) _ hrow Tryz.underlying29 rfl sizeR ?_) | (refine wpList_store_row rfl 29 _ _ rfl q #[.string m, .string t, .int .i64 z, .slice sF x.length cF, .bool fr, .slice sB l.length cB] rfl rfl 29 _ hres sizeR rfl (by simp [Value.oneCell']) ?_))
            (try simp only [Exit.inBlock, Exit.then])
            refine bodyPost_ret (results_cell_row rfl _ _ q _ _ _ _ rfl (setRow_heap _ _ _ _ _ _ hres) Tryz.underlying29 rfl sizeR) rfl ?_
            have hnew := grownBy_setRowF wc q #[.string m, .string t, .int .i64 z, .slice sF x.length cF, .bool fr, .slice sB l.length cB]
            have hq9 := HQ0.out
            have n3 := HN.out.hgr
            exact ⟨m, t, z, _, x, fr, _, l, rfl, HNM.out, HTM.out, HZ2.out, (HK2.out.own.grown hnew (fun k hk e => by have := (HK2.out.own.lt hk).1; have := Option.some.inj e; omega)).mono (by omega), (HB2.out.1.grown hnew (fun k hk e => by have := (HB2.out.1.lt hk).1; have := Option.some.inj e; omega)).mono (by omega),
              HB2.out.2.1, HB2.out.2.2.1, HB2.out.2.2.2, HK2.out.src.other hnew (by omega) (fun y e h0 => by have := HLOW.out y e h0; omega), grownBy_new HK2.out.grown hnew (fun i e => by have := Option.some.inj e; omega)⟩
end Go.Proofs.YteoadfckcilalaaGreatDoor
namespace Go.Proofs.YteoadfckcilalaaGreatDoor
open Go.RowKit

/-- The block's frozen stretch lies behind its last cell, or there is none. -/
def NoFz (n : Nat) (fz : Nat × Nat) : Prop := fz.2 = 0 ∨ n ≤ fz.1
theorem noFz_frozen {w : World} {g i : Nat} {cur : Array Value} {t : TypeId} {fz : Nat × Nat} (hg : w.heap[g]? = some (.cells cur t fz)) (hf : NoFz cur.size fz) (hi : i < cur.size) : w.frozen? ⟨g, i, none⟩ = false := by
  obtain ⟨lo, hi'⟩ := fz
  simp only [World.frozen?, hg, Bool.and_eq_false_iff, decide_eq_false_iff_not]
  rcases hf with h | h
  · right; simp only at h; omega
  · left; simp only at h; omega
theorem run_storeCells_atM (P : Program) (g o : Nat) (t : TypeId) (fz : Nat × Nat) : ∀ (vs : List Value) (i : Nat) (cur : Array Value) (w : World), w.heap[g]? = some (.cells cur t fz) → NoFz cur.size fz → o + i + vs.length ≤ cur.size → (∀ v ∈ vs, v.oneCell' = true) →
    (storeCells ⟨g, o, none⟩ vs i).run P w = .ok () (w.setRow g (cur.toList.take (o + i) ++ vs ++ cur.toList.drop (o + i + vs.length)).toArray)
  | [], i, cur, w, hg, _, _, _ => by
    simp only [storeCells, List.append_nil, List.length_nil, Nat.add_zero, List.take_append_drop, Array.toArray_toList]
    rw [setRow_self w g cur t fz hg]
    rfl
  | v :: rest, i, cur, w, hg, hfz, hl, h1 => by
    have hi : o + i < cur.size := by simp at hl; omega
    have hadd : (⟨g, o, none⟩ : Addr).add i = ⟨g, o + i, none⟩ := by unfold Addr.add; split <;> simp_all
    have hcell : w.cell? ⟨g, o + i, none⟩ = some cur[o + i] := by simp [World.cell?, hg, hi]
    have hfro : w.frozen? ⟨g, o + i, none⟩ = false := noFz_frozen hg hfz hi
    have hst : (store ((⟨g, o, none⟩ : Addr).add i) v).run P w = .ok () (w.setRow g (cur.setIfInBounds (o + i) v)) := by
      rw [hadd, run_store P w _ v _ (h1 v (by simp)), hcell]
      simp [hfro, setCell_eq_setRow w g (o + i) cur t fz v hg]
    have ih := run_storeCells_atM P g o t fz rest (i + 1) (cur.setIfInBounds (o + i) v) (w.setRow g (cur.setIfInBounds (o + i) v)) (setRow_heap w g cur _ t _ hg) (by rw [Array.size_setIfInBounds]; exact hfz) (by simp at hl ⊢; omega) (fun x hx => h1 x (by simp [hx]))
    simp only [storeCells, Sem.run_bind, hst, Result.andThen_ok, ih, setRow_setRow]
    congr 3
    have e := list_seg_step cur.toList (o + i) v rest (by simp at hl ⊢; omega)
    simpa [Array.toList_setIfInBounds, Nat.add_assoc] using e
/-- v is a slice with the bytes l in a block of its own, at B or beyond; the block may bear a conversion's mark. -/
def OwnM (B : Nat) (w : World) (v : Value) (l : List UInt8) : Prop :=
  ∃ g cap cur fz, v = .slice (some ⟨g, 0, none⟩) l.length cap ∧ B ≤ g ∧ w.heap[g]? = some (.cells cur 5 fz) ∧ NoFz cur.size fz ∧ l.length ≤ cap ∧ cap ≤ maxLen ∧ cur.size = cap ∧ cur.toList.take l.length = bytesV l
theorem OwnM.lt {B : Nat} {w : World} {v : Value} {l : List UInt8} (h : OwnM B w v l) {k : Nat} (hk : v.ownBlock = some k) : B ≤ k ∧ k < w.heap.size := by
  obtain ⟨g, cap, cur, fz, rfl, hb, hg, _⟩ := h
  obtain rfl : g = k := Option.some.inj hk
  exact ⟨hb, (Array.getElem?_eq_some_iff.1 hg).1⟩
theorem OwnM.same {B : Nat} {w w' : World} {v : Value} {l : List UInt8} (h : OwnM B w v l) (hs : ∀ k, v.ownBlock = some k → w'.heap[k]? = w.heap[k]?) : OwnM B w' v l := by
  obtain ⟨g, cap, cur, fz, hv, hb, hg, r⟩ := h
  exact ⟨g, cap, cur, fz, hv, hb, by rw [hs g (by rw [hv]; rfl)]; exact hg, r⟩
theorem OwnM.keep {B : Nat} {w w' : World} {v : Value} {l : List UInt8} (h : OwnM B w v l) (hb : Below w.heap.size w w') : OwnM B w' v l :=
  h.same fun k hk => hb.block k (h.lt hk).2
theorem OwnM.grown {B : Nat} {w w' : World} {v : Value} {l : List UInt8} {row : Option Nat} (h : OwnM B w v l) (hg : w.grownBy w' row) (hne : ∀ k, v.ownBlock = some k → some k ≠ row) : OwnM B w' v l :=
  h.same fun k hk => hg.block k (h.lt hk).2 (hne k hk)
theorem OwnM.low {B B' : Nat} {w : World} {v : Value} {l : List UInt8} (h : OwnM B w v l) (hB : B' ≤ B) : OwnM B' w v l := by
  obtain ⟨g, cap, cur, fz, hv, hb, r⟩ := h
  exact ⟨g, cap, cur, fz, hv, Nat.le_trans hB hb, r⟩
theorem OwnM.form {B : Nat} {w : World} {v : Value} {l : List UInt8} (h : OwnM B w v l) : ∃ g c, v = .slice (some ⟨g, 0, none⟩) l.length c ∧ l.length ≤ c ∧ IsBytes w (some ⟨g, 0, none⟩) l c := by
  obtain ⟨g, cap, cur, fz, rfl, hb, hg, hf, h1, h2, h3, ht⟩ := h
  refine ⟨g, cap, rfl, h1, .inr ⟨_, rfl, h1, h2, fun j hj => ?_⟩⟩
  have e : cur.toList[j]? = some (Value.int .u8 (l[j].toNat : Int)) := by
    have := congrArg (fun x => x[j]?) ht
    simp only [bytesV] at this
    rw [List.getElem?_take_of_lt hj, List.getElem?_map, List.getElem?_eq_getElem hj] at this
    exact this
  rw [Addr.add_lit]
  simp only [World.cell?, hg, Nat.zero_add]
  simpa using e
theorem OwnM.conv (w : World) (s : ByteArray) (hs : s.size ≤ 4000000000) : OwnM w.heap.size (Lib.bytesWorld w 5 s) (.slice (some ⟨w.heap.size, 0, none⟩) s.size (grownCap w s.size 0 5)) s.data.toList := by
  have hge := grownCap_ge w s.size 0 5
  have hz : (Lib.bytesCells w 5 s).size = grownCap w s.size 0 5 := by
    unfold Lib.bytesCells
    rw [Array.size_append, Array.size_map, Array.size_replicate]
    have : s.data.size = s.size := rfl
    omega
  have el : s.data.toList.length = s.size := by rw [Array.length_toList]; rfl
  refine ⟨w.heap.size, _, _, _, by rw [el], Nat.le_refl _, Lib.bytesWorld_at_new w 5 s, .inr (Nat.le_refl _), by rw [el]; exact hge, grownCap_le_maxLen w s.size 0 5 (by unfold maxLen; omega), hz, ?_⟩
  unfold Lib.bytesCells
  rw [Array.toList_append, el, List.take_left' (by rw [Array.length_toList, Array.size_map]; rfl), Array.toList_map]
  rfl
set_option maxRecDepth 100000 in
theorem ownM_slice (w : World) (ty : TypeId) {B : Nat} {v : Value} {l : List UInt8} (h : OwnM B w v l) {a : Option Addr} {r : List UInt8} {c : Nat} (hr : IsBytes w a r c) (hn : l.length + r.length ≤ 1000000000) (hB : B ≤ w.heap.size) :
    ∃ v' w', (Builtin.append_ #[23, 23] ty #[v, .slice a r.length c]).run Tryz.prog w = .ok v' w' ∧ OwnM B w' v' (l ++ r) ∧ w.grownBy w' v.ownBlock ∧ (v'.ownBlock = v.ownBlock ∨ v'.ownBlock = some w.heap.size) := by
  obtain ⟨i0, hi, hz0, hz1, hz2⟩ := info_parts Tryz.info5
  obtain ⟨g, cap, cur, fz, rfl, hb, hg, hf, h1, h2, h3, ht⟩ := h
  have el : (l ++ r).length = l.length + r.length := List.length_append
  have ev : bytesV (l ++ r) = bytesV l ++ bytesV r := by unfold bytesV; rw [List.map_append]
  rcases hr with ⟨rfl, rfl, rfl⟩ | ⟨ad, rfl, hr1, hr2, hr3⟩
  · refine ⟨.slice (some ⟨g, 0, none⟩) l.length cap, w, ?_, by rw [List.append_nil]; exact ⟨g, cap, cur, fz, rfl, hb, hg, hf, h1, h2, h3, ht⟩, ⟨rfl, rfl, rfl, Nat.le_refl _, fun _ _ _ => rfl⟩, .inl rfl⟩
    simp [Builtin.append_, run_underlying Tryz.underlying23, sizeOf, typeInfo, hi, Builtin.lenOf, Builtin.firstCells, loadCells, h1, storeCells]
  · have hnews : ∀ j u, (bytesV r)[j]? = some u → w.cell? (ad.add j) = some u := by
      intro j u hj
      unfold bytesV at hj
      rw [List.getElem?_map] at hj
      obtain ⟨c', hc', rfl⟩ := Option.map_eq_some_iff.1 hj
      obtain ⟨hlt, rfl⟩ := List.getElem?_eq_some_iff.1 hc'
      exact hr3 j hlt
    have hone : ∀ u ∈ bytesV r, u.oneCell' = true := by
      intro u hu
      unfold bytesV at hu
      obtain ⟨c', _, rfl⟩ := List.mem_map.1 hu
      rfl
    by_cases hroom : l.length + r.length ≤ cap
    · have hf1 := run_firstCells_some (P := Tryz.prog) w i0.size r.length ad r.length c (bytesV r) (by rw [hz1, bytesV_len, Nat.mul_one]) hnews
      have hst := run_storeCells_atM Tryz.prog g l.length 5 fz (bytesV r) 0 cur w hg hf (by rw [bytesV_len]; omega) hone
      simp only [Nat.add_zero, bytesV_len] at hst
      rw [hz1] at hf1
      have hr : (Builtin.append_ #[23, 23] ty #[.slice (some ⟨g, 0, none⟩) l.length cap, .slice (some ad) r.length c]).run Tryz.prog w = .ok (.slice (some ⟨g, 0, none⟩) (l.length + r.length) cap) (w.setRow g (cur.toList.take l.length ++ bytesV r ++ cur.toList.drop (l.length + r.length)).toArray) := by
        simp [Builtin.append_, run_underlying Tryz.underlying23, sizeOf, typeInfo, hi, hz1, Builtin.lenOf, hroom, hf1, Addr.add_lit, hst]
      have hcz : ((cur.toList.take l.length ++ bytesV r ++ cur.toList.drop (l.length + r.length)).toArray).size = cur.size := by
        simp only [List.size_toArray, List.length_append, List.length_take, List.length_drop, Array.length_toList, bytesV_len]
        omega
      refine ⟨_, _, hr, ⟨g, cap, _, fz, by rw [el], hb, setRow_heap w g cur _ _ _ hg, by rw [hcz]; exact hf, by rw [el]; exact hroom, h2, by rw [hcz]; exact h3, ?_⟩, ⟨rfl, rfl, rfl, by simp, fun k _ hk => setRow_other w g k _ (fun e => hk (by simp [Value.ownBlock, e]))⟩, .inl rfl⟩
      rw [ht, ev, el]
      have e9 : l.length + r.length = (bytesV l ++ bytesV r).length := by rw [List.length_append, bytesV_len, bytesV_len]
      rw [e9]
      exact List.take_left
    · have holds : ∀ j u, (bytesV l)[j]? = some u → w.cell? ((⟨g, 0, none⟩ : Addr).add j) = some u := by
        intro j u hu
        rw [Addr.add_lit, Nat.zero_add, cell_of_row w g j cur _ _ hg]
        rw [← ht, List.getElem?_take] at hu
        split at hu
        · simpa using hu
        · cases hu
      have hr := run_append_grow (P := Tryz.prog) w 23 ty 5 i0 (.int .u8 0) Tryz.underlying23 hi hz0 ⟨g, 0, none⟩ l.length cap (bytesV l) (by rw [hz1, bytesV_len, Nat.mul_one]) holds ad r.length c (bytesV r) (by rw [hz1, bytesV_len, Nat.mul_one]) hnews (by omega) (by omega) (by rw [hz2]; exact growslice_fits (by omega) (by omega))
      have hge := grownCap_ge w (l.length + r.length) cap 5
      have hcm : grownCap w (l.length + r.length) cap 5 ≤ maxLen := grownCap_le_maxLen w _ cap _ (by unfold maxLen; omega)
      refine ⟨_, _, hr, ⟨w.heap.size, _, _, (0, 0), by rw [el], hB, heap_alloc_new w.drew _, .inl rfl, by rw [el]; exact hge, hcm, ?_, ?_⟩, ⟨rfl, rfl, rfl, by simp, fun k hk _ => heap_alloc_old w.drew _ hk⟩, .inr rfl⟩
      · have hzz : (Value.int IntKind.u8 0).cells.size = 1 := rfl
        simp only [Array.size_append, List.size_toArray, size_zeroCells, hzz, bytesV_len]
        omega
      · simp only [Array.toList_append, List.append_assoc]
        rw [← List.append_assoc, ev, el]
        have e9 : l.length + r.length = (bytesV l ++ bytesV r).length := by rw [List.length_append, bytesV_len, bytesV_len]
        rw [e9]
        exact List.take_left
section
variable {ops : Array Oper} {rest : List Oper} {o : Oper} {act : Act} {Q : Exit → Act → World → Prop}
theorem wpList_append_mb (w : World) (hgd : o.guard = none) (s x : Operand) (ho : o.op = .call { callee := .builtin .append, args := #[s, x], argTypes := #[23, 23] })
    {B : Nat} {v : Value} {l : List UInt8} (hs : act.eval s = v) (h : OwnM B w v l) {a : Option Addr} {r : List UInt8} {c : Nat} (hx : act.eval x = .slice a r.length c) (hr : IsBytes w a r c) (hn : l.length + r.length ≤ 1000000000) (hB : B ≤ w.heap.size)
    (K : ∀ v' w', OwnM B w' v' (l ++ r) → w.grownBy w' v.ownBlock → (v'.ownBlock = v.ownBlock ∨ v'.ownBlock = some w.heap.size) → wpList Tryz.prog ops Q rest (act.put o.dst v') w') : wpList Tryz.prog ops Q (o :: rest) act w := by
  refine wpList_plain hgd fun K2 hK => ?_
  obtain ⟨v', w', hr', h2, h3, h4⟩ := ownM_slice w o.type h hr hn hB
  unfold Oper.wp execOp
  simp only [ho, resolve, invoke, builtin, Sem.run_bind, Sem.run_pure, Result.andThen_ok, List.map_toArray, List.map_cons, List.map_nil, hs, hx, hr']
  exact hK _ _ (K v' w' h2 h3 h4)
end
end Go.Proofs.YteoadfckcilalaaGreatDoor
namespace Go.Proofs.YteoadfckcilalaaGreatDoor
open Go.RowKit

theorem namesF_small : (namesF.all fun s => decide (s.size ≤ 20)) = true := by decide +kernel
theorem valsF_small : (valsF.all fun s => decide (s.size ≤ 40)) = true := by decide +kernel
def TinyX (x : List Fld) : Prop := ∀ f ∈ x, f.1.size + f.2.size ≤ 60
theorem SrcF.tiny {f : Fld} (h : SrcF f) : f.1.size + f.2.size ≤ 60 := by
  obtain ⟨s, hs, v, hv, rfl⟩ := h
  have h1 := of_decide_eq_true (List.all_eq_true.1 namesF_small s hs)
  have h2 := of_decide_eq_true (List.all_eq_true.1 valsF_small v hv)
  have h3 := trimBA_size v
  show s.size + (trimBA v).size ≤ 60
  omega
theorem tiny_app {x : List Fld} {f : Fld} (h : TinyX x) (hf : f.1.size + f.2.size ≤ 60) : TinyX (x ++ [f]) := fun k hk => by
  rcases List.mem_append.1 hk with h1 | h1
  · exact h k h1
  · obtain rfl := List.mem_singleton.1 h1; exact hf
theorem RF1.tiny {x : List Fld} (h : RF1 x) : TinyX x := by
  obtain ⟨y, h1, _, rfl⟩ := h
  exact tiny_app (fun f hf => (h1 f hf).tiny) (by decide)
theorem RF2.tiny {x : List Fld} (h : RF2 x) : TinyX x := by
  rcases h with h | ⟨y, s, h1, h2, rfl⟩
  · exact h.tiny
  · refine tiny_app h1.tiny ?_
    show (6 : Nat) + (cohort ++ s).size ≤ 60
    rw [ByteArray.size_append, h2.1]; decide
theorem RF3.tiny {x : List Fld} (h : RF3 x) : TinyX x := by
  rcases h with h | ⟨y, h1, rfl⟩
  · exact h.tiny
  · exact tiny_app h1.tiny (by decide)
theorem linesB_tiny : ∀ (x : List Fld), TinyX x → (linesB x).length ≤ 64 * x.length
  | [], _ => by simp [linesB]
  | f :: x, h => by
    have h1 := linesB_tiny x fun k hk => h k (List.mem_cons_of_mem _ hk)
    have h2 := h f (List.mem_cons_self ..)
    unfold linesB at *
    rw [List.flatMap_cons, List.length_append, lineB_len, List.length_cons]
    omega
theorem TinyX.small {x : List Fld} (h : TinyX x) : SmallF x := fun f hf => by
  have := h f hf
  omega
theorem fmtS10_one {z : Int} (h : z = 0 ∨ z = 1) : (fmtS 10 z).size ≤ 1 := by
  rcases h with rfl | rfl
  · decide +kernel
  · decide +kernel
theorem methF_tiny : (methF.all fun s => decide (s.size ≤ 4)) = true := by decide +kernel
theorem targF_tiny : (targF.all fun s => decide (s.size ≤ 8)) = true := by decide +kernel
theorem fmtReq_made {m t : ByteArray} {z : Int} (hm : m ∈ methF) (ht : t ∈ targF) (hz : z = 0 ∨ z = 1) : 0 < (fmtReq m t z).size ∧ (fmtReq m t z).size ≤ 40 := by
  have h1 := of_decide_eq_true (List.all_eq_true.1 methF_tiny m hm)
  have h2 := of_decide_eq_true (List.all_eq_true.1 targF_tiny t ht)
  have h3 := fmtS10_one hz
  have h4 := (meth_at hm).1
  have h5 := (targ_at ht).1
  unfold fmtReq
  rw [if_pos ⟨h4, h5, by omega, by omega⟩]
  simp only [ByteArray.size_append]
  have e1 : http1.size = 8 := rfl
  have e2 : (⟨#[32]⟩ : ByteArray).size = 1 := rfl
  omega
theorem below_convH (w : World) (e : TypeId) (s : ByteArray) : Below w.heap.size w (Lib.bytesWorld w e s) :=
  ⟨rfl, rfl, rfl, by rw [Lib.bytesWorld_size]; omega, fun k hk => Lib.bytesWorld_at_old w e s k hk⟩
theorem RetHd.own {w w' : World} {l : List UInt8} {e : Ending} (h : RetHd w l e w') (h0 : 0 < l.length) (h1 : l.length ≤ 4000000000) : ∃ v, e = .returned v ∧ OwnM w.heap.size w' v l ∧ Below w.heap.size w w' := by
  rcases h with ⟨rfl, _⟩ | ⟨W, s, rfl, _, rfl, rfl, hb⟩
  · simp at h0
  · refine ⟨_, rfl, (OwnM.conv W s ?_).low hb.size, below_trans hb (below_convH W _ s)⟩
    rw [Array.length_toList] at h1
    exact h1
section
variable {Q : Exit → Act → World → Prop} {act : Act} {w : World} {o : Oper} {s : Spec} {K : Act → World → Prop}
theorem sizeOf_u8H (w : World) : (sizeOf 5).run Tryz.prog w = .ok 1 w := by
  obtain ⟨i0, hi, hz0, hz1, hz2⟩ := info_parts Tryz.info5
  simp [sizeOf, typeInfo, hi, hz1]
theorem loc_uptoH {x y : Operand} (ho : o.op = .slice 23 x none (some y) none) {ad : Option Addr} {n c k : Nat} (hx : act.eval x = .slice ad n c) (hy : act.eval y = .int .i64 k) (hk : k ≤ n) (hc : n ≤ c) (hs : s.p (.slice ad k c) w) :
    o.wp Tryz.prog act w (fun a' w' => ∃ v, a' = act.put o.dst v ∧ Below w.heap.size w w' ∧ s.p v w') Q := by
  have es : (sizeOf (Tryz.prog.elem 23)).run Tryz.prog w = .ok 1 w := by rw [show Tryz.prog.elem 23 = 5 by kernel_rfl]; exact sizeOf_u8H w
  refine loc_run (v := .slice ad k c) ?_ (Below.refl _ _) hs
  have hrun : (Instr.sliceAt 23 (.slice ad n c) none (some (.int .i64 (k : Int))) none).run Tryz.prog w = .ok (.slice ad k c) w := by
    rw [run_sliceAt_slice w 23 _ _ _ _ (by kernel_rfl), run_slice_h w 23 _ _ _ (by kernel_rfl) .i64 (k : Int) (by omega) (by omega), es]
    have ha : Option.map (fun x : Addr => x.add 0) ad = ad := by cases ad <;> simp [Addr.add]
    simp [Result.andThen, sliced, ha]
  unfold execOp
  simp only [ho, hx, hy, Option.map_some, Option.map_none, Sem.run_bind, hrun, Result.andThen_ok, Sem.run_pure]
end
end Go.Proofs.YteoadfckcilalaaGreatDoor
namespace Go.Proofs.YteoadfckcilalaaGreatDoor
open Go.RowKit

set_option maxRecDepth 100000 in
set_option maxHeartbeats 2000000 in
theorem projFormatRep_any (st : Int) (r : ByteArray) (z : Int) (fa ba : Option Addr) (fn fc bn bc : Nat) (w : World) (hr : r.size ≤ 1000000000) (ht : Tabs w) :
    Calls Tryz.prog 73 #[.agg #[.int .i64 st, .string r, .int .i64 z, .slice fa fn fc, .slice ba bn bc]] w fun e w' => e = .returned (.string (fmtRep st r z)) ∧ Below w.heap.size w w' := by
  have HB0 := Box.mk (below_oneF w (.cells #[.int .i64 st, .string r, .int .i64 z, .slice fa fn fc, .slice ba bn bc] 31))
  have HRow := Box.mk (show (w.alloc (.cells #[.int .i64 st, .string r, .int .i64 z, .slice fa fn fc, .slice ba bn bc] 31)).heap[w.heap.size]? = some (.cells #[.int .i64 st, .string r, .int .i64 z, .slice fa fn fc, .slice ba bn bc] 31 (0, 0)) from heap_alloc_new _ _)
  have HT := Box.mk ht
  clear ht
  by_cases h3 : 0 ≤ z ∧ z ≤ 1
  · have hz8 := versionS_size h3.1 h3.2
    have hne := isEmpty_no (s := versionS z) (by omega)
    by_cases h1 : statB st = true
    · have h100 : 100 ≤ st ∧ st ≤ 599 := by unfold statB at h1; simpa using h1
      by_cases h2 : visS r = true
      · have HR := Box.mk (show fmtRep st r z = versionS z ++ ⟨#[32]⟩ ++ fmtS 10 st ++ ⟨#[32]⟩ ++ r by
          unfold fmtRep; rw [if_pos ⟨h100.1, h100.2, h3.1, h3.2, h2⟩, (versionS_dec h3.1 h3.2).2])
        have HD := Box.mk (fmtS_code (by omega) h100.2)
        have H1 := Box.mk h1
        have H2 := Box.mk h2
        obtain ⟨t0, t1⟩ := h100
        clear h1 h2 h3
        have s1 : (versionS z ++ ⟨#[32]⟩).size = 9 := by rw [ByteArray.size_append, hz8]; rfl
        have s2 : (versionS z ++ ⟨#[32]⟩ ++ fmtS 10 st).size ≤ 1009 := by rw [ByteArray.size_append, s1]; have := HD.out; omega
        have s3 : (versionS z ++ ⟨#[32]⟩ ++ fmtS 10 st ++ ⟨#[32]⟩).size ≤ 1010 := by rw [ByteArray.size_append]; show _ + 1 ≤ _; omega
        generalize hv : versionS z = v at *
        have HV := Box.mk hv
        clear hv
        go_enter Tryz.func73, Tryz.ntmps73
        go_wp2_with fail
        refine (fmtVersion_any z _).mono ?_
        rintro e w1 ⟨he, rfl⟩
        rw [HV.out] at he
        subst he
        go_wp2_with fail
        refine (isStatus_any st _).mono ?_
        rintro e w1 ⟨he, rfl⟩
        rw [H1.out] at he
        subst he
        go_wp2_with fail
        refine (isReason_any r _).mono ?_
        rintro e w2 ⟨he, hb2⟩
        rw [H2.out] at he
        subst he
        have HB2 := Box.mk (below_trans HB0.out hb2)
        have HRW := Box.mk ((hb2.block w.heap.size (by rw [World.size_alloc]; omega)).trans HRow.out)
        clear hb2 HB0 HRow
        go_wp2_with fail
        generalize hg : w.heap.size = g at *
        have HG := Box.mk hg
        clear hg
        rename_i K hK
        refine wp_region_local (S := [.val (.string v), .val (.string (v ++ ⟨#[32]⟩)), .val (.pointer (some ⟨g, 0, none⟩)), .val (.int .i64 st), .val (.string (fmtS 10 st)), .val (.string (v ++ ⟨#[32]⟩ ++ fmtS 10 st)), .val (.string (v ++ ⟨#[32]⟩ ++ fmtS 10 st ++ ⟨#[32]⟩)),
          .val (.pointer (some ⟨g, 1, none⟩)), .val (.string r), .val (.string (v ++ ⟨#[32]⟩ ++ fmtS 10 st ++ ⟨#[32]⟩ ++ r)), .val (.string (v ++ ⟨#[32]⟩ ++ fmtS 10 st ++ ⟨#[32]⟩ ++ r))])
          (by kernel_rfl) (by kernel_rfl) (by kernel_rfl) ?_ ?_
        · have cell : ∀ w' i u, Below w2.heap.size w2 w' → (#[.int .i64 st, .string r, .int .i64 z, .slice fa fn fc, .slice ba bn bc] : Array Value)[i]? = some u → w'.cell? ⟨g, i, none⟩ = some u := fun w' i u hb hu => below_cell hb (by rw [cell_of_row _ _ _ _ _ _ HRW.out]; exact hu)
          refine ⟨?_, ?_, ?_, ?_, ?_, ?_, ?_, ?_, ?_, ?_, ?_, trivial⟩ <;> intro a w3 hb hf hd
          · exact ⟨wanted_none rfl, loc_move rfl (hf.base 3 rfl)⟩
          · exact ⟨wanted_none rfl, loc_addS rfl (hd 0 rfl) rfl (by rw [hz8]; decide) rfl⟩
          · exact ⟨wanted_none rfl, loc_fieldA rfl (hf.base 1 rfl) (by decide) rfl⟩
          · exact ⟨wanted_none rfl, loc_cell rfl (hd 2 rfl) (cell w3 0 _ hb rfl) (agg_int _) rfl⟩
          · refine ⟨wanted_none rfl, loc_call rfl (by kernel_rfl) ?_⟩
            show Calls _ _ #[a.eval (.tmp 24)] w3 _
            rw [show a.eval (.tmp 24) = .int .i64 st from hd 3 rfl]
            have hbw : Below w.heap.size w w3 := by
              have h9 := HB2.out
              rw [← HG.out] at h9
              exact below_trans h9 hb
            refine (decimal_any st w3 (by omega) (by omega) (tabs_below HT.out hbw)).mono ?_
            rintro e w' ⟨rfl, hb'⟩
            exact ⟨_, rfl, hb', rfl⟩
          · exact ⟨wanted_none rfl, loc_addS rfl (hd 1 rfl) (hd 4 rfl) (by rw [s1]; have := HD.out; omega) rfl⟩
          · exact ⟨wanted_none rfl, loc_addS rfl (hd 5 rfl) rfl (by show _ + 1 ≤ _; omega) rfl⟩
          · exact ⟨wanted_none rfl, loc_fieldA rfl (hf.base 1 rfl) (by decide) rfl⟩
          · exact ⟨wanted_none rfl, loc_cell rfl (hd 7 rfl) (cell w3 1 _ hb rfl) (agg_string _) rfl⟩
          · exact ⟨wanted_none rfl, loc_addS rfl (hd 6 rfl) (hd 8 rfl) (by omega) rfl⟩
          · exact ⟨wanted_none rfl, loc_assign rfl (hd 9 rfl)⟩
        · intro a w3 hb hf hh
          refine hK a w3 ?_
          go_wp2_with fail
          exact local_ret rfl hf.defers (show a.eval (.tmp 2) = .string (v ++ ⟨#[32]⟩ ++ fmtS 10 st ++ ⟨#[32]⟩ ++ r) from hh 10 (by decide)) ⟨ret_str HR.out.symm, by have h9 := HB2.out; rw [← HG.out] at h9; exact below_trans h9 hb⟩
      · have HR := Box.mk (show fmtRep st r z = ⟨#[]⟩ by unfold fmtRep; rw [if_neg (fun h => h2 h.2.2.2.2)])
        have H1 := Box.mk h1
        have H2 := Box.mk (show visS r = false by simpa using h2)
        clear h1 h2 h3 h100
        generalize hv : versionS z = v at *
        have HV := Box.mk hv
        clear hv
        go_enter Tryz.func73, Tryz.ntmps73
        go_wp2_with fail
        refine (fmtVersion_any z _).mono ?_
        rintro e w1 ⟨he, rfl⟩
        rw [HV.out] at he
        subst he
        go_wp2_with fail
        refine (isStatus_any st _).mono ?_
        rintro e w1 ⟨he, rfl⟩
        rw [H1.out] at he
        subst he
        go_wp2_with fail
        refine (isReason_any r _).mono ?_
        rintro e w2 ⟨he, hb2⟩
        rw [H2.out] at he
        subst he
        have HB2 := Box.mk (below_trans HB0.out hb2)
        clear hb2 HB0 HRow
        go_wp2_with fail
        go_ret
        exact ⟨ret_str HR.out.symm, HB2.out⟩
    · have HR := Box.mk (show fmtRep st r z = ⟨#[]⟩ by unfold fmtRep; rw [if_neg (fun h => h1 (by unfold statB; simp; exact ⟨h.1, h.2.1⟩))])
      have H1 := Box.mk (show statB st = false by simpa using h1)
      clear h1 h3
      generalize hv : versionS z = v at *
      have HV := Box.mk hv
      clear hv
      go_enter Tryz.func73, Tryz.ntmps73
      go_wp2_with fail
      refine (fmtVersion_any z _).mono ?_
      rintro e w1 ⟨he, rfl⟩
      rw [HV.out] at he
      subst he
      go_wp2_with fail
      refine (isStatus_any st _).mono ?_
      rintro e w1 ⟨he, rfl⟩
      rw [H1.out] at he
      subst he
      go_wp2_with fail
      go_ret
      exact ⟨ret_str HR.out.symm, HB0.out⟩
  · have HR := Box.mk (show fmtRep st r z = ⟨#[]⟩ by unfold fmtRep; rw [if_neg (fun h => h3 ⟨h.2.2.1, h.2.2.2.1⟩)])
    have HV := Box.mk (versionS_no h3)
    clear h3
    go_enter Tryz.func73, Tryz.ntmps73
    go_wp2_with fail
    refine (fmtVersion_any z _).mono ?_
    rintro e w1 ⟨he, rfl⟩
    rw [HV.out] at he
    subst he
    go_wp2_with fail
    go_ret
    exact ⟨ret_str HR.out.symm, HB0.out⟩

end Go.Proofs.YteoadfckcilalaaGreatDoor
namespace Go.Proofs.YteoadfckcilalaaGreatDoor
open Go.RowKit

theorem fmtRep_size (st : Int) (r : ByteArray) (z : Int) (hr : r.size ≤ 100000000) : (fmtRep st r z).size ≤ 1000000000 := by
  unfold fmtRep
  split
  · rename_i h
    have h1 := fmtS_small h.2.2.1 h.2.2.2.1
    have h2 := fmtS_code (z := st) (by omega) h.2.1
    simp only [ByteArray.size_append]
    have e1 : http0.size = 7 := rfl
    have e2 : (⟨#[32]⟩ : ByteArray).size = 1 := rfl
    omega
  · exact Nat.zero_le _
theorem AVar.cells {w : World} {g : Nat} {st : Int} {r : ByteArray} {z : Int} (h : AVar w g st r z) : g < w.heap.size ∧ w.cell? ⟨g, 0, none⟩ = some (.int .i64 st) ∧ w.cell? ⟨g, 1, none⟩ = some (.string r) ∧ w.cell? ⟨g, 2, none⟩ = some (.int .i64 z) ∧ w.cell? ⟨g, 3, none⟩ = some (.slice none 0 0) ∧ w.cell? ⟨g, 4, none⟩ = some (.slice none 0 0) := by
  refine ⟨(Array.getElem?_eq_some_iff.1 h).1, ?_, ?_, ?_, ?_, ?_⟩ <;> rw [cell_of_row _ _ _ _ _ _ h] <;> rfl
theorem RVar.cells {w : World} {g : Nat} {m t : ByteArray} {z : Int} (h : RVar w g m t z) : g < w.heap.size ∧ w.cell? ⟨g, 0, none⟩ = some (.string m) ∧ w.cell? ⟨g, 1, none⟩ = some (.string t) ∧ w.cell? ⟨g, 2, none⟩ = some (.int .i64 z) ∧ w.cell? ⟨g, 3, none⟩ = some (.slice none 0 0) ∧ w.cell? ⟨g, 4, none⟩ = some (.bool false) ∧ w.cell? ⟨g, 5, none⟩ = some (.slice none 0 0) := by
  refine ⟨(Array.getElem?_eq_some_iff.1 h).1, ?_, ?_, ?_, ?_, ?_, ?_⟩ <;> rw [cell_of_row _ _ _ _ _ _ h] <;> rfl

section
variable (line reason : ByteArray) (status at_ : Int) (c : UInt8) (wild : Int) (mm : Int) (w : World)
end
end Go.Proofs.YteoadfckcilalaaGreatDoor
namespace Go.Proofs.YteoadfckcilalaaGreatDoor
open Go.RowKit

theorem Own.bytesL {B : Nat} {w : World} {v : Value} {l : List UInt8} (h : Own B w v l) : ∃ a c, v = .slice a l.length c ∧ IsBytes w a l c := h.val
section
variable (line : ByteArray) (b : Option Addr) (n cb : Nat) (at_ : Int) (c : UInt8) (wild : Int) (mm : Int) (w : World)
end
end Go.Proofs.YteoadfckcilalaaGreatDoor
namespace Go.Proofs.YteoadfckcilalaaGreatDoor
open Go.RowKit

theorem splitL_one (c : UInt8) : ∀ l : List UInt8, ¬ c ∈ l → splitL c l = [l]
  | [], _ => rfl
  | b :: t, h => by
    have hb : ¬ b = c := fun e => h (by rw [e]; exact List.mem_cons_self)
    have ih := splitL_one c t (fun e => h (List.mem_cons_of_mem _ e))
    rw [splitL, if_neg hb, ih]; rfl
theorem tok_blank {m : ByteArray} (h : tokS m = true) : ¬ (32 : UInt8) ∈ m.data.toList := fun e => by
  unfold tokS at h
  rw [Bool.and_eq_true] at h
  have := List.all_eq_true.1 h.1 32 e
  revert this; decide +kernel
theorem targ_blank {t : ByteArray} (h : targetS t = true) : ¬ (32 : UInt8) ∈ t.data.toList := fun e => by
  unfold targetS at h
  rw [Bool.and_eq_true] at h
  have := List.all_eq_true.1 h.1 32 e
  revert this; decide +kernel
theorem three_words (m t v : ByteArray) (hm : ¬ (32 : UInt8) ∈ m.data.toList) (ht : ¬ (32 : UInt8) ∈ t.data.toList) (hv : ¬ (32 : UInt8) ∈ v.data.toList) : splitS 32 (m ++ ⟨#[32]⟩ ++ t ++ ⟨#[32]⟩ ++ v) = [m, t, v] := by
  unfold splitS
  have e : (m ++ ⟨#[32]⟩ ++ t ++ ⟨#[32]⟩ ++ v).data.toList = m.data.toList ++ 32 :: (t.data.toList ++ 32 :: v.data.toList) := by
    rw [ba_app_list, ba_app_list, ba_app_list, ba_app_list]
    show m.data.toList ++ [32] ++ t.data.toList ++ [32] ++ v.data.toList = _
    simp
  rw [e, splitL_append, splitL_append, splitL_one 32 _ hm, splitL_one 32 _ ht, splitL_one 32 _ hv]
  simp only [List.map_append, List.map_cons, List.map_nil, ofL_of]
  rfl
theorem versionS_ok {z : Int} (hz : z = 0 ∨ z = 1) : verZ (versionS z) = (z, 0) ∧ ¬ (32 : UInt8) ∈ (versionS z).data.toList := by
  rcases hz with rfl | rfl
  · decide +kernel
  · decide +kernel
theorem twice_req {m t : ByteArray} {z : Int} (hm : tokS m = true) (ht : targetS t = true) (hz : z = 0 ∨ z = 1) : lineR (splitS 32 (fmtReq m t z)) = (some (m, t, z), 0) := by
  have h01 : 0 ≤ z ∧ z ≤ 1 := by omega
  have e : fmtReq m t z = m ++ ⟨#[32]⟩ ++ t ++ ⟨#[32]⟩ ++ versionS z := by
    unfold fmtReq; rw [if_pos ⟨hm, ht, h01⟩]
    have h := (versionS_dec h01.1 h01.2).1
    rw [ByteArray.append_assoc, ← h, ← ByteArray.append_assoc]
  obtain ⟨h1, h2⟩ := versionS_ok hz
  rw [e, three_words m t _ (tok_blank hm) (targ_blank ht) h2, lineR_ok hm ht (by rw [h1]), h1]
theorem code_ok {z : Int} (h0 : 100 ≤ z) (h1 : z ≤ 599) : (fmtS 10 z).size = 3 ∧ parseS 10 599 (fmtS 10 z) = (z, 0) := by
  obtain ⟨k, rfl⟩ : ∃ k : Nat, z = 100 + k := ⟨(z - 100).toNat, by omega⟩
  have hk : k < 500 := by omega
  have h : ∀ m : Fin 500, (fmtS 10 (100 + (m.val : Int))).size = 3 ∧ parseS 10 599 (fmtS 10 (100 + (m.val : Int))) = (100 + (m.val : Int), 0) := by decide +kernel
  exact h ⟨k, hk⟩
theorem minorZ_ver {z : Int} (hz : z = 0 ∨ z = 1) : minorZ (versionS z) = z ∧ (versionS z).size = 8 := by
  rcases hz with rfl | rfl
  · decide +kernel
  · decide +kernel
theorem rep_parts (v d r : ByteArray) (hv : v.size = 8) (hd : d.size = 3) (S : ByteArray) (hS : v ++ ⟨#[32]⟩ ++ d ++ ⟨#[32]⟩ ++ r = S) :
    13 ≤ S.size ∧ S.extract 0 8 = v ∧ S.data.toList[8]? = some 32 ∧ S.extract 9 12 = d ∧ S.data.toList[12]? = some 32 ∧ S.extract 13 S.size = r := by
  have hl : S.data.toList = v.data.toList ++ 32 :: (d.data.toList ++ 32 :: r.data.toList) := by
    rw [← hS, ba_app_list, ba_app_list, ba_app_list, ba_app_list]
    show v.data.toList ++ [32] ++ d.data.toList ++ [32] ++ r.data.toList = _
    simp
  have lv : v.data.toList.length = 8 := by rw [Array.length_toList]; exact hv
  have ld : d.data.toList.length = 3 := by rw [Array.length_toList]; exact hd
  have lS : S.data.toList.length = S.size := by rw [Array.length_toList]; rfl
  have hz : S.size = 13 + r.data.toList.length := by rw [← lS, hl]; simp only [List.length_append, List.length_cons, lv, ld]; omega
  have d9 : S.data.toList.drop 9 = d.data.toList ++ 32 :: r.data.toList := by
    rw [hl, List.drop_append, List.drop_of_length_le (by omega), lv]; rfl
  have d13 : S.data.toList.drop 13 = r.data.toList := by
    rw [show 13 = 9 + 4 from rfl, ← List.drop_drop, d9, List.drop_append, List.drop_of_length_le (by omega), ld]; rfl
  refine ⟨by omega, ?_, ?_, ?_, ?_, ?_⟩
  · apply ba_ext
    rw [Lib.extract_data, List.drop_zero, hl, List.take_append_of_le_length (by omega), List.take_of_length_le (by omega)]
  · rw [hl, List.getElem?_append_right (by omega), lv]; rfl
  · apply ba_ext
    rw [Lib.extract_data, d9, List.take_append_of_le_length (by omega), List.take_of_length_le (by omega)]
  · have : S.data.toList[12]? = (S.data.toList.drop 9)[3]? := by rw [List.getElem?_drop]
    rw [this, d9, List.getElem?_append_right (by omega), ld]; rfl
  · apply ba_ext
    rw [Lib.extract_data, d13, List.take_of_length_le (by omega)]
theorem twice_rep {st z : Int} {r : ByteArray} (h0 : 100 ≤ st) (h1 : st ≤ 599) (hz : z = 0 ∨ z = 1) (hr : visS r = true) : parseA (fmtRep st r z) = some (st, r, z) ∧ 0 < (fmtRep st r z).size := by
  have h01 : 0 ≤ z ∧ z ≤ 1 := by omega
  have e : fmtRep st r z = versionS z ++ ⟨#[32]⟩ ++ fmtS 10 st ++ ⟨#[32]⟩ ++ r := by
    unfold fmtRep; rw [if_pos ⟨h0, h1, h01.1, h01.2, hr⟩, (versionS_dec h01.1 h01.2).2]
  obtain ⟨c1, c2⟩ := code_ok h0 h1
  obtain ⟨v1, v2⟩ := minorZ_ver hz
  obtain ⟨p1, p2, p3, p4, p5, p6⟩ := rep_parts _ _ _ v2 c1 _ e.symm
  generalize fmtRep st r z = S at *
  have hrs : reasonS S = r := by unfold reasonS; rw [if_pos (by omega), p6]
  refine ⟨?_, by omega⟩
  unfold parseA
  rw [p2, p4, hrs, c2, v1, if_pos ⟨by omega, by omega, p3, fun _ => p5, rfl, h0, hr⟩]
end Go.Proofs.YteoadfckcilalaaGreatDoor
namespace Go.Proofs.YteoadfckcilalaaGreatDoor
open Go.RowKit

section
variable (b : Option Addr) (n cb : Nat) (status minor : Int) (reason : ByteArray) (mm : Int) (w : World)
theorem row_cells6 {w : World} {g : Nat} {T : TypeId} {u0 u1 u2 u3 u4 u5 : Value} (h : w.heap[g]? = some (.cells #[u0, u1, u2, u3, u4, u5] T (0, 0))) : g < w.heap.size ∧ w.cell? ⟨g, 0, none⟩ = some u0 ∧ w.cell? ⟨g, 1, none⟩ = some u1 ∧ w.cell? ⟨g, 2, none⟩ = some u2 ∧ w.cell? ⟨g, 3, none⟩ = some u3 ∧ w.cell? ⟨g, 4, none⟩ = some u4 ∧ w.cell? ⟨g, 5, none⟩ = some u5 := by
  refine ⟨(Array.getElem?_eq_some_iff.1 h).1, ?_, ?_, ?_, ?_, ?_, ?_⟩ <;> rw [cell_of_row _ _ _ _ _ _ h] <;> rfl
end
end Go.Proofs.YteoadfckcilalaaGreatDoor
namespace Go.Proofs.YteoadfckcilalaaGreatDoor
open Go.RowKit

theorem run_loadReq (w : World) (g : Nat) {u0 u1 u2 u3 u4 u5 : Value} (h : w.heap[g]? = some (.cells #[u0, u1, u2, u3, u4, u5] 29 (0, 0))) :
    (Instr.loadAt 29 (.pointer (some ⟨g, 0, none⟩))).run Tryz.prog w = .ok (.agg #[u0, u1, u2, u3, u4, u5]) w := by
  simp [Instr.loadAt, Instr.sureAddr, run_loadVar_row w g _ 29 _ _ _ h Tryz.underlying29 rfl sizeR]
theorem run_loadRep (w : World) (g : Nat) {u0 u1 u2 u3 u4 : Value} (h : w.heap[g]? = some (.cells #[u0, u1, u2, u3, u4] 31 (0, 0))) :
    (Instr.loadAt 31 (.pointer (some ⟨g, 0, none⟩))).run Tryz.prog w = .ok (.agg #[u0, u1, u2, u3, u4]) w := by
  simp [Instr.loadAt, Instr.sureAddr, run_loadVar_row w g _ 31 _ _ _ h Tryz.underlying31 rfl sizeA]
theorem lt_row {w : World} {g : Nat} {o : Obj} (h : w.heap[g]? = some o) : g < w.heap.size := (Array.getElem?_eq_some_iff.1 h).1

section
variable {act : Act} {w : World} {o : Oper} {K : Act → World → Prop} {Q : Exit → Act → World → Prop}
theorem wp_store_int {P : Program} {ty : TypeId} {x y : Operand} (ho : o.op = .store ty x y) {p : Addr} {z : Int} {u : Value} (hx : act.eval x = .pointer (some p)) (hy : act.eval y = .int .i64 z) (hi : (P.info? ty).map (·.size) = some 1)
    (hc : w.cell? p = some u) (hf : w.frozen? p = false) (h : K (act.put o.dst undef) (w.setCell p (.int .i64 z))) : o.wp P act w K Q := by
  have hz : (sizeOf ty).run P w = .ok 1 w := by
    cases hq : P.info? ty with
    | none => rw [hq] at hi; cases hi
    | some i => rw [hq] at hi; simp at hi; simp [sizeOf, typeInfo, hq, hi]
  unfold Oper.wp execOp
  simp_all [Instr.storeAt, Instr.sureAddr, storeVar, storeCells, Value.cells, go_sem]
end

section
variable (m t : ByteArray) (z : Int) (fa ba : Option Addr) (fn fc bn bc : Nat) (fr : Bool) (st : Int) (r : ByteArray) (z2 : Int) (ga ha : Option Addr) (gn gc hn hc : Nat) (b : Option Addr) (n cb : Nat) (raw : Bool) (mm : Int) (w : World)
end
end Go.Proofs.YteoadfckcilalaaGreatDoor
namespace Go.Proofs.YteoadfckcilalaaGreatDoor
open Go.RowKit

theorem fmtF_cases (x : List Fld) : (allB x = true ∧ (fmtF x).data.toList = linesB x ∧ ((fmtF x).size = 0 → x = [])) ∨ (allB x = false ∧ (fmtF x).size = 0 ∧ ¬ x = []) := by
  by_cases h : allB x = true
  · refine .inl ⟨h, by unfold fmtF; rw [if_pos h], fun h0 => ?_⟩
    cases x with
    | nil => rfl
    | cons f r =>
      exfalso
      have h2 : (fmtF (f :: r)).data.toList = linesB (f :: r) := by unfold fmtF; rw [if_pos h]
      have h3 := congrArg List.length h2
      rw [Array.length_toList] at h3
      have h4 : (fmtF (f :: r)).data.size = (fmtF (f :: r)).size := rfl
      rw [h4, h0] at h3
      unfold linesB at h3
      rw [List.flatMap_cons, List.length_append, lineB_len] at h3
      omega
  · refine .inr ⟨by rw [← Bool.not_eq_true]; exact h, by unfold fmtF; rw [if_neg h]; rfl, ?_⟩
    rintro rfl
    exact h rfl
end Go.Proofs.YteoadfckcilalaaGreatDoor
namespace Go.Proofs.YteoadfckcilalaaGreatDoor
open Go.RowKit

/-- Slot k is written by an operation that need not wait for operation i. -/
def isDstI (ops : Array Oper) (i k : Nat) : Bool := (List.range ops.size).any fun j => ((ops[j]?).bind (·.dst) == some k) && (!decide (j = i) && !(match ops[j]? with | some o => waitsFor o i | none => false))
/-- The frame when operation i comes up. -/
structure FrW (ops : Array Oper) (i : Nat) (a0 a : Act) : Prop where
  defers : a.defers = a0.defers
  size : a.tmps.size = a0.tmps.size
  base : ∀ k, isDstI ops i k = false → a.eval (.tmp k) = a0.eval (.tmp k)
/-- The frame after the operations that m marks. -/
structure FrM (ops : Array Oper) (m : Array Bool) (a0 a : Act) : Prop where
  defers : a.defers = a0.defers
  size : a.tmps.size = a0.tmps.size
  base : ∀ k, (∀ j o, ops[j]? = some o → o.dst = some k → m.getD j false = false) → a.eval (.tmp k) = a0.eval (.tmp k)
theorem FrM.plain {ops : Array Oper} {m : Array Bool} {a0 a : Act} (h : FrM ops m a0 a) : Fr ops a0 a := ⟨h.defers, h.size, fun k hk => h.base k fun j o ho hd => by
  have : isDst ops k = true := by
    unfold isDst
    exact List.any_eq_true.2 ⟨o, Array.mem_toList_iff.2 (Array.mem_of_getElem? ho), by rw [hd]; simp⟩
  rw [hk] at this; cases this⟩
theorem FrM.at {ops : Array Oper} {m : Array Bool} {a0 a : Act} {i : Nat} (h : FrM ops m a0 a) (hmi : m.getD i false = false) (hcl : ∀ j o, ops[j]? = some o → m.getD j false = true → ∀ i, waitsFor o i = true → m.getD i false = true) : FrW ops i a0 a :=
  ⟨h.defers, h.size, fun k hk => h.base k fun j o ho hd => by
    by_cases hji : j = i
    · subst hji; exact hmi
    · by_cases hw : waitsFor o i = true
      · cases hm : m.getD j false with
        | false => rfl
        | true => rw [hcl j o ho hm i hw] at hmi; cases hmi
      · exfalso
        have : isDstI ops i k = true := by
          unfold isDstI
          exact List.any_eq_true.2 ⟨j, List.mem_range.2 (Array.getElem?_eq_some_iff.1 ho).1, by simp only [ho, Option.bind_some, hd]; simp [hji, hw]⟩
        rw [hk] at this; cases this⟩
theorem frM_put {ops : Array Oper} {m : Array Bool} {a0 a : Act} {o : Oper} {i : Nat} (ho : ops[i]? = some o) (him : i < m.size) (h : FrM ops m a0 a) (v : Value) : FrM ops (m.setIfInBounds i true) a0 (a.put o.dst v) := by
  refine ⟨?_, ?_, fun k hk => ?_⟩
  · have := h.defers
    cases o.dst <;> simpa [Act.put] using this
  · have := h.size
    cases o.dst <;> simpa [Act.put] using this
  · have hne : o.dst ≠ some k := fun e => by
      have := hk i o ho e
      simp [him] at this
    rw [eval_put_other hne, h.base k fun j oj hoj hd => by
      have h2 := hk j oj hoj hd
      by_cases hji : j = i
      · subst hji
        obtain rfl := Option.some.inj (ho.symm.trans hoj)
        exact absurd hd hne
      · rwa [getD_set_ne false (fun e => hji e.symm)] at h2]
def StepIW (P : Program) (Q : Exit → Act → World → Prop) (ops : Array Oper) (S : List Spec) (Inv : World → Prop) (a0 : Act) (i : Nat) (o : Oper) (s : Spec) : Prop :=
  ∀ a w, Inv w → FrW ops i a0 a → (∀ j, waitsFor o j = true → Holds ops S a w j) →
    Region.wanted o (yielded ops a.tmps) = true ∧ o.wp P a w (fun a' w' => ∃ v, a' = a.put o.dst v ∧ Below w.heap.size w w' ∧ s.p v w') Q
def SidesIW (P : Program) (Q : Exit → Act → World → Prop) (ops : Array Oper) (S : List Spec) (Inv : World → Prop) (a0 : Act) : List Nat → Prop
  | i :: r => (match ops[i]?, S[i]? with | some o, some s => StepIW P Q ops S Inv a0 i o s | _, _ => False) ∧ SidesIW P Q ops S Inv a0 r
  | [] => True
def ChainIW (P : Program) (Q : Exit → Act → World → Prop) (ops : Array Oper) (S S' : List Spec) (Inv Inv' : World → Prop) (a0 : Act) (c : Nat) : Prop :=
  match ops[c]?, S'[c]? with
  | some o, some s => ∀ a w, Inv w → FrW ops c a0 a → (∀ j, waitsFor o j = true → Holds ops S a w j) →
      Region.wanted o (yielded ops a.tmps) = true ∧ o.wp P a w (fun a' w' => ∃ v, a' = a.put o.dst v ∧ Inv' w' ∧ s.p v w' ∧ Over ops a w w' c 0 S S') Q
  | _, _ => False
section
variable {P : Program} {Q : Exit → Act → World → Prop} {ops : Array Oper} {a0 : Act} {w0 : World}
theorem sidesIW_at {S : List Spec} {Inv : World → Prop} : ∀ {l : List Nat}, SidesIW P Q ops S Inv a0 l → ∀ i, i ∈ l → ∀ o, ops[i]? = some o → ∃ s, S[i]? = some s ∧ StepIW P Q ops S Inv a0 i o s
  | k :: r, h, i, hi, o, ho => by
    rcases List.mem_cons.1 hi with rfl | hi
    · have := h.1
      rw [ho] at this
      cases hs : S[i]? with
      | none => rw [hs] at this; exact this.elim
      | some s => rw [hs] at this; exact ⟨s, rfl, this⟩
    · exact sidesIW_at h.2 i hi o ho
theorem wp_region_phasesW {id : Nat} (chain : List Nat) (sides : Nat → List Nat) (S : Nat → List Spec) (Inv : Nat → World → Prop) (hm : P.follows .mixedOrders = true)
    (hB : (List.range ops.size).all (fun i => match ops[i]? with | some x => x.after.all (fun e => !Region.binds .any e || decide (e.on < i)) | none => true) = true)
    (hd : dstsOk ops a0.tmps.size = true) (hc : chainB ops chain = true) (hlt : chain.all (fun c => decide (c < ops.size)) = true) (hsB : (List.range (chain.length + 1)).all (fun p => sidesB ops chain chain.length (sides p) p) = true)
    (hI : ∀ p w w', Inv p w → Below w.heap.size w w' → Inv p w') (h0 : Inv 0 w0) (hS : ∀ p, p ≤ chain.length → SidesIW P Q ops (S p) (Inv p) a0 (sides p))
    (hC : ∀ p (hp : p < chain.length), ChainIW P Q ops (S p) (S (p + 1)) (Inv p) (Inv (p + 1)) a0 chain[p])
    (hQ : ∀ a w, Inv chain.length w → Fr ops a0 a → (∀ j, j < ops.size → Holds ops (S chain.length) a w j) → Q .normal a w) : (Code.region id ops true).wp P Q a0 w0 := by
  have hchain : ∀ p q (hp : p < chain.length) (hq : q < chain.length), p < q → beforeB ops ops.size chain[q] chain[p] = true ∧ chain[p] ≠ chain[q] := fun p q hp hq hpq => by
    have h1 := List.all_eq_true.1 (List.all_eq_true.1 hc p (List.mem_range.2 hp)) q (List.mem_range.2 hq)
    simp only [List.getElem?_eq_getElem hp, List.getElem?_eq_getElem hq, Bool.or_eq_true, Bool.and_eq_true, decide_eq_true_eq] at h1
    rcases h1 with h1 | h1
    · omega
    · exact ⟨h1.1.1.1, h1.1.1.2⟩
  refine wp_region_inv hm (fun m a w => FrM ops m a0 a ∧ (∀ j o, ops[j]? = some o → m.getD j false = true → ∀ i, waitsFor o i = true → m.getD i false = true) ∧
    ∃ p, p ≤ chain.length ∧ (∀ q (hq : q < chain.length), m.getD chain[q] false = decide (q < p)) ∧ Inv p w ∧ ∀ j, m.getD j false = true → Holds ops (S p) a w j) ?_ ?_ ?_
  · rintro m a w hs ⟨hf, hcl, p, hp, hph, hinv, hh⟩ i hi
    obtain ⟨h1, o, ho, hall⟩ := mem_ready.1 hi
    have hil : i < ops.size := (Array.getElem?_eq_some_iff.1 ho).1
    have him : i < m.size := by rw [hs]; exact hil
    have hmi : m.getD i false = false := by simp [him] at h1 ⊢; exact h1
    have hdeps : ∀ j, waitsFor o j = true → m.getD j false = true := fun j hj => by
      obtain ⟨e, he, h2⟩ := List.any_eq_true.1 hj
      simp only [Bool.and_eq_true, beq_iff_eq] at h2
      obtain ⟨h3, rfl⟩ := h2
      exact hall e (Array.mem_toList_iff.1 he) h3
    have hcl' : ∀ j o, ops[j]? = some o → (m.setIfInBounds i true).getD j false = true → ∀ k, waitsFor o k = true → (m.setIfInBounds i true).getD k false = true := fun j oj hoj hj k hk => by
      by_cases hji : j = i
      · subst hji
        obtain rfl : o = oj := Option.some.inj (ho.symm.trans hoj)
        exact getD_set_true (hdeps k hk)
      · rw [getD_set_ne false (fun e => hji e.symm)] at hj
        exact getD_set_true (hcl j oj hoj hj k hk)
    unfold wpOp
    simp only [ho]
    by_cases hic : i ∈ chain
    · obtain ⟨q, hq, rfl⟩ := List.getElem_of_mem hic
      have hqp : p ≤ q := by
        have := hph q hq
        rw [hmi] at this
        have := of_decide_eq_false this.symm
        omega
      have hqe : q = p := by
        rcases Nat.lt_or_ge p q with h2 | h2
        · exfalso
          have h3 := before_ready hcl ho hdeps (hchain p q (by omega) hq h2).1
          rw [hph p (by omega)] at h3
          simp at h3
        · omega
      subst hqe
      have hCp := hC q hq
      unfold ChainIW at hCp
      rw [ho] at hCp
      cases hsc : (S (q + 1))[chain[q]]? with
      | none => rw [hsc] at hCp; exact hCp.elim
      | some s =>
        rw [hsc] at hCp
        simp only at hCp
        obtain ⟨hw, hwp⟩ := hCp a w hinv (hf.at hmi hcl) fun j hj => hh j (hdeps j hj)
        rw [if_pos hw]
        refine .inl (Oper.wp_mono ?_ hwp)
        rintro a' w' ⟨v, rfl, hinv', hsp, hov⟩
        refine ⟨frM_put ho him hf v, hcl', q + 1, hq, fun r hr => ?_, hinv', fun j hj => ?_⟩
        · by_cases hrq : r = q
          · subst hrq
            simp [him]
          · have hne : chain[q] ≠ chain[r] := by
              rcases Nat.lt_or_ge q r with h2 | h2
              · exact (hchain q r hq hr h2).2
              · exact fun e => (hchain r q hr hq (by omega)).2 e.symm
            rw [getD_set_ne false hne, hph r hr]
            by_cases hrl : r < q
            · simp [hrl, show r < q + 1 by omega]
            · simp [hrl, show ¬ r < q + 1 by omega]
        · by_cases hji : j = chain[q]
          · subst hji
            unfold Holds
            simp only [ho, hsc]
            cases hdo : o.dst with
            | none => trivial
            | some d =>
              show s.p ((a.put (some d) v).eval (.tmp d)) w'
              rw [eval_put_same]
              · exact hsp
              · rw [hf.size]; exact (dsts_lt hd ho hdo).1
          · have hj' : m.getD j false = true := by rw [getD_set_ne false (fun e => hji e.symm)] at hj; exact hj
            have h5 := holds_put (a := a) (v := v) hd ho hji (hh j hj')
            unfold Holds at *
            cases hoj : ops[j]? with
            | none => simp
            | some o' =>
              cases hsj : (S (q + 1))[j]? with
              | none => simp
              | some s' =>
                obtain ⟨s0, hs0, himp⟩ := over_at hov j s' hsj (by omega)
                simp only [hoj, hs0] at h5
                simp only
                cases hdo : o'.dst with
                | none => trivial
                | some d =>
                  simp only [hdo] at h5
                  refine himp _ (fun o2 d2 ho2 hd2 => ?_) h5
                  rw [Nat.zero_add, hoj] at ho2
                  obtain rfl := Option.some.inj ho2
                  rw [hdo] at hd2
                  obtain rfl := Option.some.inj hd2
                  exact eval_put_other fun e => (dsts_lt hd ho e).2 j o' hoj hji hdo
    · have hside : i ∈ sides p := by
        have := List.all_eq_true.1 (List.all_eq_true.1 hsB p (List.mem_range.2 (by omega))) i (List.mem_range.2 hil)
        simp only [Bool.or_eq_true, List.contains_iff_mem, List.any_eq_true] at this
        rcases this with (h2 | h2) | ⟨q, hq, h2⟩
        · exact absurd h2 hic
        · exact h2
        · exfalso
          have hql := List.mem_range.1 hq
          rw [List.getElem?_eq_getElem hql] at h2
          simp only at h2
          by_cases hqp : q < p
          · rw [if_pos hqp] at h2
            have h3 := before_marked hcl _ _ _ h2 (by rw [hph q hql]; simp [hqp])
            rw [hmi] at h3; cases h3
          · rw [if_neg hqp] at h2
            have h3 := before_ready hcl ho hdeps h2
            rw [hph q hql] at h3
            simp [hqp] at h3
      obtain ⟨s, hsi, hstep⟩ := sidesIW_at (hS p hp) i hside o ho
      obtain ⟨hw, hwp⟩ := hstep a w hinv (hf.at hmi hcl) fun j hj => hh j (hdeps j hj)
      rw [if_pos hw]
      refine .inl (Oper.wp_mono ?_ hwp)
      rintro a' w' ⟨v, rfl, hb', hsp⟩
      refine ⟨frM_put ho him hf v, hcl', p, hp, fun r hr => ?_, hI p w w' hinv hb', fun j hj => ?_⟩
      · rw [getD_set_ne false (fun e => hic (by rw [e]; exact List.getElem_mem hr)), hph r hr]
      · by_cases hji : j = i
        · subst hji
          unfold Holds
          simp only [ho, hsi]
          cases hdo : o.dst with
          | none => trivial
          | some d =>
            show s.p ((a.put (some d) v).eval (.tmp d)) w'
            rw [eval_put_same]
            · exact hsp
            · rw [hf.size]; exact (dsts_lt hd ho hdo).1
        · have hj' : m.getD j false = true := by rw [getD_set_ne false (fun e => hji e.symm)] at hj; exact hj
          exact holds_put hd ho hji (holds_mono (hh j hj') hb')
  · rintro m a w hs ⟨hf, hcl, p, hp, hph, hinv, hh⟩ hr
    have hmarked : ∀ j, j < ops.size → m.getD j false = true := fun j => by
      induction j using Nat.strongRecOn with
      | _ j ih =>
        intro hj
        cases hmj : m.getD j false with
        | true => rfl
        | false =>
          exfalso
          have hoj : ops[j]? = some ops[j] := Array.getElem?_eq_getElem hj
          have hbk := List.all_eq_true.1 hB j (List.mem_range.2 hj)
          rw [hoj] at hbk
          simp only [Array.all_eq_true_iff_forall_mem, Bool.or_eq_true, Bool.not_eq_true', decide_eq_true_eq] at hbk
          have hlt : ∀ e ∈ ops[j].after, Region.binds .any e = true → e.on < j := fun e he hbd => by
            rcases hbk e he with h | h
            · rw [hbd] at h; cases h
            · exact h
          have : j ∈ Region.ready .any ops m := mem_ready.2 ⟨by
            have hs' : j < m.size := by rw [hs]; exact hj
            simp [hs'] at hmj ⊢; exact hmj, ops[j], hoj, fun e he hbd => ih _ (hlt e he hbd) (by have := hlt e he hbd; omega)⟩
          rw [hr] at this; cases this
    have hpe : p = chain.length := by
      rcases Nat.lt_or_ge p chain.length with h2 | h2
      · exfalso
        have h3 := hph p h2
        have h4 := hmarked chain[p] (of_decide_eq_true (List.all_eq_true.1 hlt _ (List.getElem_mem h2)))
        rw [h4] at h3
        simp at h3
      · omega
    subst hpe
    exact hQ a w hinv hf.plain fun j hj => hh j (hmarked j hj)
  · have hz : ∀ j, (Array.replicate ops.size false).getD j false = false := fun j => by
      simp only [Array.getD_eq_getD_getElem?, Array.getElem?_replicate]; split <;> rfl
    refine ⟨⟨rfl, rfl, fun _ _ => rfl⟩, fun j o _ hj => (by rw [hz] at hj; cases hj), 0, Nat.zero_le _, fun q _ => by rw [hz]; rfl, hI 0 w0 _ h0 (Below.refl _ _).drew, fun j hj => (by rw [hz] at hj; cases hj)⟩

end
end Go.Proofs.YteoadfckcilalaaGreatDoor
namespace Go.Proofs.YteoadfckcilalaaGreatDoor
open Go.RowKit

theorem endGo_cons (i : Nat) (x : UInt8) (r : List UInt8) : endGo i (x :: r) = if (x :: r).take 4 = crlf2 then ((i + 4 : Nat) : Int) else endGo (i + 1) r := by rw [endGo]
theorem endZ_take (l : List UInt8) (n : Nat) : endZ (l.take n) = if endZ l ≤ (n : Int) then endZ l else -1 := by
  have := endGo_take l n 0
  rw [Nat.zero_add] at this
  exact this
end Go.Proofs.YteoadfckcilalaaGreatDoor
namespace Go.Proofs.YteoadfckcilalaaGreatDoor
open Go.RowKit

theorem QVarH.all {w : World} {g : Nat} {m t : ByteArray} {z : Int} {v : Value} (h : QVarH w g m t z v) : g < w.heap.size ∧ w.cell? ⟨g, 0, none⟩ = some (.string m) ∧ w.cell? ⟨g, 1, none⟩ = some (.string t) ∧ w.cell? ⟨g, 2, none⟩ = some (.int .i64 z) ∧ w.cell? ⟨g, 3, none⟩ = some v ∧ w.cell? ⟨g, 4, none⟩ = some (.bool false) ∧ w.cell? ⟨g, 5, none⟩ = some (.slice none 0 0) := by
  refine ⟨(Array.getElem?_eq_some_iff.1 h).1, ?_, ?_, ?_, ?_, ?_, ?_⟩ <;> rw [cell_of_row _ _ _ _ _ _ h] <;> rfl
theorem AVarH.all {w : World} {g : Nat} {m : Int} {t : ByteArray} {z : Int} {v : Value} (h : AVarH w g m t z v) : g < w.heap.size ∧ w.cell? ⟨g, 0, none⟩ = some (.int .i64 m) ∧ w.cell? ⟨g, 1, none⟩ = some (.string t) ∧ w.cell? ⟨g, 2, none⟩ = some (.int .i64 z) ∧ w.cell? ⟨g, 3, none⟩ = some v ∧ w.cell? ⟨g, 4, none⟩ = some (.slice none 0 0) := by
  refine ⟨(Array.getElem?_eq_some_iff.1 h).1, ?_, ?_, ?_, ?_, ?_⟩ <;> rw [cell_of_row _ _ _ _ _ _ h] <;> rfl
end Go.Proofs.YteoadfckcilalaaGreatDoor
namespace Go.Proofs.YteoadfckcilalaaGreatDoor
open Go.RowKit

theorem tok_no_colon {n : ByteArray} (h : tokS n = true) : ∀ c ∈ n.data.toList, c ≠ 58 := fun c hc => by
  unfold tokS at h
  simp only [Bool.and_eq_true] at h
  have h1 := List.all_eq_true.1 h.1 c hc
  intro e
  subst e
  have : tokB 58 = false := by decide +kernel
  rw [this] at h1; cases h1
theorem val_trim {v : ByteArray} (h : valS v = true) : trimBA v = v := by
  unfold valS at h
  simp only [Bool.and_eq_true] at h
  have h2 := h.2
  rw [toList_eq] at h2
  exact of_decide_eq_true h2
/-- The line of a valid field is parsed to the field. -/
theorem parse_line (n v P : ByteArray) (hn : tokS n = true) (hv : valS v = true) (hP : P.data.toList = n.data.toList ++ 58 :: 32 :: v.data.toList) : parseF P = some (n, v) := by
  have hnl : n.data.toList.length = n.size := by rw [Array.length_toList]; rfl
  have hsz : P.size = n.size + (2 + v.data.toList.length) := by
    have : P.size = P.data.toList.length := by rw [Array.length_toList]; rfl
    rw [this, hP, List.length_append, hnl]; simp; omega
  have hlt : n.size < P.size := by omega
  have hat : P.data.toList[n.size]? = some 58 := by
    rw [hP, List.getElem?_append_right (by omega), hnl, Nat.sub_self]; rfl
  have hc : colonI P = (n.size : Int) := by
    refine colonI_at P n.size hlt ?_ (fun j hj => ?_)
    · have h2 : P.data.toList[n.size]? = some P[n.size] := by
        rw [List.getElem?_eq_getElem (by simpa using hlt)]; rfl
      rw [hat] at h2
      exact (Option.some.inj h2).symm
    · rw [hP, List.getElem?_append_left (by omega)]
      intro e
      exact tok_no_colon hn 58 (List.mem_of_getElem? e) rfl
  rw [parseF_at hc]
  have e1 : P.extract 0 n.size = n := ba_ext (by
    rw [extract_ofL]
    show (ofL _).data.toList = _
    simp only [ofL, List.drop_zero, Nat.sub_zero, hP]
    rw [List.take_left' hnl])
  have e2 : trimBA (P.extract (n.size + 1) P.size) = v := by
    rw [← val_trim hv]
    refine ba_ext ?_
    rw [trimBA_list, trimBA_list, extract_ofL]
    have e3 : (P.data.toList.drop (n.size + 1)).take (P.size - (n.size + 1)) = 32 :: v.data.toList := by
      rw [hP, show n.size + 1 = n.data.toList.length + 1 by omega, List.drop_append, List.drop_of_length_le (by omega), Nat.add_sub_cancel_left, List.nil_append]
      show List.take _ (32 :: v.data.toList) = _
      exact List.take_of_length_le (by rw [List.length_cons]; omega)
    show trimL (ofL ((P.data.toList.drop (n.size + 1)).take (P.size - (n.size + 1)))).data.toList = _
    rw [e3]
    show trimL (32 :: v.data.toList) = _
    rw [trimL_front _ 32 (by decide)]
  rw [e1, e2, if_pos (by unfold fldB; rw [hn, hv]; rfl)]

end Go.Proofs.YteoadfckcilalaaGreatDoor
