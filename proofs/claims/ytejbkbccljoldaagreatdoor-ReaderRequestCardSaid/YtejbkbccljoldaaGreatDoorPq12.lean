/- Regions of the laws that call Next. awake of the laws on readers. What follows the text (padding), and Sum. Sum and Of. The digest and the state in the reference. The state in the reference; the small functions of the laws. whole: a message is read in rounds. Interim replies are left out. The source of numbers of the laws, with its place: Next, Left, Bytes. The law ReaderInterim. -/
import Derived.Test.YtejbkbccljoldaaGreatDoorPq1
import Derived.Test.YtejbkbccljoldaaGreatDoorPq2
import Derived.Test.YtejbkbccljoldaaGreatDoorPq3
import Derived.Test.YtejbkbccljoldaaGreatDoorPq4
import Derived.Test.YtejbkbccljoldaaGreatDoorPq5
import Derived.Test.YtejbkbccljoldaaGreatDoorPq6
import Derived.Test.YtejbkbccljoldaaGreatDoorPq7
import Derived.Test.YtejbkbccljoldaaGreatDoorPq8
import Derived.Test.YtejbkbccljoldaaGreatDoorPq9
import Derived.Test.YtejbkbccljoldaaGreatDoorPq10
import Derived.Test.YtejbkbccljoldaaGreatDoorPq11
import Derived.Test.YtejbkbccljoldaaGreatDoorRows
import Derived.WalkKit
import Derived.WalkSpells
import Derived.WalkLawsBesides
import Derived.BigQuiet
import Derived.Deep.QuietTactic
import Derived.Lib.Bytealg
import Derived.Lib.IndexLaws
import Derived.Lib.Hide
import Derived.Laws.IdiomStrings
import Derived.Lib.SlTrimSet
import Derived.Lib.IndexBytes
import Derived.Lib.Split
import Derived.Deep.AppendLies
import Derived.Shelf.Strings.SlTrimAscii
import Derived.Shelf.Strings.SplitShaped
import Derived.Shelf.LaysM
import Derived.Shelf.Strings.BuilderK
import Derived.Shelf.Strconv.Itoa4
import Derived.Shelf.Strings.Prefix
import Derived.Shelf.Bytes.SlIndexWhole
import Derived.Test.YtejbkbccljoldaaGreatDoorProg
import Derived.Lib.SplitLaws
import Derived.WalkSmall
import Derived.ProofKit
import Derived.OpenShut
import Derived.Lib.Strings
import Derived.SliceStrings
import Derived.Deep.Quiet
import Derived.Tactics
import Derived.KernelRfl
import Derived.Below
import Derived.Laws.Bits64
import Derived.Lib.SlBytesConst
import Derived.Maps.AppendAt
import Derived.Laws.AppendOwnNone
import Derived.Great.BuildSlice
import Derived.Laws.Rows
import Derived.Laws.BitsAllLaws
import Derived.Laws.Shifts
import Derived.Maps.OwnOps
import Derived.Maps.OwnSet
import Derived.Deep.SlicePairs
import Derived.Lib.AppendZerosOnto
import Derived.Lib.AppendStr
import Derived.Laws.CopyOwn
import Derived.OwnWalk
import Derived.Laws.Strings3
import Derived.Laws.Concat
import Derived.Lib.ItoaMem
import Derived.Deep.RegionHeld3
import Derived.IntWalk
import Derived.Laws.RangeAny
import Derived.LoopTactic
import Derived.Sort.Grow
import Derived.Lib.ConvBytes
import Derived.Deep.DeepCutAuto
import Derived.Deep.MidRow
import Derived.Laws.Tables
import Derived.Deep.WholeRow
import Derived.StillTailTactics
import Derived.Deep.CutBlock
import Derived.Lib.LaidTab
import Derived.LaidSub
import Derived.Laws.Bits64b
import Derived.Lib.FrozenHead2
import Derived.Deep.Matrix
import Derived.Lib.LazyBuf
import Derived.ArgAppend
namespace Go.Proofs.YtejbkbccljoldaaGreatDoor
open Go.RowKit

set_option linter.unusedVariables false
/-- What a reader's slices hold: where its fields may lie, and its line. -/
structure RMemQ (L : (Nat → Prop) × (Nat → Prop)) (w : World) (s : RS) (fa ga la : Option Addr) (lc : Nat) : Prop where
  m : RMem L.1 w s fa ga la lc
  l : ∀ y, la = some y → s.ck.line ≠ [] → L.2 y.block
theorem RMemQ.keep {L : (Nat → Prop) × (Nat → Prop)} {w w' : World} {s : RS} {fa ga la : Option Addr} {lc : Nat} (h : RMemQ L w s fa ga la lc) (hb : Below w.heap.size w w') : RMemQ L w' s fa ga la lc := ⟨h.m.keep hb, h.l⟩
/-- A reader's variable and what it holds; its fields lie in blocks that L allows. -/
def StV (L : (Nat → Prop) × (Nat → Prop)) (s : RS) (w : World) (g : Nat) : Prop := ∃ fa fc ga gc la lc, RVr w g #[.bool s.rep, .string s.meth, .int .i64 s.ph, .string s.m, .string s.t, .int .i64 s.z, .slice fa (List.length s.xs) fc, .bool s.fr, .slice none 0 0, .int .i64 s.st, .string s.rs, .int .i64 s.z2, .slice ga (List.length s.ys) gc, .slice none 0 0, .int .i64 s.fk, .int .i64 s.fl, .int .i64 s.left, .int .i64 s.size, .int .i64 s.ck.ph, .int .i64 s.ck.left, .int .i64 s.ck.tr, .slice la (List.length s.ck.line) lc] ∧ RMemQ L w s fa ga la lc
def AgS (L : (Nat → Prop) × (Nat → Prop)) (s : RS) (w : World) (v : Value) : Prop := ∃ fa fc ga gc la lc, v = .agg #[.bool s.rep, .string s.meth, .int .i64 s.ph, .string s.m, .string s.t, .int .i64 s.z, .slice fa (List.length s.xs) fc, .bool s.fr, .slice none 0 0, .int .i64 s.st, .string s.rs, .int .i64 s.z2, .slice ga (List.length s.ys) gc, .slice none 0 0, .int .i64 s.fk, .int .i64 s.fl, .int .i64 s.left, .int .i64 s.size, .int .i64 s.ck.ph, .int .i64 s.ck.left, .int .i64 s.ck.tr, .slice la (List.length s.ck.line) lc] ∧ RMemQ L w s fa ga la lc
def PtV (x : NX) (w : World) (g : Nat) : Prop := ∃ pa pc, PVr w g #[.int .i64 x.kind, .slice pa (List.length x.data) pc] ∧ IsBytes w pa x.data pc
def AgP (x : NX) (w : World) (v : Value) : Prop := ∃ pa pc, v = .agg #[.int .i64 x.kind, .slice pa (List.length x.data) pc] ∧ IsBytes w pa x.data pc
def NxV (L : (Nat → Prop) × (Nat → Prop)) (x : NX) (w : World) (v : Value) : Prop := ∃ fa fc ga gc la lc pa pc, v = .tuple #[.agg #[.bool x.r.rep, .string x.r.meth, .int .i64 x.r.ph, .string x.r.m, .string x.r.t, .int .i64 x.r.z, .slice fa (List.length x.r.xs) fc, .bool x.r.fr, .slice none 0 0, .int .i64 x.r.st, .string x.r.rs, .int .i64 x.r.z2, .slice ga (List.length x.r.ys) gc, .slice none 0 0, .int .i64 x.r.fk, .int .i64 x.r.fl, .int .i64 x.r.left, .int .i64 x.r.size, .int .i64 x.r.ck.ph, .int .i64 x.r.ck.left, .int .i64 x.r.ck.tr, .slice la (List.length x.r.ck.line) lc], .agg #[.int .i64 x.kind, .slice pa (List.length x.data) pc], .int .i64 x.n, .int .i64 x.er] ∧ RMemQ L w x.r fa ga la lc ∧ IsBytes w pa x.data pc
def RNew (N : Nat) (w : World) (v : Value) : Prop := ∃ g, v = .pointer (some ⟨g, 0, none⟩) ∧ N ≤ g ∧ RVr w g #[.bool false, .string ⟨#[]⟩, .int .i64 0, .string ⟨#[]⟩, .string ⟨#[]⟩, .int .i64 0, .slice none 0 0, .bool false, .slice none 0 0, .int .i64 0, .string ⟨#[]⟩, .int .i64 0, .slice none 0 0, .slice none 0 0, .int .i64 0, .int .i64 0, .int .i64 0, .int .i64 0, .int .i64 0, .int .i64 0, .int .i64 0, .slice none 0 0]
def PNew (N : Nat) (w : World) (v : Value) : Prop := ∃ g, v = .pointer (some ⟨g, 0, none⟩) ∧ N ≤ g ∧ PVr w g #[.int .i64 0, .slice none 0 0]
def RSt (N : Nat) (L : (Nat → Prop) × (Nat → Prop)) (s : RS) (w : World) (v : Value) : Prop := ∃ g, v = .pointer (some ⟨g, 0, none⟩) ∧ N ≤ g ∧ StV L s w g
def PSt (N : Nat) (x : NX) (w : World) (v : Value) : Prop := ∃ g, v = .pointer (some ⟨g, 0, none⟩) ∧ N ≤ g ∧ PtV x w g
theorem StV.keep {L : (Nat → Prop) × (Nat → Prop)} {s : RS} {w w' : World} {g : Nat} (h : StV L s w g) (hb : Below w.heap.size w w') : StV L s w' g := by
  obtain ⟨fa, fc, ga, gc, la, lc, h1, h2⟩ := h
  exact ⟨fa, fc, ga, gc, la, lc, h1.keep hb, h2.keep hb⟩
theorem AgS.keep {L : (Nat → Prop) × (Nat → Prop)} {s : RS} {w w' : World} {v : Value} (h : AgS L s w v) (hb : Below w.heap.size w w') : AgS L s w' v := by
  obtain ⟨fa, fc, ga, gc, la, lc, h1, h2⟩ := h
  exact ⟨fa, fc, ga, gc, la, lc, h1, h2.keep hb⟩
theorem PtV.keep {x : NX} {w w' : World} {g : Nat} (h : PtV x w g) (hb : Below w.heap.size w w') : PtV x w' g := by
  obtain ⟨pa, pc, h1, h2⟩ := h
  exact ⟨pa, pc, h1.keep hb, h2.keep hb⟩
theorem AgP.keep {x : NX} {w w' : World} {v : Value} (h : AgP x w v) (hb : Below w.heap.size w w') : AgP x w' v := by
  obtain ⟨pa, pc, h1, h2⟩ := h
  exact ⟨pa, pc, h1, h2.keep hb⟩
theorem NxV.keep {L : (Nat → Prop) × (Nat → Prop)} {x : NX} {w w' : World} {v : Value} (h : NxV L x w v) (hb : Below w.heap.size w w') : NxV L x w' v := by
  obtain ⟨fa, fc, ga, gc, la, lc, pa, pc, h1, h2, h3⟩ := h
  exact ⟨fa, fc, ga, gc, la, lc, pa, pc, h1, h2.keep hb, h3.keep hb⟩
theorem StV.lt {L : (Nat → Prop) × (Nat → Prop)} {s : RS} {w : World} {g : Nat} (h : StV L s w g) : g < w.heap.size := by
  obtain ⟨_, _, _, _, _, _, h1, _⟩ := h
  exact h1.lt
theorem PtV.lt {x : NX} {w : World} {g : Nat} (h : PtV x w g) : g < w.heap.size := by
  obtain ⟨_, _, h1, _⟩ := h
  exact (Array.getElem?_eq_some_iff.1 h1).1
def Spec.srow (L : (Nat → Prop) × (Nat → Prop)) (s : RS) : Spec := ⟨fun v w => AgS L s w v, fun _ _ _ h hb => h.keep hb⟩
def Spec.prow (x : NX) : Spec := ⟨fun v w => AgP x w v, fun _ _ _ h hb => h.keep hb⟩
def Spec.nxt (L : (Nat → Prop) × (Nat → Prop)) (x : NX) : Spec := ⟨fun v w => NxV L x w v, fun _ _ _ h hb => h.keep hb⟩
def Spec.rnew (N : Nat) : Spec := ⟨fun v w => RNew N w v, fun _ _ _ h hb => by
  obtain ⟨g, h1, h2, h3⟩ := h
  exact ⟨g, h1, h2, h3.keep hb⟩⟩
def Spec.pnew (N : Nat) : Spec := ⟨fun v w => PNew N w v, fun _ _ _ h hb => by
  obtain ⟨g, h1, h2, h3⟩ := h
  exact ⟨g, h1, h2, h3.keep hb⟩⟩
def Spec.rst (N : Nat) (L : (Nat → Prop) × (Nat → Prop)) (s : RS) : Spec := ⟨fun v w => RSt N L s w v, fun _ _ _ h hb => by
  obtain ⟨g, h1, h2, h3⟩ := h
  exact ⟨g, h1, h2, h3.keep hb⟩⟩
def Spec.pst (N : Nat) (x : NX) : Spec := ⟨fun v w => PSt N x w v, fun _ _ _ h hb => by
  obtain ⟨g, h1, h2, h3⟩ := h
  exact ⟨g, h1, h2, h3.keep hb⟩⟩
/-- No name lies in this row: its strings are empty. -/
def NoStr (cs : Array Value) : Prop := ∀ (i : Nat) (b : ByteArray), cs[i]? = some (.string b) → b.size = 0
theorem noStr_of {cs : Array Value} (h : cs.toList.all (fun v => match v with | .string b => b.size == 0 | _ => true) = true) : NoStr cs := fun i b e => by
  have h1 := List.all_eq_true.1 h (.string b) (by
    have : cs.toList[i]? = some (.string b) := by rw [Array.getElem?_toList]; exact e
    exact List.mem_of_getElem? this)
  exact eq_of_beq h1
theorem flds_away {w : World} {g : Nat} {cs : Array Value} {T : TypeId} {fz : Nat × Nat} (h : w.heap[g]? = some (.cells cs T fz)) (hn : NoStr cs) {a : Option Addr} {l : List Fld} (hb : FldsIn w a l) (hl : ∀ f ∈ l, ¬ f.1.size = 0) : ∀ y, a = some y → l ≠ [] → y.block ≠ g := by
  intro y hy hne hg
  have h0 := List.length_pos_iff.2 hne
  obtain ⟨x, hx, h5, _⟩ := hb 0 h0
  rw [hy] at hx
  obtain rfl := Option.some.inj hx
  have h6 : w.heap[(y.add (0 * 2)).block]? = some (.cells cs T fz) := by rw [add_blockC, hg]; exact h
  unfold World.cell? at h5
  rw [h6] at h5
  simp only at h5
  split at h5
  · cases h5
  · exact hl l[0] (List.getElem_mem h0) (hn _ _ h5)
theorem RMem.rowZ {P : Nat → Prop} {w : World} {s : RS} {fa ga la : Option Addr} {lc q : Nat} {cs ds : Array Value} {T : TypeId} {fz : Nat × Nat} (h : RMem P w s fa ga la lc) (hm : NmS s) (hr : w.heap[q]? = some (.cells cs T fz)) (hs : NoStr cs) (hu : NoU8 cs) : RMem P (w.setRow q ds) s fa ga la lc :=
  ⟨sameNe h.f1 fun y e hx => setRow_other _ _ _ _ (flds_away hr hs h.f1 hm.1 y e hx), sameNe h.f2 fun y e hx => setRow_other _ _ _ _ (flds_away hr hs h.f2 hm.2 y e hx), isBytes_rowR hr hu h.ln, h.n1, h.n2⟩
theorem RMemQ.rowL {L : (Nat → Prop) × (Nat → Prop)} {q : Nat} {w : World} {s : RS} {fa ga la : Option Addr} {lc : Nat} {cs ds : Array Value} {T : TypeId} {fz : Nat × Nat} (h : RMemQ L w s fa ga la lc) (hq : ¬ L.1 q) (hr : w.heap[q]? = some (.cells cs T fz)) (hu : NoU8 cs) : RMemQ L (w.setRow q ds) s fa ga la lc :=
  ⟨⟨sameNe h.m.f1 fun y e hx => setRow_other _ _ _ _ (fun e2 => hq (e2 ▸ h.m.n1 y e hx)), sameNe h.m.f2 fun y e hx => setRow_other _ _ _ _ (fun e2 => hq (e2 ▸ h.m.n2 y e hx)), isBytes_rowR hr hu h.m.ln, h.m.n1, h.m.n2⟩, h.l⟩
theorem RMemQ.rowZ {L : (Nat → Prop) × (Nat → Prop)} {w : World} {s : RS} {fa ga la : Option Addr} {lc q : Nat} {cs ds : Array Value} {T : TypeId} {fz : Nat × Nat} (h : RMemQ L w s fa ga la lc) (hm : NmS s) (hr : w.heap[q]? = some (.cells cs T fz)) (hs : NoStr cs) (hu : NoU8 cs) : RMemQ L (w.setRow q ds) s fa ga la lc := ⟨h.m.rowZ hm hr hs hu, h.l⟩
theorem rv_ne_pv {w : World} {g q : Nat} {cs ds : Array Value} (h1 : RVr w g cs) (h2 : PVr w q ds) : g ≠ q := fun e => by
  subst e
  unfold RVr at h1
  unfold PVr at h2
  rw [h1] at h2
  injection h2 with h2
  injection h2 with a b c
  exact absurd b (by decide)
theorem zero_noStr : NoStr #[.bool false, .string ⟨#[]⟩, .int .i64 0, .string ⟨#[]⟩, .string ⟨#[]⟩, .int .i64 0, .slice none 0 0, .bool false, .slice none 0 0, .int .i64 0, .string ⟨#[]⟩, .int .i64 0, .slice none 0 0, .slice none 0 0, .int .i64 0, .int .i64 0, .int .i64 0, .int .i64 0, .int .i64 0, .int .i64 0, .int .i64 0, .slice none 0 0] := noStr_of rfl
theorem zp_noStr : NoStr #[.int .i64 0, .slice none 0 0] := noStr_of rfl
theorem zero_noU8 : NoU8 #[.bool false, .string ⟨#[]⟩, .int .i64 0, .string ⟨#[]⟩, .string ⟨#[]⟩, .int .i64 0, .slice none 0 0, .bool false, .slice none 0 0, .int .i64 0, .string ⟨#[]⟩, .int .i64 0, .slice none 0 0, .slice none 0 0, .int .i64 0, .int .i64 0, .int .i64 0, .int .i64 0, .int .i64 0, .int .i64 0, .int .i64 0, .slice none 0 0] := noU8_22 rfl
theorem zp_noU8 : NoU8 #[.int .i64 0, .slice none 0 0] := noU8_22 rfl
section
variable {L : (Nat → Prop) × (Nat → Prop)} {N q : Nat} {s : RS} {x : NX} {w : World} {v : Value} {cs ds : Array Value} {T : TypeId} {fz : Nat × Nat}
theorem NxV.rowZ (h : NxV L x w v) (hm : NmS x.r) (hr : w.heap[q]? = some (.cells cs T fz)) (hs : NoStr cs) (hu : NoU8 cs) : NxV L x (w.setRow q ds) v := by
  obtain ⟨fa, fc, ga, gc, la, lc, pa, pc, h1, h2, h3⟩ := h
  exact ⟨fa, fc, ga, gc, la, lc, pa, pc, h1, h2.rowZ hm hr hs hu, isBytes_rowR hr hu h3⟩
theorem AgP.rowZ (h : AgP x w v) (hr : w.heap[q]? = some (.cells cs T fz)) (hu : NoU8 cs) : AgP x (w.setRow q ds) v := by
  obtain ⟨pa, pc, h1, h2⟩ := h
  exact ⟨pa, pc, h1, isBytes_rowR hr hu h2⟩
theorem AgS.rowZ (h : AgS L s w v) (hm : NmS s) (hr : w.heap[q]? = some (.cells cs T fz)) (hs : NoStr cs) (hu : NoU8 cs) : AgS L s (w.setRow q ds) v := by
  obtain ⟨fa, fc, ga, gc, la, lc, h1, h2⟩ := h
  exact ⟨fa, fc, ga, gc, la, lc, h1, h2.rowZ hm hr hs hu⟩
theorem StV.rowZ {g : Nat} (h : StV L s w g) (hm : NmS s) (hg : g ≠ q) (hr : w.heap[q]? = some (.cells cs T fz)) (hs : NoStr cs) (hu : NoU8 cs) : StV L s (w.setRow q ds) g := by
  obtain ⟨fa, fc, ga, gc, la, lc, h1, h2⟩ := h
  exact ⟨fa, fc, ga, gc, la, lc, (setRow_other _ _ _ _ hg).trans h1, h2.rowZ hm hr hs hu⟩
theorem StV.rowL {g : Nat} (h : StV L s w g) (hg : g ≠ q) (hq : ¬ L.1 q) (hr : w.heap[q]? = some (.cells cs T fz)) (hu : NoU8 cs) : StV L s (w.setRow q ds) g := by
  obtain ⟨fa, fc, ga, gc, la, lc, h1, h2⟩ := h
  exact ⟨fa, fc, ga, gc, la, lc, (setRow_other _ _ _ _ hg).trans h1, h2.rowL hq hr hu⟩
theorem PtV.rowZ {g : Nat} (h : PtV x w g) (hg : g ≠ q) (hr : w.heap[q]? = some (.cells cs T fz)) (hu : NoU8 cs) : PtV x (w.setRow q ds) g := by
  obtain ⟨pa, pc, h1, h2⟩ := h
  exact ⟨pa, pc, (setRow_other _ _ _ _ hg).trans h1, isBytes_rowR hr hu h2⟩
end
section
variable {Q : Exit → Act → World → Prop} {a : Act} {w : World} {o : Oper} {s : Spec}
theorem loc_loadS {y : Operand} (ho : o.op = .load 37 y) {L : (Nat → Prop) × (Nat → Prop)} {g : Nat} {r : RS} (hy : a.eval y = .pointer (some ⟨g, 0, none⟩)) (h : StV L r w g) (hs : ∀ v, AgS L r w v → s.p v w) :
    o.wp Tryz.prog a w (fun a' w' => ∃ v, a' = a.put o.dst v ∧ Below w.heap.size w w' ∧ s.p v w') Q := by
  obtain ⟨fa, fc, ga, gc, la, lc, h1, h2⟩ := h
  exact loc_load ho (by rw [hy]; exact run_loadRR _ _ _ h1 rfl) (hs _ ⟨fa, fc, ga, gc, la, lc, rfl, h2⟩)
theorem loc_nx0 {y : Operand} (ho : o.op = .extract y 0) {L : (Nat → Prop) × (Nat → Prop)} {x : NX} (h : NxV L x w (a.eval y)) (hs : ∀ v, AgS L x.r w v → s.p v w) :
    o.wp Tryz.prog a w (fun a' w' => ∃ v, a' = a.put o.dst v ∧ Below w.heap.size w w' ∧ s.p v w') Q := by
  obtain ⟨fa, fc, ga, gc, la, lc, pa, pc, h1, h2, h3⟩ := h
  exact loc_extractR0 ho h1 (hs _ ⟨fa, fc, ga, gc, la, lc, rfl, h2⟩)
theorem loc_nx1 {y : Operand} (ho : o.op = .extract y 1) {L : (Nat → Prop) × (Nat → Prop)} {x : NX} (h : NxV L x w (a.eval y)) (hs : ∀ v, AgP x w v → s.p v w) :
    o.wp Tryz.prog a w (fun a' w' => ∃ v, a' = a.put o.dst v ∧ Below w.heap.size w w' ∧ s.p v w') Q := by
  obtain ⟨fa, fc, ga, gc, la, lc, pa, pc, h1, h2, h3⟩ := h
  exact loc_extractR1 ho h1 (hs _ ⟨pa, pc, rfl, h3⟩)
theorem loc_nx2 {y : Operand} (ho : o.op = .extract y 2) {L : (Nat → Prop) × (Nat → Prop)} {x : NX} (h : NxV L x w (a.eval y)) (hs : s.p (.int .i64 x.n) w) :
    o.wp Tryz.prog a w (fun a' w' => ∃ v, a' = a.put o.dst v ∧ Below w.heap.size w w' ∧ s.p v w') Q := by
  obtain ⟨fa, fc, ga, gc, la, lc, pa, pc, h1, h2, h3⟩ := h
  exact loc_extractR2 ho h1 hs
theorem loc_nx3 {y : Operand} (ho : o.op = .extract y 3) {L : (Nat → Prop) × (Nat → Prop)} {x : NX} (h : NxV L x w (a.eval y)) (hs : s.p (.int .i64 x.er) w) :
    o.wp Tryz.prog a w (fun a' w' => ∃ v, a' = a.put o.dst v ∧ Below w.heap.size w w' ∧ s.p v w') Q := by
  obtain ⟨fa, fc, ga, gc, la, lc, pa, pc, h1, h2, h3⟩ := h
  exact loc_extractR3 ho h1 hs
theorem loc_allocRn (ho : o.op = .alloc 37) {N : Nat} (hB : N ≤ w.heap.size) (hs : ∀ v w', RNew N w' v → s.p v w') :
    o.wp Tryz.prog a w (fun a' w' => ∃ v, a' = a.put o.dst v ∧ Below w.heap.size w w' ∧ s.p v w') Q := by
  have hz : (Tryz.prog.info? 37).bind (·.zero) = some (.agg #[.bool false, .string ⟨#[]⟩, .int .i64 0, .string ⟨#[]⟩, .string ⟨#[]⟩, .int .i64 0, .slice none 0 0, .bool false, .slice none 0 0, .int .i64 0, .string ⟨#[]⟩, .int .i64 0, .slice none 0 0, .slice none 0 0, .int .i64 0, .int .i64 0, .int .i64 0, .int .i64 0, .int .i64 0, .int .i64 0, .int .i64 0, .slice none 0 0]) := by kernel_rfl
  refine loc_run (v := .pointer (some ⟨w.heap.size, 0, none⟩)) (w' := w.alloc (.cells #[.bool false, .string ⟨#[]⟩, .int .i64 0, .string ⟨#[]⟩, .string ⟨#[]⟩, .int .i64 0, .slice none 0 0, .bool false, .slice none 0 0, .int .i64 0, .string ⟨#[]⟩, .int .i64 0, .slice none 0 0, .slice none 0 0, .int .i64 0, .int .i64 0, .int .i64 0, .int .i64 0, .int .i64 0, .int .i64 0, .int .i64 0, .slice none 0 0] 37)) ?_ (below_oneF _ _) (hs _ _ ⟨_, rfl, hB, heap_alloc_new _ _⟩)
  cases hq : Tryz.prog.info? 37 with
  | none => rw [hq] at hz; cases hz
  | some i =>
    rw [hq] at hz
    simp only [Option.bind_some] at hz
    unfold execOp
    simp [ho, Instr.alloc, zeroValue, typeInfo, hq, hz, newRow, newVar, Value.cells]
theorem loc_allocPn (ho : o.op = .alloc 41) {N : Nat} (hB : N ≤ w.heap.size) (hs : ∀ v w', PNew N w' v → s.p v w') :
    o.wp Tryz.prog a w (fun a' w' => ∃ v, a' = a.put o.dst v ∧ Below w.heap.size w w' ∧ s.p v w') Q := by
  have hz : (Tryz.prog.info? 41).bind (·.zero) = some (.agg #[.int .i64 0, .slice none 0 0]) := by kernel_rfl
  refine loc_run (v := .pointer (some ⟨w.heap.size, 0, none⟩)) (w' := w.alloc (.cells #[.int .i64 0, .slice none 0 0] 41)) ?_ (below_oneF _ _) (hs _ _ ⟨_, rfl, hB, heap_alloc_new _ _⟩)
  cases hq : Tryz.prog.info? 41 with
  | none => rw [hq] at hz; cases hz
  | some i =>
    rw [hq] at hz
    simp only [Option.bind_some] at hz
    unfold execOp
    simp [ho, Instr.alloc, zeroValue, typeInfo, hq, hz, newRow, newVar, Value.cells]
theorem loc_part {x y z : Operand} (ho : o.op = .slice 23 x (some y) (some z) none) {l : List UInt8} {k u : Nat} (hx : BytesV w (a.eval x) l) (hy : a.eval y = .int .i64 (k : Int)) (hz : a.eval z = .int .i64 (u : Int)) (hku : k ≤ u) (hu : u ≤ l.length) (hs : ∀ v, BytesV w v ((l.take u).drop k) → s.p v w) :
    o.wp Tryz.prog a w (fun a' w' => ∃ v, a' = a.put o.dst v ∧ Below w.heap.size w w' ∧ s.p v w') Q := by
  obtain ⟨ad, c, h1, h2⟩ := hx
  have hc : l.length ≤ c := isBytes_cap h2
  have key : ∃ a' c', (Instr.sliceAt 23 (.slice ad l.length c) (some (.int .i64 (k : Int))) (some (.int .i64 (u : Int))) none).run Tryz.prog w = .ok (.slice a' (u - k) c') w ∧ IsBytes w a' ((l.take u).drop k) c' := by
    have es : (sizeOf (Tryz.prog.elem 23)).run Tryz.prog w = .ok 1 w := by rw [show Tryz.prog.elem 23 = 5 by kernel_rfl]; exact sizeOf_u8H w
    have hrun : (Instr.sliceAt 23 (.slice ad l.length c) (some (.int .i64 (k : Int))) (some (.int .i64 (u : Int))) none).run Tryz.prog w = .ok (.slice (if c = k then ad else ad.map (·.add k)) (u - k) (c - k)) w := by
      rw [run_sliceAt_slice w 23 _ _ _ _ (by kernel_rfl), run_slice_lh w 23 _ _ _ (by kernel_rfl) .i64 .i64 (k : Int) (u : Int) (by omega) (by omega) (by omega), es]
      simp only [Result.andThen, sliced, Int.toNat_natCast, Nat.mul_one]
    refine ⟨_, _, hrun, ?_⟩
    rw [List.drop_take]
    refine isBytes_takeR ?_ (u - k)
    cases ad with
    | some x =>
      have := part_bytes_q h2 (show k ≤ l.length by omega)
      split
      · rename_i e; rw [if_pos e] at this; exact this
      · rename_i e; rw [if_neg e] at this; exact this
    | none =>
      rcases h2 with ⟨_, rfl, rfl⟩ | ⟨x, h, _⟩
      · refine .inl ⟨by split <;> rfl, by simp, by omega⟩
      · cases h
  obtain ⟨a', c', h3, h4⟩ := key
  refine loc_run (v := .slice a' (u - k) c') ?_ (Below.refl _ _) (hs _ ⟨a', c', by rw [List.length_drop, List.length_take, Nat.min_eq_left hu], h4⟩)
  unfold execOp
  simp only [ho, h1, hy, hz, Option.map_some, Option.map_none, Sem.run_bind, h3, Result.andThen_ok, Sem.run_pure]
theorem loc_callPx {y1 y2 y3 y4 y5 : Operand} {ts : Array TypeId} (ho : o.op = .call { callee := .value (.func 12), args := #[y1, y2, y3, y4, y5], argTypes := ts }) {L : (Nat → Prop) × (Nat → Prop)} {r : RS} {l : List UInt8} {most body room : Int} {mm : Int} (hok : HdOk w mm) (h1 : AgS L r w (a.eval y1)) (h2 : BytesV w (a.eval y2) l) (h3 : a.eval y3 = .int .i64 most) (h4 : a.eval y4 = .int .i64 body) (h5 : a.eval y5 = .int .i64 room)
    (hl : l.length ≤ 1000000) (hr : OkN body r) (hb0 : 0 ≤ body ∧ body ≤ 1000000000) (hr0 : -1000000000 ≤ room ∧ room ≤ 1000000000) (hL : ∀ k, w.heap.size ≤ k → L.1 k ∧ L.2 k) (hs : ∀ v w', NxV L (nextX r l most body room) w' v → s.p v w') :
    o.wp Tryz.prog a w (fun a' w' => ∃ v, a' = a.put o.dst v ∧ Below w.heap.size w w' ∧ s.p v w') Q := by
  obtain ⟨fa, fc, ga, gc, la, lc, e1, hm⟩ := h1
  obtain ⟨ba, bc, e2, hb⟩ := h2
  refine loc_call (args := [y1, y2, y3, y4, y5]) ho (by kernel_rfl) ?_
  show Calls _ _ #[a.eval y1, a.eval y2, a.eval y3, a.eval y4, a.eval y5] _ _
  rw [e1, e2, h3, h4, h5]
  refine (projNextF_any L.1 r l most body room ba bc fa ga la fc gc lc w mm hb hl hm.m hok hr hb0 hr0 (fun k hk => (hL k hk).1)).mono ?_
  rintro e w' ⟨fa', fc', ga', gc', la', lc', pa, pc, he, hm', hlf, hd, hbb⟩
  exact ⟨_, he, hbb, hs _ _ ⟨fa', fc', ga', gc', la', lc', pa, pc, rfl, ⟨hm', fun y e hx => (hL _ (hlf y e hx)).2⟩, hd⟩⟩
/-- A reader is stored in a new variable. -/
theorem wp_storeRn {K : Act → World → Prop} {y z : Operand} (ho : o.op = .store 37 y z) {N : Nat} {L : (Nat → Prop) × (Nat → Prop)} {r : RS} (h1 : RNew N w (a.eval y)) (h2 : AgS L r w (a.eval z)) (hm : NmS r) (hK : ∀ g cs, a.eval y = .pointer (some ⟨g, 0, none⟩) → N ≤ g → RVr w g #[.bool false, .string ⟨#[]⟩, .int .i64 0, .string ⟨#[]⟩, .string ⟨#[]⟩, .int .i64 0, .slice none 0 0, .bool false, .slice none 0 0, .int .i64 0, .string ⟨#[]⟩, .int .i64 0, .slice none 0 0, .slice none 0 0, .int .i64 0, .int .i64 0, .int .i64 0, .int .i64 0, .int .i64 0, .int .i64 0, .int .i64 0, .slice none 0 0] → RSt N L r (w.setRow g cs) (a.eval y) → K (a.put o.dst undef) (w.setRow g cs)) : o.wp Tryz.prog a w K Q := by
  obtain ⟨g, e1, hN, hg⟩ := h1
  obtain ⟨fa, fc, ga, gc, la, lc, e2, h3⟩ := h2
  refine wp_store_row 37 _ _ ho g #[.bool r.rep, .string r.meth, .int .i64 r.ph, .string r.m, .string r.t, .int .i64 r.z, .slice fa (List.length r.xs) fc, .bool r.fr, .slice none 0 0, .int .i64 r.st, .string r.rs, .int .i64 r.z2, .slice ga (List.length r.ys) gc, .slice none 0 0, .int .i64 r.fk, .int .i64 r.fl, .int .i64 r.left, .int .i64 r.size, .int .i64 r.ck.ph, .int .i64 r.ck.left, .int .i64 r.ck.tr, .slice la (List.length r.ck.line) lc] e1 e2 37 _ hg sizeRd rfl (oneRd ..) ?_
  refine hK g _ e1 hN hg ?_
  rw [e1]
  exact ⟨g, rfl, hN, fa, fc, ga, gc, la, lc, setRow_heap _ _ _ _ _ _ hg, h3.rowZ hm hg zero_noStr zero_noU8⟩
theorem wp_storePn {K : Act → World → Prop} {y z : Operand} (ho : o.op = .store 41 y z) {N : Nat} {x : NX} (h1 : PNew N w (a.eval y)) (h2 : AgP x w (a.eval z)) (hK : ∀ g cs, a.eval y = .pointer (some ⟨g, 0, none⟩) → N ≤ g → PVr w g #[.int .i64 0, .slice none 0 0] → PSt N x (w.setRow g cs) (a.eval y) → K (a.put o.dst undef) (w.setRow g cs)) : o.wp Tryz.prog a w K Q := by
  obtain ⟨g, e1, hN, hg⟩ := h1
  obtain ⟨pa, pc, e2, h3⟩ := h2
  refine wp_store_row 41 _ _ ho g #[.int .i64 x.kind, .slice pa (List.length x.data) pc] e1 e2 41 _ hg sizePt rfl (onePt ..) ?_
  refine hK g _ e1 hN hg ?_
  rw [e1]
  exact ⟨g, rfl, hN, pa, pc, setRow_heap _ _ _ _ _ _ hg, isBytes_rowR hg zp_noU8 h3⟩
/-- A reader is stored in an elder variable. -/
theorem wp_storeRo {K : Act → World → Prop} {y z : Operand} (ho : o.op = .store 37 y z) {L : (Nat → Prop) × (Nat → Prop)} {g : Nat} {r r0 : RS} (h1 : a.eval y = .pointer (some ⟨g, 0, none⟩)) (h0 : StV L r0 w g) (hg : ¬ L.1 g) (h2 : AgS L r w (a.eval z)) (hK : ∀ cs ds, RVr w g ds → NoU8 ds → StV L r (w.setRow g cs) g → K (a.put o.dst undef) (w.setRow g cs)) : o.wp Tryz.prog a w K Q := by
  obtain ⟨fa0, fc0, ga0, gc0, la0, lc0, hr0, _⟩ := h0
  obtain ⟨fa, fc, ga, gc, la, lc, e2, h3⟩ := h2
  refine wp_store_row 37 _ _ ho g #[.bool r.rep, .string r.meth, .int .i64 r.ph, .string r.m, .string r.t, .int .i64 r.z, .slice fa (List.length r.xs) fc, .bool r.fr, .slice none 0 0, .int .i64 r.st, .string r.rs, .int .i64 r.z2, .slice ga (List.length r.ys) gc, .slice none 0 0, .int .i64 r.fk, .int .i64 r.fl, .int .i64 r.left, .int .i64 r.size, .int .i64 r.ck.ph, .int .i64 r.ck.left, .int .i64 r.ck.tr, .slice la (List.length r.ck.line) lc] h1 e2 37 _ hr0 sizeRd rfl (oneRd ..) ?_
  exact hK _ _ hr0 (noU8_22 rfl) ⟨fa, fc, ga, gc, la, lc, setRow_heap _ _ _ _ _ _ hr0, h3.rowL hg hr0 (noU8_22 rfl)⟩
end
end Go.Proofs.YtejbkbccljoldaaGreatDoor
namespace Go.Proofs.YtejbkbccljoldaaGreatDoor
open Go.RowKit

set_option linter.unusedVariables false
def akR : List UInt8 := [80, 79, 83, 84, 32, 47, 32, 72, 84, 84, 80, 47, 49, 46, 49, 13, 10, 72, 111, 115, 116, 58, 32, 97, 13, 10, 67, 111, 110, 116, 101, 110, 116, 45, 76, 101, 110, 103, 116, 104, 58, 32, 51, 13, 10, 13, 10, 97, 98, 99, 71, 69, 84]
def ak1 : NX := nextX zeroR akR 100 10 10
def ak2 : NX := nextX ak1.r (akR.drop 47) 100 10 10
def ak3 : NX := nextX ak2.r (akR.drop 50) 100 10 10
theorem ak1_f : ak1.er = 0 ∧ ak1.kind = 1 ∧ ak1.n = 47 ∧ ak1.r.fr = true := by decide +kernel
theorem ak2_f : ak2.er = 0 ∧ ak2.kind = 2 ∧ ak2.n = 3 ∧ ak2.data = [97, 98, 99] := by decide +kernel
theorem ak3_f : ak3.er = 0 ∧ ak3.kind = 3 ∧ ak3.n = 0 := by decide +kernel
theorem okN_zero : OkN 10 zeroR := ⟨okC_zeroR, .inl rfl, fun h => absurd h (by decide), fun h => absurd h (by decide), fun h => absurd h (by decide), fun h => absurd h (by decide)⟩
theorem ak1_ok : OkN 10 ak1.r := (nextX_ok (by decide) (by decide) okN_zero ak1_f.1).1
theorem ak2_ok : OkN 10 ak2.r := (nextX_ok (by decide) (by decide) ak1_ok ak2_f.1).1
theorem ak1_nm : NmS ak1.r := nextX_names nmS_zero _ _ _ _
theorem ak2_nm : NmS ak2.r := nextX_names ak1_nm _ _ _ _
theorem ak3_nm : NmS ak3.r := nextX_names ak2_nm _ _ _ _
section
variable {L : (Nat → Prop) × (Nat → Prop)} {N q : Nat} {s : RS} {x : NX} {w : World} {v : Value} {cs ds : Array Value} {T : TypeId} {fz : Nat × Nat}
theorem NxV.rowL (h : NxV L x w v) (hq : ¬ L.1 q) (hr : w.heap[q]? = some (.cells cs T fz)) (hu : NoU8 cs) : NxV L x (w.setRow q ds) v := by
  obtain ⟨fa, fc, ga, gc, la, lc, pa, pc, h1, h2, h3⟩ := h
  exact ⟨fa, fc, ga, gc, la, lc, pa, pc, h1, h2.rowL hq hr hu, isBytes_rowR hr hu h3⟩
theorem AgS.rowL (h : AgS L s w v) (hq : ¬ L.1 q) (hr : w.heap[q]? = some (.cells cs T fz)) (hu : NoU8 cs) : AgS L s (w.setRow q ds) v := by
  obtain ⟨fa, fc, ga, gc, la, lc, h1, h2⟩ := h
  exact ⟨fa, fc, ga, gc, la, lc, h1, h2.rowL hq hr hu⟩
theorem prow_noStr (k : Int) (a : Option Addr) (n c : Nat) : NoStr #[.int .i64 k, .slice a n c] := noStr_of rfl
theorem prow_noU8 (k : Int) (a : Option Addr) (n c : Nat) : NoU8 #[.int .i64 k, .slice a n c] := noU8_22 rfl
end
theorem wp_storePo {a : Act} {w : World} {o : Oper} {Q : Exit → Act → World → Prop} {K : Act → World → Prop} {y z : Operand} (ho : o.op = .store 41 y z) {g : Nat} {x x0 : NX} (h1 : a.eval y = .pointer (some ⟨g, 0, none⟩)) (h0 : PtV x0 w g) (h2 : AgP x w (a.eval z)) (hK : ∀ cs ds, PVr w g ds → NoU8 ds → NoStr ds → PtV x (w.setRow g cs) g → K (a.put o.dst undef) (w.setRow g cs)) : o.wp Tryz.prog a w K Q := by
  obtain ⟨pa0, pc0, hr0, _⟩ := h0
  obtain ⟨pa, pc, e2, h3⟩ := h2
  refine wp_store_row 41 _ _ ho g #[.int .i64 x.kind, .slice pa (List.length x.data) pc] h1 e2 41 _ hr0 sizePt rfl (onePt ..) ?_
  exact hK _ _ hr0 (prow_noU8 _ _ _ _) (prow_noStr _ _ _ _) ⟨pa, pc, setRow_heap _ _ _ _ _ _ hr0, isBytes_rowR hr0 (prow_noU8 _ _ _ _) h3⟩
/-- In awake: the two variables, the bytes. -/
structure AwJ (w : World) (g2 g3 : Nat) (s : RS) (y : NX) (W : World) : Prop where
  st : StV (fun k => k ≠ g2, fun _ => True) s W g2
  pt : PtV y W g3
  bt : IsBytes W (some ⟨w.heap.size, 0, none⟩) akR 53
  bl : Below w.heap.size w W
  ne : g3 ≠ g2 ∧ w.heap.size ≤ g2 ∧ w.heap.size ≤ g3 ∧ g2 < W.heap.size ∧ g3 < W.heap.size
theorem AwJ.keep {w : World} {g2 g3 : Nat} {s : RS} {y : NX} {W W' : World} (h : AwJ w g2 g3 s y W) (hb : Below W.heap.size W W') : AwJ w g2 g3 s y W' :=
  ⟨h.st.keep hb, h.pt.keep hb, h.bt.keep hb, below_trans h.bl hb, h.ne.1, h.ne.2.1, h.ne.2.2.1, Nat.lt_of_lt_of_le h.ne.2.2.2.1 hb.size, Nat.lt_of_lt_of_le h.ne.2.2.2.2 hb.size⟩
set_option maxRecDepth 100000 in
set_option maxHeartbeats 2000000 in
theorem awakeN_any (mm : Int) (w : World) (hm : HdOk w mm) : Calls Tryz.prog 17 #[] w fun e w' => e = .returned (.bool true) ∧ Below w.heap.size w w' := by
  have kc := fun (w : World) (C : Array Value) (n c : Nat) => Lib.run_convert_bytes_const (P := Tryz.prog) w 23 5 C n c Tryz.underlying23 Tryz.underlying5
  have HM := Box.mk hm
  clear hm
  go_enter Tryz.func17, Tryz.ntmps17
  go_wp2_with fail
  clear kc
  obtain ⟨W1, hW1⟩ : ∃ W1, W1 = w.alloc (.cells (bytesV akR).toArray 5 (53, 54)) := ⟨_, rfl⟩
  have HB1 := Box.mk (show Below w.heap.size w W1 by rw [hW1]; exact below_oneF w _)
  have HBY := Box.mk (show IsBytes W1 (some ⟨w.heap.size, 0, none⟩) akR 53 by rw [hW1]; exact row_bytesH (heap_alloc_new w (.cells (bytesV akR).toArray 5 (53, 54))) (by decide))
  change Calls _ _ _ (w.alloc (.cells (bytesV akR).toArray 5 (53, 54))) _
  rw [← hW1]
  clear hW1
  refine (forRequest_any W1).mono ?_
  rintro e w2 ⟨rfl, hb2⟩
  have HBY2 := Box.mk (HBY.out.keep hb2)
  have HB2 := Box.mk (below_trans HB1.out hb2)
  clear hb2 HBY HB1
  have HC := Box.mk (show Calls Tryz.prog 12 #[.agg #[.bool false, .string ⟨#[]⟩, .int .i64 0, .string ⟨#[]⟩, .string ⟨#[]⟩, .int .i64 0, .slice none 0 0, .bool false, .slice none 0 0, .int .i64 0, .string ⟨#[]⟩, .int .i64 0, .slice none 0 0, .slice none 0 0, .int .i64 0, .int .i64 0, .int .i64 0, .int .i64 0, .int .i64 0, .int .i64 0, .int .i64 0, .slice none 0 0], .slice (some ⟨w.heap.size, 0, none⟩) 53 53, .int .i64 100, .int .i64 10, .int .i64 10] w2 (RetX (fun _ => True) w2 ak1) from projNext_any (fun _ => True) zeroR akR 100 10 10 (some ⟨w.heap.size, 0, none⟩) 53 none none none 0 0 0 w2 mm HBY2.out (by decide) ⟨FldsIn.nil _ _, FldsIn.nil _ _, .inl ⟨rfl, rfl, rfl⟩, (fun y e => by cases e), (fun y e => by cases e)⟩ (HM.out.keep HB2.out) okN_zero (by decide) (by decide) (fun _ _ => trivial))
  go_wp2_with fail
  refine HC.out.mono ?_
  rintro e w3 ⟨f4, c4, g4, d4, l4, e4, pa, pc, he, hm3, hd3, hb3⟩
  obtain ⟨cr, hcr⟩ : ∃ cr : Array Value, cr = #[.bool ak1.r.rep, .string ak1.r.meth, .int .i64 ak1.r.ph, .string ak1.r.m, .string ak1.r.t, .int .i64 ak1.r.z, .slice f4 (List.length ak1.r.xs) c4, .bool ak1.r.fr, .slice none 0 0, .int .i64 ak1.r.st, .string ak1.r.rs, .int .i64 ak1.r.z2, .slice g4 (List.length ak1.r.ys) d4, .slice none 0 0, .int .i64 ak1.r.fk, .int .i64 ak1.r.fl, .int .i64 ak1.r.left, .int .i64 ak1.r.size, .int .i64 ak1.r.ck.ph, .int .i64 ak1.r.ck.left, .int .i64 ak1.r.ck.tr, .slice l4 (List.length ak1.r.ck.line) e4] := ⟨_, rfl⟩
  obtain ⟨pr, hpr⟩ : ∃ pr : Array Value, pr = #[.int .i64 ak1.kind, .slice pa (List.length ak1.data) pc] := ⟨_, rfl⟩
  rw [← hcr, ← hpr, ak1_f.1, ak1_f.2.2.1] at he
  subst he
  have HCR := Box.mk hcr
  have HPR := Box.mk hpr
  have hcr22 : cr.size = 22 := by rw [hcr]; rfl
  have hcr1 : cr.all (·.oneCell') = true := by rw [hcr]; exact oneRd ..
  have hpr2 : pr.size = 2 := by rw [hpr]; rfl
  have hpr1 : pr.all (·.oneCell') = true := by rw [hpr]; exact onePt ..
  have HSR := Box.mk (show (Tryz.prog.info? 37).map (·.size) = some cr.size by rw [hcr22]; exact sizeRd)
  have HSP := Box.mk (show (Tryz.prog.info? 41).map (·.size) = some pr.size by rw [hpr2]; exact sizePt)
  have HB3 := Box.mk (below_trans HB2.out hb3)
  have HBY3 := Box.mk (HBY2.out.keep hb3)
  have HR3 := Box.mk hm3
  have HD3 := Box.mk hd3
  have hw3 := HB3.out.size
  clear hcr hpr hm3 hd3 hb3 HC HB2 HBY2
  obtain ⟨W4, hW4⟩ : ∃ W4, W4 = (w3.alloc (.cells #[.bool false, .string ⟨#[]⟩, .int .i64 0, .string ⟨#[]⟩, .string ⟨#[]⟩, .int .i64 0, .slice none 0 0, .bool false, .slice none 0 0, .int .i64 0, .string ⟨#[]⟩, .int .i64 0, .slice none 0 0, .slice none 0 0, .int .i64 0, .int .i64 0, .int .i64 0, .int .i64 0, .int .i64 0, .int .i64 0, .int .i64 0, .slice none 0 0] 37)).alloc (.cells #[.int .i64 0, .slice none 0 0] 41) := ⟨_, rfl⟩
  have HV2 := Box.mk (show RVr W4 w3.heap.size #[.bool false, .string ⟨#[]⟩, .int .i64 0, .string ⟨#[]⟩, .string ⟨#[]⟩, .int .i64 0, .slice none 0 0, .bool false, .slice none 0 0, .int .i64 0, .string ⟨#[]⟩, .int .i64 0, .slice none 0 0, .slice none 0 0, .int .i64 0, .int .i64 0, .int .i64 0, .int .i64 0, .int .i64 0, .int .i64 0, .int .i64 0, .slice none 0 0] by rw [hW4]; exact RVr.keep (heap_alloc_new w3 (.cells #[.bool false, .string ⟨#[]⟩, .int .i64 0, .string ⟨#[]⟩, .string ⟨#[]⟩, .int .i64 0, .slice none 0 0, .bool false, .slice none 0 0, .int .i64 0, .string ⟨#[]⟩, .int .i64 0, .slice none 0 0, .slice none 0 0, .int .i64 0, .int .i64 0, .int .i64 0, .int .i64 0, .int .i64 0, .int .i64 0, .int .i64 0, .slice none 0 0] 37)) (below_oneF _ _))
  have HV3 := Box.mk (show PVr W4 (w3.heap.size + 1) #[.int .i64 0, .slice none 0 0] by
    have h := heap_alloc_new (w3.alloc (.cells #[.bool false, .string ⟨#[]⟩, .int .i64 0, .string ⟨#[]⟩, .string ⟨#[]⟩, .int .i64 0, .slice none 0 0, .bool false, .slice none 0 0, .int .i64 0, .string ⟨#[]⟩, .int .i64 0, .slice none 0 0, .slice none 0 0, .int .i64 0, .int .i64 0, .int .i64 0, .int .i64 0, .int .i64 0, .int .i64 0, .int .i64 0, .slice none 0 0] 37)) (.cells #[.int .i64 0, .slice none 0 0] 41)
    rw [World.size_alloc] at h
    rw [hW4]; exact h)
  have HB4 := Box.mk (show Below w3.heap.size w3 W4 by rw [hW4]; exact below_twoF (below_oneF _ _) _)
  have HV3b := Box.mk (show PVr (W4.setRow w3.heap.size cr) (w3.heap.size + 1) #[.int .i64 0, .slice none 0 0] from (setRow_other _ _ _ _ (by omega)).trans HV3.out)
  rw [hW4] at HV2 HV3b
  go_upto_region 3 with (first | refine wpList_store_row rfl 37 _ _ rfl w3.heap.size cr rfl rfl 37 _ HV2.out HSR.out (by rw [hcr22]; rfl) hcr1 ?_ | refine wpList_store_row rfl 41 _ _ rfl (w3.heap.size + 1) pr rfl rfl 41 _ HV3b.out HSP.out (by rw [hpr2]; rfl) hpr1 ?_)
  rw [← hW4] at HV2 HV3b
  rw [← hW4]
  clear hW4
  obtain ⟨g2, hg2⟩ : ∃ g2, g2 = w3.heap.size := ⟨_, rfl⟩
  obtain ⟨g3, hg3⟩ : ∃ g3, g3 = w3.heap.size + 1 := ⟨_, rfl⟩
  obtain ⟨W5, hW5⟩ : ∃ W5, W5 = (W4.setRow w3.heap.size cr).setRow (w3.heap.size + 1) pr := ⟨_, rfl⟩
  have hR5 : RVr W5 g2 #[.bool ak1.r.rep, .string ak1.r.meth, .int .i64 ak1.r.ph, .string ak1.r.m, .string ak1.r.t, .int .i64 ak1.r.z, .slice f4 (List.length ak1.r.xs) c4, .bool ak1.r.fr, .slice none 0 0, .int .i64 ak1.r.st, .string ak1.r.rs, .int .i64 ak1.r.z2, .slice g4 (List.length ak1.r.ys) d4, .slice none 0 0, .int .i64 ak1.r.fk, .int .i64 ak1.r.fl, .int .i64 ak1.r.left, .int .i64 ak1.r.size, .int .i64 ak1.r.ck.ph, .int .i64 ak1.r.ck.left, .int .i64 ak1.r.ck.tr, .slice l4 (List.length ak1.r.ck.line) e4] := by rw [hW5, hg2, ← HCR.out]; exact (setRow_other _ _ _ _ (by omega)).trans (setRow_heap _ _ _ _ _ _ HV2.out)
  have hP5 : PVr W5 g3 #[.int .i64 ak1.kind, .slice pa (List.length ak1.data) pc] := by rw [hW5, hg3, ← HPR.out]; exact setRow_heap _ _ _ _ _ _ HV3b.out
  have hb35 : Below w3.heap.size w3 W5 := by rw [hW5]; exact below_setRow (below_setRow HB4.out (Nat.le_refl _) _) (by omega) _
  have hm5 := HR3.out.keep hb35
  have HJ := Box.mk (show AwJ w g2 g3 ak1.r ak1 W5 from ⟨⟨f4, c4, g4, d4, l4, e4, hR5, ⟨hm5.f1, hm5.f2, hm5.ln, fun y e hx => by have := HR3.out.f1.old e hx; show y.block ≠ g2; omega, fun y e hx => by have := HR3.out.f2.old e hx; show y.block ≠ g2; omega⟩, fun _ _ _ => trivial⟩, ⟨pa, pc, hP5, HD3.out.keep hb35⟩, HBY3.out.keep hb35, below_trans HB3.out hb35, by omega, by omega, by omega, hR5.lt, (Array.getElem?_eq_some_iff.1 hP5).1⟩)
  have hk0 : W5.cell? ⟨g3, 0, none⟩ = some (.int .i64 1) := by rw [cell_of_row _ _ _ _ _ _ hP5]; show some (Value.int .i64 ak1.kind) = _; rw [ak1_f.2.1]
  have hk7 : W5.cell? ⟨g2, 7, none⟩ = some (.bool true) := by rw [RVr.cell hR5]; show some (Value.bool ak1.r.fr) = _; rw [ak1_f.2.2.2]
  rw [← hg3]
  rw [← hg3] at hW5
  rw [← hg2]
  rw [← hg2] at hW5
  rw [← hW5]
  clear hW5 hR5 hP5 hb35 hm5 HV2 HV3 HV3b HB4 HCR HPR HSR HSP hcr1 hpr1 hcr22 hpr2 HB3 HBY3 HR3 HD3 hg2 hg3 hw3
  go_wp2_with fail
  rename_i K hK
  clear hk0 hk7
  refine wp_region_phases [9, 10] (fun p => match p with | 0 => [0, 1, 2, 3, 4, 5, 6, 7, 8] | 1 => [6, 7, 8] | _ => [7, 8, 11, 12])
    (fun p => match p with | 0 => [.srow (fun k => k ≠ g2, fun _ => True) ak1.r, .val (.slice (some ⟨w.heap.size, 0, none⟩) 53 53), .bytes (akR.drop 47), .nxt (fun k => k ≠ g2, fun _ => True) ak2, .nxt (fun k => k ≠ g2, fun _ => True) ak2, .srow (fun k => k ≠ g2, fun _ => True) ak2.r, .prow ak2, .val (.int .i64 (ak2.n : Int)), .val (.int .i64 ak2.er), .any, .any, .nope, .nope] | 1 => [.any, .any, .any, .any, .nxt (fun k => k ≠ g2, fun _ => True) ak2, .any, .prow ak2, .val (.int .i64 (ak2.n : Int)), .val (.int .i64 ak2.er), .any, .any, .nope, .nope] | _ => [.any, .any, .any, .any, .nxt (fun k => k ≠ g2, fun _ => True) ak2, .any, .any, .val (.int .i64 (ak2.n : Int)), .val (.int .i64 ak2.er), .any, .any, .val (.int .i64 (ak2.n : Int)), .val (.int .i64 ak2.er)])
    (fun p => match p with | 0 => AwJ w g2 g3 ak1.r ak1 | 1 => AwJ w g2 g3 ak2.r ak1 | _ => AwJ w g2 g3 ak2.r ak2)
    (by kernel_rfl) (by kernel_rfl) (by kernel_rfl) (by kernel_rfl) (by kernel_rfl) (by kernel_rfl) ?_ HJ.out ?_ ?_ ?_
  · intro p wa wb h hb
    match p, h with
    | 0, h => exact AwJ.keep h hb
    | 1, h => exact AwJ.keep h hb
    | (_ + 2), h => exact AwJ.keep h hb
  · intro p hp
    match p, hp with
    | 0, _ =>
      refine ⟨?_, ?_, ?_, ?_, ?_, ?_, ?_, ?_, ?_, trivial⟩ <;> intro a1 wx hv hf hd
      · exact ⟨wanted_none rfl, loc_loadS rfl (hf.base 2 rfl) hv.st fun v h => h⟩
      · exact ⟨wanted_none rfl, loc_move rfl (hf.base 1 rfl)⟩
      · exact ⟨wanted_none rfl, loc_from rfl (l := akR) (i := 47) ⟨_, _, hd 1 rfl, hv.bt⟩ rfl (by decide) fun v h => h⟩
      · exact ⟨wanted_none rfl, loc_callPx rfl (HM.out.keep hv.bl) (hd 0 rfl) (hd 2 rfl) rfl rfl rfl (by decide) ak1_ok (by decide) (by decide) (fun k hk => ⟨by have := hv.ne.2.2.2.1; show k ≠ g2; omega, trivial⟩) fun v w' h => h⟩
      · exact ⟨wanted_none rfl, loc_move rfl (hd 3 rfl)⟩
      · exact ⟨wanted_none rfl, loc_nx0 rfl (hd 4 rfl) fun v h => h⟩
      · exact ⟨wanted_none rfl, loc_nx1 rfl (hd 4 rfl) fun v h => h⟩
      · exact ⟨wanted_none rfl, loc_nx2 rfl (hd 4 rfl) rfl⟩
      · exact ⟨wanted_none rfl, loc_nx3 rfl (hd 4 rfl) rfl⟩
    | 1, _ =>
      refine ⟨?_, ?_, ?_, trivial⟩ <;> intro a1 wx hv hf hd
      · exact ⟨wanted_none rfl, loc_nx1 rfl (hd 4 rfl) fun v h => h⟩
      · exact ⟨wanted_none rfl, loc_nx2 rfl (hd 4 rfl) rfl⟩
      · exact ⟨wanted_none rfl, loc_nx3 rfl (hd 4 rfl) rfl⟩
    | 2, _ =>
      refine ⟨?_, ?_, ?_, ?_, trivial⟩ <;> intro a1 wx hv hf hd
      · exact ⟨wanted_none rfl, loc_nx2 rfl (hd 4 rfl) rfl⟩
      · exact ⟨wanted_none rfl, loc_nx3 rfl (hd 4 rfl) rfl⟩
      · exact ⟨wanted_none rfl, loc_assign rfl (hd 7 rfl)⟩
      · exact ⟨wanted_none rfl, loc_assign rfl (hd 8 rfl)⟩
  · intro p hp
    match p, hp with
    | 0, _ =>
      intro a2 wx hv hf hd
      refine ⟨wanted_none rfl, wp_storeRo rfl (hf.base 2 rfl) hv.st (fun e => e rfl) (hd 5 rfl) fun cs ds hr hu hst => ?_⟩
      have hsz : (wx.setRow g2 cs).heap.size = wx.heap.size := by simp [World.setRow]
      exact ⟨undef, rfl, ⟨hst, hv.pt.rowZ hv.ne.1 hr hu, isBytes_rowR hr hu hv.bt, below_setRow hv.bl hv.ne.2.1 _, hv.ne.1, hv.ne.2.1, hv.ne.2.2.1, by rw [hsz]; exact hv.ne.2.2.2.1, by rw [hsz]; exact hv.ne.2.2.2.2⟩, trivial, ⟨.inr fun _ _ _ => trivial, .inr fun _ _ _ => trivial, .inr fun _ _ _ => trivial, .inr fun _ _ _ => trivial, .inr fun _ _ h => NxV.rowL h (fun e => e rfl) hr hu, .inr fun _ _ _ => trivial, .inr fun _ _ h => AgP.rowZ h hr hu, .inr fun _ _ h => h, .inr fun _ _ h => h, .inl rfl, .inr fun _ _ _ => trivial, .inr fun _ _ h => h.elim, .inr fun _ _ h => h.elim, trivial⟩⟩
    | 1, _ =>
      intro a2 wx hv hf hd
      refine ⟨wanted_none rfl, wp_storePo rfl (hf.base 3 rfl) hv.pt (hd 6 rfl) fun cs ds hr hu hs hpt => ?_⟩
      have hsz : (wx.setRow g3 cs).heap.size = wx.heap.size := by simp [World.setRow]
      exact ⟨undef, rfl, ⟨hv.st.rowZ ak2_nm (fun e => hv.ne.1 e.symm) hr hs hu, hpt, isBytes_rowR hr hu hv.bt, below_setRow hv.bl hv.ne.2.2.1 _, hv.ne.1, hv.ne.2.1, hv.ne.2.2.1, by rw [hsz]; exact hv.ne.2.2.2.1, by rw [hsz]; exact hv.ne.2.2.2.2⟩, trivial, ⟨.inr fun _ _ _ => trivial, .inr fun _ _ _ => trivial, .inr fun _ _ _ => trivial, .inr fun _ _ _ => trivial, .inr fun _ _ h => NxV.rowZ h ak2_nm hr hs hu, .inr fun _ _ _ => trivial, .inr fun _ _ _ => trivial, .inr fun _ _ h => h, .inr fun _ _ h => h, .inr fun _ _ _ => trivial, .inl rfl, .inr fun _ _ h => h.elim, .inr fun _ _ h => h.elim, trivial⟩⟩
  · intro a2 w9 hv hf hh
    have e4 : a2.eval (.tmp 4) = .int .i64 (ak2.n : Int) := hh 11 (by decide)
    have e5 : a2.eval (.tmp 5) = .int .i64 ak2.er := hh 12 (by decide)
    clear hh
    rw [fr_putAll hf]
    clear hf
    simp only [putAll, e4, e5]
    generalize a2.eval (.tmp 34) = u34
    generalize a2.eval (.tmp 35) = u35
    generalize a2.eval (.tmp 36) = u36
    generalize a2.eval (.tmp 37) = u37
    generalize a2.eval (.tmp 33) = u33
    generalize a2.eval (.tmp 38) = u38
    generalize a2.eval (.tmp 39) = u39
    generalize a2.eval (.tmp 40) = u40
    generalize a2.eval (.tmp 41) = u41
    clear e4 e5 a2
    simp only [Act.put, List.setIfInBounds_toArray, List.set_cons_succ, List.set_cons_zero]
    rw [ak2_f.1, ak2_f.2.2.1]
    refine hK _ _ ?_
    clear hK
    obtain ⟨pa, pc, hp, hd⟩ := hv.pt
    have hk0 : w9.cell? ⟨g3, 0, none⟩ = some (.int .i64 2) := by rw [cell_of_row _ _ _ _ _ _ hp]; show some (Value.int .i64 ak2.kind) = _; rw [ak2_f.2.1]
    have hk1 : w9.cell? ⟨g3, 1, none⟩ = some (.slice pa (List.length ak2.data) pc) := by rw [cell_of_row _ _ _ _ _ _ hp]; rfl
    have hcv := conv_bytes hd
    rw [show (⟨ak2.data.toArray⟩ : ByteArray) = ⟨#[97, 98, 99]⟩ by rw [ak2_f.2.2.2]] at hcv
    have HV := Box.mk hv
    clear hv hp hd
    go_wp2_with fail
    rename_i K hK
    clear hk0 hk1 hcv
    refine wp_region_phases [9] (fun p => match p with | 0 => [0, 1, 2, 3, 4, 5, 6, 7, 8] | _ => [5, 7, 8, 10, 11])
      (fun p => match p with | 0 => [.srow (fun k => k ≠ g2, fun _ => True) ak2.r, .val (.slice (some ⟨w.heap.size, 0, none⟩) 53 53), .bytes (akR.drop 50), .nxt (fun k => k ≠ g2, fun _ => True) ak3, .nxt (fun k => k ≠ g2, fun _ => True) ak3, .srow (fun k => k ≠ g2, fun _ => True) ak3.r, .prow ak3, .val (.int .i64 (ak3.n : Int)), .val (.int .i64 ak3.er), .any, .nope, .nope] | _ => [.any, .any, .any, .any, .nxt (fun k => k ≠ g2, fun _ => True) ak3, .srow (fun k => k ≠ g2, fun _ => True) ak3.r, .any, .val (.int .i64 (ak3.n : Int)), .val (.int .i64 ak3.er), .any, .val (.int .i64 (ak3.n : Int)), .val (.int .i64 ak3.er)])
      (fun p => match p with | 0 => AwJ w g2 g3 ak2.r ak2 | _ => AwJ w g2 g3 ak2.r ak3)
      (by kernel_rfl) (by kernel_rfl) (by kernel_rfl) (by kernel_rfl) (by kernel_rfl) (by kernel_rfl) ?_ HV.out ?_ ?_ ?_
    · intro p wa wb h hb
      match p, h with
      | 0, h => exact AwJ.keep h hb
      | (_ + 1), h => exact AwJ.keep h hb
    · intro p hp
      match p, hp with
      | 0, _ =>
        refine ⟨?_, ?_, ?_, ?_, ?_, ?_, ?_, ?_, ?_, trivial⟩ <;> intro a1 wx hv hf hd
        · exact ⟨wanted_none rfl, loc_loadS rfl (hf.base 2 rfl) hv.st fun v h => h⟩
        · exact ⟨wanted_none rfl, loc_move rfl (hf.base 1 rfl)⟩
        · exact ⟨wanted_none rfl, loc_from rfl (l := akR) (i := 50) ⟨_, _, hd 1 rfl, hv.bt⟩ rfl (by decide) fun v h => h⟩
        · exact ⟨wanted_none rfl, loc_callPx rfl (HM.out.keep hv.bl) (hd 0 rfl) (hd 2 rfl) rfl rfl rfl (by decide) ak2_ok (by decide) (by decide) (fun k hk => ⟨by have := hv.ne.2.2.2.1; show k ≠ g2; omega, trivial⟩) fun v w' h => h⟩
        · exact ⟨wanted_none rfl, loc_move rfl (hd 3 rfl)⟩
        · exact ⟨wanted_none rfl, loc_nx0 rfl (hd 4 rfl) fun v h => h⟩
        · exact ⟨wanted_none rfl, loc_nx1 rfl (hd 4 rfl) fun v h => h⟩
        · exact ⟨wanted_none rfl, loc_nx2 rfl (hd 4 rfl) rfl⟩
        · exact ⟨wanted_none rfl, loc_nx3 rfl (hd 4 rfl) rfl⟩
      | 1, _ =>
        refine ⟨?_, ?_, ?_, ?_, ?_, trivial⟩ <;> intro a1 wx hv hf hd
        · exact ⟨wanted_none rfl, loc_nx0 rfl (hd 4 rfl) fun v h => h⟩
        · exact ⟨wanted_none rfl, loc_nx2 rfl (hd 4 rfl) rfl⟩
        · exact ⟨wanted_none rfl, loc_nx3 rfl (hd 4 rfl) rfl⟩
        · exact ⟨wanted_none rfl, loc_assign rfl (hd 7 rfl)⟩
        · exact ⟨wanted_none rfl, loc_assign rfl (hd 8 rfl)⟩
    · intro p hp
      match p, hp with
      | 0, _ =>
        intro a2 wx hv hf hd
        refine ⟨wanted_none rfl, wp_storePo rfl (hf.base 3 rfl) hv.pt (hd 6 rfl) fun cs ds hr hu hs hpt => ?_⟩
        have hsz : (wx.setRow g3 cs).heap.size = wx.heap.size := by simp [World.setRow]
        exact ⟨undef, rfl, ⟨hv.st.rowZ ak2_nm (fun e => hv.ne.1 e.symm) hr hs hu, hpt, isBytes_rowR hr hu hv.bt, below_setRow hv.bl hv.ne.2.2.1 _, hv.ne.1, hv.ne.2.1, hv.ne.2.2.1, by rw [hsz]; exact hv.ne.2.2.2.1, by rw [hsz]; exact hv.ne.2.2.2.2⟩, trivial, ⟨.inr fun _ _ _ => trivial, .inr fun _ _ _ => trivial, .inr fun _ _ _ => trivial, .inr fun _ _ _ => trivial, .inr fun _ _ h => NxV.rowZ h ak3_nm hr hs hu, .inr fun _ _ h => AgS.rowZ h ak3_nm hr hs hu, .inr fun _ _ _ => trivial, .inr fun _ _ h => h, .inr fun _ _ h => h, .inl rfl, .inr fun _ _ h => h.elim, .inr fun _ _ h => h.elim, trivial⟩⟩
    · intro a2 w9 hv hf hh
      have e4 : a2.eval (.tmp 4) = .int .i64 (ak3.n : Int) := hh 10 (by decide)
      have e5 : a2.eval (.tmp 5) = .int .i64 ak3.er := hh 11 (by decide)
      clear hh
      rw [fr_putAll hf]
      clear hf
      simp only [putAll, e4, e5]
      generalize a2.eval (.tmp 60) = u60
      generalize a2.eval (.tmp 61) = u61
      generalize a2.eval (.tmp 62) = u62
      generalize a2.eval (.tmp 63) = u63
      generalize a2.eval (.tmp 59) = u59
      generalize a2.eval (.tmp 64) = u64
      generalize a2.eval (.tmp 65) = u65
      generalize a2.eval (.tmp 66) = u66
      generalize a2.eval (.tmp 67) = u67
      clear e4 e5 a2
      simp only [Act.put, List.setIfInBounds_toArray, List.set_cons_succ, List.set_cons_zero]
      rw [ak3_f.1, ak3_f.2.2]
      refine hK _ _ ?_
      clear hK
      obtain ⟨pa, pc, hp, hd⟩ := hv.pt
      have hk0 : w9.cell? ⟨g3, 0, none⟩ = some (.int .i64 3) := by rw [cell_of_row _ _ _ _ _ _ hp]; show some (Value.int .i64 ak3.kind) = _; rw [ak3_f.2.1]
      have HB := Box.mk hv.bl
      clear hv hp hd
      go_wp2_with fail
      go_ret
      exact ⟨rfl, HB.out⟩
end Go.Proofs.YtejbkbccljoldaaGreatDoor
namespace Go.Proofs.YtejbkbccljoldaaGreatDoor
open Go.RowKit

/-- One byte of a slice of the call's own is written. -/
theorem AccB.store {w0 w : World} {k n cap : Nat} {l : List UInt8} (h : AccB w0 w (.slice (some ⟨k, 0, none⟩) n cap) l) (i : Nat) (hi : i < l.length) (c : UInt8) :
    (∃ u, w.cell? ⟨k, i, none⟩ = some u) ∧ w.frozen? ⟨k, i, none⟩ = false ∧ AccB w0 (w.setCell ⟨k, i, none⟩ (.int .u8 (c.toNat : Int))) (.slice (some ⟨k, 0, none⟩) n cap) (l.set i c) := by
  obtain ⟨⟨h1, h2⟩, hb⟩ := h
  rcases h2 with ⟨e, _⟩ | ⟨g, cap', cur, e, hg, hh, hn, hm, hs, ht⟩
  · cases e
  · injection e with e1 e2 e3
    injection e1 with e1
    injection e1 with e1
    subst e1 e2 e3
    have hlt : i < cur.size := by rw [hs]; omega
    refine ⟨⟨cur[i], by rw [cell_of_row _ _ _ _ _ _ hh]; simp [hlt]⟩, frozen_of_row _ _ _ _ _ hh, ⟨?_, ?_⟩, hb.setCell (p := ⟨k, i, none⟩) hg _⟩
    · simp [Go.Proofs.YtejbkbccljoldaaGreatDoor.bytesV]
    · refine .inr ⟨k, cap, cur.setIfInBounds i (.int .u8 (c.toNat : Int)), by simp, hg, heap_setCell_same _ _ _ _ _ _ hh, by simpa using hn, hm, by simpa using hs, ?_⟩
      rw [Array.toList_setIfInBounds, List.length_set, List.take_set, ht]
      unfold Go.Proofs.YtejbkbccljoldaaGreatDoor.bytesV
      rw [List.map_set]

end Go.Proofs.YtejbkbccljoldaaGreatDoor
namespace Go.Proofs.YtejbkbccljoldaaGreatDoor
open Go.RowKit

theorem AccB.weaken {w w1 w' : World} {v : Value} {l : List UInt8} (h : AccB w1 w' v l) (hb : Below w.heap.size w w1) : AccB w w' v l := by
  obtain ⟨⟨h1, h2⟩, h3⟩ := h
  refine ⟨⟨h1, ?_⟩, hb.trans (h3.mono hb.size)⟩
  rcases h2 with h2 | ⟨g, cap, cur, hv, hg, r⟩
  · exact .inl h2
  · exact .inr ⟨g, cap, cur, hv, Nat.le_trans hb.size hg, r⟩

end Go.Proofs.YtejbkbccljoldaaGreatDoor
namespace Go.Proofs.YtejbkbccljoldaaGreatDoor
open Go.RowKit

/-- The worlds that keep what was there in W. -/
structure BelowOf (W : World) where
  val : World
  prop : Below W.heap.size W val
instance (W : World) : Nonempty (BelowOf W) := ⟨⟨W, Below.refl _ _⟩⟩
theorem wp_region_below_tail {P : Program} {id : Nat} {Q : Exit → Act → World → Prop} {a : Act} {w : World} {full : List Oper} (n : Nat) (hm : P.follows .mixedOrders = true)
    (hlen : full.length = n + 1) (hB : backB full = true) (hS : sinkAll .any full n = true)
    (hL : (Region.noSelect (full.take n).toArray && Region.lexFrom .any (full.take n).toArray n 0 (Array.replicate (n + 1) false)) = true)
    (h : wpQuiet P (full.take n).toArray (fun w' => ∃ b : BelowOf w, w' = b.val) (fun a' => ∀ w', (∃ b : BelowOf w, w' = b.val) → wpList P full.toArray Q (full.drop n) a' w') (full.take n) a) : (Code.region id full.toArray true).wp P Q a w :=
  wp_region_quiet_tail (C := fun w' => ∃ b : BelowOf w, w' = b.val) n hm hlen hB hS hL ⟨⟨{ w with drawn := w.drawn + 1 }, ⟨rfl, rfl, rfl, Nat.le_refl _, fun _ _ => rfl⟩⟩, rfl⟩ h
end Go.Proofs.YtejbkbccljoldaaGreatDoor
namespace Go.Proofs.YtejbkbccljoldaaGreatDoor
open Go.RowKit

theorem within_val (z : Int) (n : Nat) (h0 : 0 < n) (hn : n ≤ 1000) : ∃ k : Nat, k < n ∧ (wrap64 (z.tmod n + n)).tmod n = (k : Int) := by
  have h1 : z.tmod n < n := Int.tmod_lt_of_pos z (by omega)
  have h2 : -(n : Int) < z.tmod n := Int.lt_tmod_of_pos z (by omega)
  generalize z.tmod n = y at *
  have e : wrap64 (y + n) = y + n := by simp only [wrap64]; omega
  rw [e, Int.tmod_eq_emod_of_nonneg (by omega)]
  exact ⟨((y + n) % n).toNat, by have := Int.emod_lt_of_pos (y + n) (show (0 : Int) < n by omega); have := Int.emod_nonneg (y + n) (show (n : Int) ≠ 0 by omega); omega, by have := Int.emod_nonneg (y + n) (show (n : Int) ≠ 0 by omega); omega⟩
set_option maxHeartbeats 400000 in
theorem within_any (z : Int) (n : Nat) (w : World) (h0 : 0 < n) (hn : n ≤ 1000) :
    Calls Tryz.prog 10 #[.int .i64 z, .int .i64 n] w fun e w' => ∃ k : Nat, k < n ∧ e = .returned (.int .i64 k) ∧ w = w' := by
  obtain ⟨k, hk, he⟩ := within_val z n h0 hn
  go_enter Tryz.func10, Tryz.ntmps10
  go_wp2
  go_ret
  exact ⟨k, hk, rfl, rfl⟩

end Go.Proofs.YtejbkbccljoldaaGreatDoor
namespace Go.Proofs.YtejbkbccljoldaaGreatDoor
open Go.RowKit

set_option linter.unusedVariables false
/-- Where the fields and the line may not lie: in the reader's variable, in the bytes read so far. -/
def LW (g3 : Nat) (v : Value) : (Nat → Prop) × (Nat → Prop) := (fun k => k ≠ g3 ∧ some k ≠ v.ownBlock, fun k => some k ≠ v.ownBlock)
/-- In the loop of whole. -/
structure WhJ (w : World) (N g3 g6 : Nat) (v : Value) (s : RS) (d : List UInt8) (W : World) : Prop where
  st : StV (LW g3 v) s W g3
  own : Own (w.heap.size + 2) W v d
  rs : RVr W g6 #[.bool false, .string ⟨#[]⟩, .int .i64 0, .string ⟨#[]⟩, .string ⟨#[]⟩, .int .i64 0, .slice none 0 0, .bool false, .slice none 0 0, .int .i64 0, .string ⟨#[]⟩, .int .i64 0, .slice none 0 0, .slice none 0 0, .int .i64 0, .int .i64 0, .int .i64 0, .int .i64 0, .int .i64 0, .int .i64 0, .int .i64 0, .slice none 0 0]
  bl : Below w.heap.size w W
  sz : N ≤ W.heap.size
theorem WhJ.keep {w : World} {N g3 g6 : Nat} {v : Value} {s : RS} {d : List UInt8} {W W' : World} (h : WhJ w N g3 g6 v s d W) (hb : Below W.heap.size W W') : WhJ w N g3 g6 v s d W' :=
  ⟨h.st.keep hb, h.own.keep hb, h.rs.keep hb, below_trans h.bl hb, Nat.le_trans h.sz hb.size⟩
/-- A variable beyond N is written. -/
theorem WhJ.row {w : World} {N g3 g6 q : Nat} {v : Value} {s : RS} {d : List UInt8} {W : World} {cs ds : Array Value} {T : TypeId} {fz : Nat × Nat} (h : WhJ w N g3 g6 v s d W) (hm : NmS s) (hN : g3 < N ∧ g6 < N ∧ w.heap.size ≤ N ∧ ∀ k, v.ownBlock = some k → k < N) (hq : N ≤ q) (hr : W.heap[q]? = some (.cells cs T fz)) (hs : NoStr cs) (hu : NoU8 cs) : WhJ w N g3 g6 v s d (W.setRow q ds) :=
  ⟨h.st.rowZ hm (by omega) hr hs hu, h.own.same fun k hk => setRow_other _ _ _ _ (by have := hN.2.2.2 k hk; omega), (setRow_other _ _ _ _ (by omega)).trans h.rs, below_setRow h.bl (by omega) _, by simpa [World.setRow] using h.sz⟩
/-- What whole returns. -/
def RetWh (w : World) (res : RW) (e : Ending) (w' : World) : Prop :=
  (∃ er, res = .err er ∧ e = .returned (.tuple #[.agg #[.bool false, .string ⟨#[]⟩, .int .i64 0, .string ⟨#[]⟩, .string ⟨#[]⟩, .int .i64 0, .slice none 0 0, .bool false, .slice none 0 0, .int .i64 0, .string ⟨#[]⟩, .int .i64 0, .slice none 0 0, .slice none 0 0, .int .i64 0, .int .i64 0, .int .i64 0, .int .i64 0, .int .i64 0, .int .i64 0, .int .i64 0, .slice none 0 0], .string ⟨#[]⟩, .int .i64 0, .int .i64 er])) ∨
  (∃ er t d n fa fc ga gc la lc, (RW.got er t d n).same res ∧ e = .returned (.tuple #[.agg #[.bool t.rep, .string t.meth, .int .i64 t.ph, .string t.m, .string t.t, .int .i64 t.z, .slice fa (List.length t.xs) fc, .bool t.fr, .slice none 0 0, .int .i64 t.st, .string t.rs, .int .i64 t.z2, .slice ga (List.length t.ys) gc, .slice none 0 0, .int .i64 t.fk, .int .i64 t.fl, .int .i64 t.left, .int .i64 t.size, .int .i64 t.ck.ph, .int .i64 t.ck.left, .int .i64 t.ck.tr, .slice la (List.length t.ck.line) lc], .string ⟨d.toArray⟩, .int .i64 (n : Int), .int .i64 er]) ∧ FldsIn w' fa t.xs ∧ FldsIn w' ga t.ys ∧ t.xs.length ≤ 64 ∧ t.ys.length ≤ 64)
theorem round_all {s : RS} {b : List UInt8} (hg : GoodS s b) (q : Nat) (hq : q ≤ b.length) (room : Int) (hri : 1 ≤ room) (hl : b.length ≤ 1000000) {x : NX} (hx2 : x = nextX s (b.take q) 400 100 room) :
    (¬ x.er = 0 → CW s b = .err x.er) ∧ (x.er = 0 → x.kind = 3 → x.data = [] ∧ ∃ t, CW s b = .got 0 t [] x.n ∧ MsgS x.r = MsgS t) ∧
        (x.er = 0 → ¬ x.kind = 3 → x.kind = 0 ∧ x.n = 0 → x.data = [] ∧ x.r = s ∧ (q = b.length → CW s b = .got 4 s [] 0)) ∧
        (x.er = 0 → ¬ x.kind = 3 → ¬ (x.kind = 0 ∧ x.n = 0) → 1 ≤ x.n ∧ x.n ≤ q ∧ GoodS x.r (b.drop x.n) ∧ ((CW x.r (b.drop x.n)).add x.data x.n).same (CW s b)) := by
  rcases hg.ph with hp | hp
  · obtain ⟨r1, r2, r3, r4⟩ := head_round hg hp q hq room hl hx2
    exact ⟨r1, fun h h3 => absurd h3 (r2 h), fun h _ => r3 h, fun h _ h2 => by
      obtain ⟨a1, a2, a3, a4⟩ := r4 h h2
      exact ⟨a1, a2, a3, by rw [a4]; exact RW.same_refl _⟩⟩
  · obtain ⟨r1, r2, r3, r4⟩ := body_round hg hp q hq room hri hl hx2
    rw [CW_body (by omega : ¬ s.ph = 0)]
    refine ⟨r1, r2, r3, fun h h3 h2 => ?_⟩
    obtain ⟨a1, a2, a3, a4, a5⟩ := r4 h h3 h2
    rw [CW_body (by omega : ¬ x.r.ph = 0)]
    exact ⟨a1, a2, a4, a5⟩
/-- At the return of whole. -/
structure FnJ (w : World) (g3 g6 : Nat) (v : Value) (t : RS) (D : List UInt8) (fin : Bool) (W : World) : Prop where
  st : StV (LW g3 v) t W g3
  own : Own (w.heap.size + 2) W v D
  r6 : if fin then StV (LW g3 v) t W g6 else RVr W g6 #[.bool false, .string ⟨#[]⟩, .int .i64 0, .string ⟨#[]⟩, .string ⟨#[]⟩, .int .i64 0, .slice none 0 0, .bool false, .slice none 0 0, .int .i64 0, .string ⟨#[]⟩, .int .i64 0, .slice none 0 0, .slice none 0 0, .int .i64 0, .int .i64 0, .int .i64 0, .int .i64 0, .int .i64 0, .int .i64 0, .int .i64 0, .slice none 0 0]
  bl : Below w.heap.size w W
theorem FnJ.keep {w : World} {g3 g6 : Nat} {v : Value} {t : RS} {D : List UInt8} {fin : Bool} {W W' : World} (h : FnJ w g3 g6 v t D fin W) (hb : Below W.heap.size W W') : FnJ w g3 g6 v t D fin W' :=
  ⟨h.st.keep hb, h.own.keep hb, by
    have h6 := h.r6
    cases fin with
    | true => exact StV.keep h6 hb
    | false => exact RVr.keep h6 hb, below_trans h.bl hb⟩
theorem same_err {er : Int} {y : RW} (h : (RW.err er).same y) : y = .err er := by
  cases y with
  | err f => exact congrArg RW.err (h : er = f).symm
  | got => exact h.elim
theorem loc_rem7 {Q : Exit → Act → World → Prop} {act : Act} {w : World} {o : Oper} {s : Spec} {x : Operand} {t : TypeId} (ho : o.op = .binOp .rem 3 x (.const (.int .i64 7)) t) {k : Nat} (hx : act.eval x = .int .i64 k) (hs : s.p (.int .i64 ((k % 7 : Nat) : Int)) w) :
    o.wp Tryz.prog act w (fun a' w' => ∃ v, a' = act.put o.dst v ∧ Below w.heap.size w w' ∧ s.p v w') Q :=
  loc_run (v := .int .i64 ((k % 7 : Nat) : Int)) (by
    have e : (k : Int).tmod 7 = ((k % 7 : Nat) : Int) := by rw [Int.tmod_eq_emod_of_nonneg (by omega)]; omega
    have h : (Op.intDiv .rem .i64 (k : Int) 7).run Tryz.prog w = .ok (.int .i64 ((k % 7 : Nat) : Int)) w := by
      unfold Op.intDiv
      rw [if_neg (by decide), ← e]; rfl
    have hc : act.eval (.const (.int .i64 7)) = .int .i64 7 := rfl
    unfold execOp
    simp only [ho, hx, hc]
    simp [eqGuard, binOp, h, Result.andThen]) (Below.refl _ _) hs
theorem PNew.rowR {N g : Nat} {w : World} {v : Value} {cs ds : Array Value} (h : PNew N w v) (hr : RVr w g cs) : PNew N (w.setRow g ds) v := by
  obtain ⟨q, h1, h2, h3⟩ := h
  exact ⟨q, h1, h2, (setRow_other _ _ _ _ (rv_ne_pv hr h3).symm).trans h3⟩
theorem RSt.rowP {N g : Nat} {L : (Nat → Prop) × (Nat → Prop)} {s : RS} {w : World} {v : Value} {ds : Array Value} (h : RSt N L s w v) (hm : NmS s) (hr : PVr w g #[.int .i64 0, .slice none 0 0]) : RSt N L s (w.setRow g ds) v := by
  obtain ⟨q, h1, h2, h3⟩ := h
  have hne : q ≠ g := by
    obtain ⟨_, _, _, _, _, _, hq, _⟩ := h3
    exact rv_ne_pv hq hr
  exact ⟨q, h1, h2, h3.rowZ hm hne hr zp_noStr zp_noU8⟩
set_option maxRecDepth 100000 in
set_option maxHeartbeats 2000000 in
theorem whole_any (s0 : RS) (b : List UInt8) (ba : Option Addr) (bc : Nat) (ca : Option Addr) (cl cc : Nat) (fa ga la : Option Addr) (fc gc lc : Nat) (mm : Int) (w : World) (hb : IsBytes w ba b bc) (hl : b.length ≤ 1900) (hcu : IntsF w ca cl) (hcl : cl ≤ maxLen ∧ cl ≤ cc) (hm : RMem (fun _ => True) w s0 fa ga la lc) (hg : GoodS s0 b) (hn : NmS s0) (hok : HdOk w mm) :
    Calls Tryz.prog 18 #[.agg #[.bool s0.rep, .string s0.meth, .int .i64 s0.ph, .string s0.m, .string s0.t, .int .i64 s0.z, .slice fa (List.length s0.xs) fc, .bool s0.fr, .slice none 0 0, .int .i64 s0.st, .string s0.rs, .int .i64 s0.z2, .slice ga (List.length s0.ys) gc, .slice none 0 0, .int .i64 s0.fk, .int .i64 s0.fl, .int .i64 s0.left, .int .i64 s0.size, .int .i64 s0.ck.ph, .int .i64 s0.ck.left, .int .i64 s0.ck.tr, .slice la (List.length s0.ck.line) lc], .slice ba b.length bc, .slice ca cl cc] w fun e w' => RetWh w (CW s0 b) e w' ∧ Below w.heap.size w w' := by
  obtain ⟨cs, hcs⟩ : ∃ cs : Array Value, cs = #[.bool s0.rep, .string s0.meth, .int .i64 s0.ph, .string s0.m, .string s0.t, .int .i64 s0.z, .slice fa (List.length s0.xs) fc, .bool s0.fr, .slice none 0 0, .int .i64 s0.st, .string s0.rs, .int .i64 s0.z2, .slice ga (List.length s0.ys) gc, .slice none 0 0, .int .i64 s0.fk, .int .i64 s0.fl, .int .i64 s0.left, .int .i64 s0.size, .int .i64 s0.ck.ph, .int .i64 s0.ck.left, .int .i64 s0.ck.tr, .slice la (List.length s0.ck.line) lc] := ⟨_, rfl⟩
  have HCS := Box.mk hcs
  rw [← hcs]
  clear hcs
  obtain ⟨W1, hW1⟩ : ∃ W1, W1 = (w.alloc (.cells cs 37)).alloc (.cells #[.bool false, .string ⟨#[]⟩, .int .i64 0, .string ⟨#[]⟩, .string ⟨#[]⟩, .int .i64 0, .slice none 0 0, .bool false, .slice none 0 0, .int .i64 0, .string ⟨#[]⟩, .int .i64 0, .slice none 0 0, .slice none 0 0, .int .i64 0, .int .i64 0, .int .i64 0, .int .i64 0, .int .i64 0, .int .i64 0, .int .i64 0, .slice none 0 0] 37) := ⟨_, rfl⟩
  have hb1 : Below w.heap.size w W1 := by rw [hW1]; exact below_twoF (below_oneF _ _) _
  have HX1 := Box.mk (show RVr W1 w.heap.size cs by rw [hW1]; exact RVr.keep (heap_alloc_new w (.cells cs 37)) (below_oneF _ _))
  have HY1 := Box.mk (show RVr W1 (w.heap.size + 1) #[.bool false, .string ⟨#[]⟩, .int .i64 0, .string ⟨#[]⟩, .string ⟨#[]⟩, .int .i64 0, .slice none 0 0, .bool false, .slice none 0 0, .int .i64 0, .string ⟨#[]⟩, .int .i64 0, .slice none 0 0, .slice none 0 0, .int .i64 0, .int .i64 0, .int .i64 0, .int .i64 0, .int .i64 0, .int .i64 0, .int .i64 0, .slice none 0 0] by
    have h := heap_alloc_new (w.alloc (.cells cs 37)) (.cells #[.bool false, .string ⟨#[]⟩, .int .i64 0, .string ⟨#[]⟩, .string ⟨#[]⟩, .int .i64 0, .slice none 0 0, .bool false, .slice none 0 0, .int .i64 0, .string ⟨#[]⟩, .int .i64 0, .slice none 0 0, .slice none 0 0, .int .i64 0, .int .i64 0, .int .i64 0, .int .i64 0, .int .i64 0, .int .i64 0, .int .i64 0, .slice none 0 0] 37)
    rw [World.size_alloc] at h
    rw [hW1]; exact h)
  have HW1 := Box.mk hW1
  have hm1 := hm.keep hb1
  have HJ := Box.mk (show WhJ w (w.heap.size + 2) w.heap.size (w.heap.size + 1) (.slice none 0 0) s0 [] W1 from ⟨⟨fa, fc, ga, gc, la, lc, by rw [← HCS.out]; exact HX1.out, ⟨hm1.f1, hm1.f2, hm1.ln, fun y e hx => ⟨by have := hm.f1.old e hx; omega, fun e => by cases e⟩, fun y e hx => ⟨by have := hm.f2.old e hx; omega, fun e => by cases e⟩⟩, fun _ _ _ => fun e => by cases e⟩, Own.start _ _, HY1.out, hb1, HY1.out.lt⟩)
  have HBB := Box.mk hb
  have HOK := Box.mk hok
  have HCU := Box.mk hcu
  have HG := Box.mk hg
  have HN := Box.mk hn
  clear hW1 hb1 hm1 hm hb hok hcu hg hn
  go_enter Tryz.func18, Tryz.ntmps18
  go_upto_region 1 with fail
  rw [← HW1.out]
  clear HW1 HX1 HY1 HCS
  go_wp2_with fail
  go_loopw [10, 11, 12, 13] (fun v kv uv iv wr => ∃ (k u i : Nat), kv = .int .i64 (k : Int) ∧ uv = .int .i64 (u : Int) ∧ iv = .int .i64 (i : Int) ∧ k ≤ u ∧ u ≤ b.length ∧ i + (b.length - k) + (b.length - u) ≤ 2 * b.length ∧ ∃ s d, Box (WhJ w (w.heap.size + 2) w.heap.size (w.heap.size + 1) v s d wr ∧ GoodS s (b.drop k) ∧ NmS s ∧ ((CW s (b.drop k)).add d k).same (CW s0 b) ∧ d.length ≤ 2000 * i)) (fun _ kv uv _ _ => (b.length - (intOf kv).toNat) + (b.length - (intOf uv).toNat))
  case atStart => exact ⟨0, 0, 0, rfl, rfl, rfl, by omega, by omega, by omega, s0, [], ⟨HJ.out, HG.out, HN.out, by rw [RW.add_zero]; exact RW.same_refl _, Nat.le_refl _⟩⟩
  case round =>
    clear HJ HG HN
    generalize u10 = v at *
    obtain ⟨k, u, i, rfl, rfl, rfl, hku, hub, hms, s, d, HR⟩ := hrel
    have hi : i < 4000 := by omega
    have HOKN := Box.mk HR.out.2.1.ok
    have HNS := Box.mk HR.out.2.2.1
    obtain ⟨x, hx⟩ : ∃ x, nextX s ((b.take u).drop k) 400 100 ((1 + i % 7 : Nat) : Int) = x := ⟨_, rfl⟩
    have HXX := Box.mk hx
    have HNX := Box.mk (show NmS x.r by rw [← hx]; exact nextX_names HR.out.2.2.1 _ _ _ _)
    have HPL := Box.mk (show ((b.take u).drop k).length = u - k by rw [List.length_drop, List.length_take]; omega)
    obtain ⟨N, hN⟩ : ∃ N, N = wr.heap.size := ⟨_, rfl⟩
    have HJ0 := Box.mk (show WhJ w N w.heap.size (w.heap.size + 1) v s d wr from ⟨HR.out.1.st, HR.out.1.own, HR.out.1.rs, HR.out.1.bl, by omega⟩)
    have HNN := Box.mk (show w.heap.size < N ∧ (w.heap.size + 1) < N ∧ w.heap.size ≤ N ∧ ∀ q, v.ownBlock = some q → q < N from ⟨by have := HR.out.1.sz; omega, by have := HR.out.1.sz; omega, by have := HR.out.1.sz; omega, fun q e => by have := (HR.out.1.own.lt e).2; omega⟩)
    have HRD := Box.mk (round_all HR.out.2.1 (u - k) (by rw [List.length_drop]; omega) ((1 + i % 7 : Nat) : Int) (by omega) (by rw [List.length_drop]; omega) (x := x) (by rw [← hx, List.drop_take]))
    clear hx hN
    go_wp2_with fail
    rename_i KK hKK
    refine wp_region_phases [16, 17] (fun p => match p with | 0 => [0, 1, 2, 3, 4, 5, 6, 7, 8, 9, 10, 11, 12, 13, 14, 15] | 1 => [11, 12, 13] | _ => [12, 13, 18, 19])
      (fun p => match p with | 0 => [.srow (LW w.heap.size v) s, .val (.slice ba b.length bc), .val (.int .i64 (k : Int)), .val (.int .i64 (u : Int)), .bytes ((b.take u).drop k), .val (.int .i64 (i : Int)), .val (.int .i64 ((i % 7 : Nat) : Int)), .val (.int .i64 ((1 + i % 7 : Nat) : Int)), .nxt (LW w.heap.size v) x, .nxt (LW w.heap.size v) x, .srow (LW w.heap.size v) x.r, .prow x, .val (.int .i64 (x.n : Int)), .val (.int .i64 x.er), .rnew N, .pnew N, .any, .any, .nope, .nope] | 1 => [.any, .any, .any, .any, .any, .any, .any, .any, .any, .nxt (LW w.heap.size v) x, .any, .prow x, .val (.int .i64 (x.n : Int)), .val (.int .i64 x.er), .rst N (LW w.heap.size v) x.r, .pnew N, .any, .any, .nope, .nope] | _ => [.any, .any, .any, .any, .any, .any, .any, .any, .any, .nxt (LW w.heap.size v) x, .any, .any, .val (.int .i64 (x.n : Int)), .val (.int .i64 x.er), .rst N (LW w.heap.size v) x.r, .pst N x, .any, .any, .val (.int .i64 (x.n : Int)), .val (.int .i64 x.er)])
      (fun _ => WhJ w N w.heap.size (w.heap.size + 1) v s d)
      (by kernel_rfl) (by kernel_rfl) (by kernel_rfl) (by kernel_rfl) (by kernel_rfl) (by kernel_rfl) ?_ HJ0.out ?_ ?_ ?_
    · intro p wa wb h hb
      exact WhJ.keep h hb
    · intro p hp
      match p, hp with
      | 0, _ =>
        refine ⟨?_, ?_, ?_, ?_, ?_, ?_, ?_, ?_, ?_, ?_, ?_, ?_, ?_, ?_, ?_, ?_, trivial⟩ <;> intro a1 wx hv hf hd
        · exact ⟨wanted_none rfl, loc_loadS rfl (hf.base 3 rfl) hv.st fun v h => h⟩
        · exact ⟨wanted_none rfl, loc_move rfl (hf.base 1 rfl)⟩
        · exact ⟨wanted_none rfl, loc_move rfl (hf.base 11 rfl)⟩
        · exact ⟨wanted_none rfl, loc_move rfl (hf.base 12 rfl)⟩
        · exact ⟨wanted_none rfl, loc_part rfl (l := b) ⟨_, _, hd 1 rfl, HBB.out.keep hv.bl⟩ (hd 2 rfl) (hd 3 rfl) hku hub fun v h => h⟩
        · exact ⟨wanted_none rfl, loc_move rfl (hf.base 13 rfl)⟩
        · exact ⟨wanted_none rfl, loc_rem7 rfl (hd 5 rfl) rfl⟩
        · exact ⟨wanted_none rfl, loc_addF (m := 1) (k := i % 7) rfl rfl (hd 6 rfl) (by omega) rfl⟩
        · exact ⟨wanted_none rfl, loc_callPx rfl (HOK.out.keep hv.bl) (hd 0 rfl) (hd 4 rfl) rfl rfl (hd 7 rfl) (by rw [HPL.out]; omega) HOKN.out (by decide) (by omega) (fun q hq => by have := hv.sz; have := HNN.out; exact ⟨⟨by omega, fun e => by have := this.2.2.2 q e.symm; omega⟩, fun e => by have := this.2.2.2 q e.symm; omega⟩) fun v w' h => by rw [HXX.out] at h; exact h⟩
        · exact ⟨wanted_none rfl, loc_move rfl (hd 8 rfl)⟩
        · exact ⟨wanted_none rfl, loc_nx0 rfl (hd 9 rfl) fun v h => h⟩
        · exact ⟨wanted_none rfl, loc_nx1 rfl (hd 9 rfl) fun v h => h⟩
        · exact ⟨wanted_none rfl, loc_nx2 rfl (hd 9 rfl) rfl⟩
        · exact ⟨wanted_none rfl, loc_nx3 rfl (hd 9 rfl) rfl⟩
        · exact ⟨wanted_none rfl, loc_allocRn rfl hv.sz fun v w' h => h⟩
        · exact ⟨wanted_none rfl, loc_allocPn rfl hv.sz fun v w' h => h⟩
      | 1, _ =>
        refine ⟨?_, ?_, ?_, trivial⟩ <;> intro a1 wx hv hf hd
        · exact ⟨wanted_none rfl, loc_nx1 rfl (hd 9 rfl) fun v h => h⟩
        · exact ⟨wanted_none rfl, loc_nx2 rfl (hd 9 rfl) rfl⟩
        · exact ⟨wanted_none rfl, loc_nx3 rfl (hd 9 rfl) rfl⟩
      | 2, _ =>
        refine ⟨?_, ?_, ?_, ?_, trivial⟩ <;> intro a1 wx hv hf hd
        · exact ⟨wanted_none rfl, loc_nx2 rfl (hd 9 rfl) rfl⟩
        · exact ⟨wanted_none rfl, loc_nx3 rfl (hd 9 rfl) rfl⟩
        · exact ⟨wanted_none rfl, loc_assign rfl (hd 12 rfl)⟩
        · exact ⟨wanted_none rfl, loc_assign rfl (hd 13 rfl)⟩
    · intro p hp
      match p, hp with
      | 0, _ =>
        intro a2 wx hv hf hd
        refine ⟨wanted_none rfl, wp_storeRn rfl (hd 14 rfl) (hd 10 rfl) HNX.out fun g cs e1 hN hr hst => ?_⟩
        exact ⟨undef, rfl, hv.row HNS.out HNN.out hN hr zero_noStr zero_noU8, trivial, ⟨.inr fun _ _ _ => trivial, .inr fun _ _ _ => trivial, .inr fun _ _ _ => trivial, .inr fun _ _ _ => trivial, .inr fun _ _ _ => trivial, .inr fun _ _ _ => trivial, .inr fun _ _ _ => trivial, .inr fun _ _ _ => trivial, .inr fun _ _ _ => trivial, .inr fun _ _ h => NxV.rowZ h HNX.out hr zero_noStr zero_noU8, .inr fun _ _ _ => trivial, .inr fun _ _ h => AgP.rowZ h hr zero_noU8, .inr fun _ _ h => h, .inr fun _ _ h => h, .inr fun v hv0 _ => by have h9 := hv0 _ 14 rfl rfl; rw [h9]; exact hst, .inr fun v _ h => PNew.rowR h hr, .inl rfl, .inr fun _ _ _ => trivial, .inr fun _ _ h => h.elim, .inr fun _ _ h => h.elim, trivial⟩⟩
      | 1, _ =>
        intro a2 wx hv hf hd
        refine ⟨wanted_none rfl, wp_storePn rfl (hd 15 rfl) (hd 11 rfl) fun g cs e1 hN hr hst => ?_⟩
        exact ⟨undef, rfl, hv.row HNS.out HNN.out hN hr zp_noStr zp_noU8, trivial, ⟨.inr fun _ _ _ => trivial, .inr fun _ _ _ => trivial, .inr fun _ _ _ => trivial, .inr fun _ _ _ => trivial, .inr fun _ _ _ => trivial, .inr fun _ _ _ => trivial, .inr fun _ _ _ => trivial, .inr fun _ _ _ => trivial, .inr fun _ _ _ => trivial, .inr fun _ _ h => NxV.rowZ h HNX.out hr zp_noStr zp_noU8, .inr fun _ _ _ => trivial, .inr fun _ _ _ => trivial, .inr fun _ _ h => h, .inr fun _ _ h => h, .inr fun v _ h => RSt.rowP h HNX.out hr, .inr fun v hv0 _ => by have h9 := hv0 _ 15 rfl rfl; rw [h9]; exact hst, .inr fun _ _ _ => trivial, .inl rfl, .inr fun _ _ h => h.elim, .inr fun _ _ h => h.elim, trivial⟩⟩
    · intro a2 w3 hv hf hh
      obtain ⟨g14, e14a, hg14, hst14⟩ := hh 14 (by decide)
      obtain ⟨g15, e15a, hg15, hpt15⟩ := hh 15 (by decide)
      have e14 : a2.eval (.tmp 14) = .pointer (some ⟨g14, 0, none⟩) := e14a
      have e15 : a2.eval (.tmp 15) = .pointer (some ⟨g15, 0, none⟩) := e15a
      have e16 : a2.eval (.tmp 16) = .int .i64 (x.n : Int) := hh 18 (by decide)
      have e17 : a2.eval (.tmp 17) = .int .i64 x.er := hh 19 (by decide)
      clear hh e14a e15a
      rw [fr_putAll hf]
      clear hf
      simp only [putAll, e14, e15, e16, e17]
      generalize a2.eval (.tmp 22) = u22
      generalize a2.eval (.tmp 23) = u23
      generalize a2.eval (.tmp 24) = u24
      generalize a2.eval (.tmp 25) = u25
      generalize a2.eval (.tmp 26) = u26
      generalize a2.eval (.tmp 27) = u27
      generalize a2.eval (.tmp 28) = u28
      generalize a2.eval (.tmp 29) = u29
      generalize a2.eval (.tmp 30) = u30
      generalize a2.eval (.tmp 21) = u21
      generalize a2.eval (.tmp 31) = u31
      generalize a2.eval (.tmp 32) = u32
      generalize a2.eval (.tmp 33) = u33
      generalize a2.eval (.tmp 34) = u34
      clear e14 e15 e16 e17 a2
      simp only [Act.put, List.setIfInBounds_toArray, List.set_cons_succ, List.set_cons_zero]
      refine hKK _ _ ?_
      clear hKK
      by_cases h0 : x.er = 0
      · have hokx := nextX_ok (s := s) (b := (b.take u).drop k) (most := 400) (body := 100) (room := ((1 + i % 7 : Nat) : Int)) (by decide) (by rw [HPL.out]; omega) HOKN.out (by rw [HXX.out]; exact h0)
        rw [HXX.out, HPL.out] at hokx
        have HX64 := Box.mk (And.intro hokx.1.ok.xs.2 hokx.1.ok.ys.2)
        have hxn : x.n ≤ u - k := hokx.2.1
        have hxd : x.data.length ≤ u - k := hokx.2.2
        have hz1 : ¬ ((x.n : Int) < 0) := by omega
        have hz2 : ¬ ((x.n : Int) > (u : Int) - (k : Int)) := by omega
        obtain ⟨f4, c4, g4, d4, l4, e4, hr14, hm14⟩ := hst14
        obtain ⟨pa, pc, hp15, hd15⟩ := hpt15
        obtain ⟨f7, c7, g7, d7, l7, e7, hr3, hm3⟩ := hv.st
        obtain ⟨cr, hcr⟩ : ∃ cr : Array Value, cr = #[.bool x.r.rep, .string x.r.meth, .int .i64 x.r.ph, .string x.r.m, .string x.r.t, .int .i64 x.r.z, .slice f4 (List.length x.r.xs) c4, .bool x.r.fr, .slice none 0 0, .int .i64 x.r.st, .string x.r.rs, .int .i64 x.r.z2, .slice g4 (List.length x.r.ys) d4, .slice none 0 0, .int .i64 x.r.fk, .int .i64 x.r.fl, .int .i64 x.r.left, .int .i64 x.r.size, .int .i64 x.r.ck.ph, .int .i64 x.r.ck.left, .int .i64 x.r.ck.tr, .slice l4 (List.length x.r.ck.line) e4] := ⟨_, rfl⟩
        have HCR := Box.mk hcr
        have hcr22 : cr.size = 22 := by rw [hcr]; rfl
        have hcr1 : cr.all (·.oneCell') = true := by rw [hcr]; exact oneRd ..
        have HSR := Box.mk (show (Tryz.prog.info? 37).map (·.size) = some cr.size by rw [hcr22]; exact sizeRd)
        rw [← hcr] at hr14
        obtain ⟨c3, hc3⟩ : ∃ c3 : Array Value, c3 = #[.bool s.rep, .string s.meth, .int .i64 s.ph, .string s.m, .string s.t, .int .i64 s.z, .slice f7 (List.length s.xs) c7, .bool s.fr, .slice none 0 0, .int .i64 s.st, .string s.rs, .int .i64 s.z2, .slice g7 (List.length s.ys) d7, .slice none 0 0, .int .i64 s.fk, .int .i64 s.fl, .int .i64 s.left, .int .i64 s.size, .int .i64 s.ck.ph, .int .i64 s.ck.left, .int .i64 s.ck.tr, .slice l7 (List.length s.ck.line) e7] := ⟨_, rfl⟩
        have hc322 : c3.size = cr.size := by rw [hcr22, hc3]; rfl
        have HU3 := Box.mk (show NoU8 c3 by rw [hc3]; exact noU8_22 rfl)
        rw [← hc3] at hr3
        have HR14 := Box.mk hr14
        have HR3 := Box.mk hr3
        have hg3N := HNN.out.1
        have hg6N := HNN.out.2.1
        have hne : g14 ≠ w.heap.size ∧ g15 ≠ w.heap.size ∧ g15 ≠ (w.heap.size + 1) := by omega
        obtain ⟨W4, hW4⟩ : ∃ W4, W4 = w3.setRow w.heap.size cr := ⟨_, rfl⟩
        have HS4 := Box.mk (show StV (LW w.heap.size v) x.r W4 w.heap.size from ⟨f4, c4, g4, d4, l4, e4, by rw [hW4, ← HCR.out]; exact setRow_heap _ _ _ _ _ _ hr3, by rw [hW4]; exact hm14.rowL (fun h => h.1 rfl) hr3 HU3.out⟩)
        have HO4 := Box.mk (show Own (w.heap.size + 2) W4 v d by rw [hW4]; exact hv.own.same fun q hq => setRow_other _ _ _ _ (by have := (hv.own.lt hq).1; omega))
        have hp4 : PVr W4 g15 #[.int .i64 x.kind, .slice pa (List.length x.data) pc] := by rw [hW4]; exact (setRow_other _ _ _ _ hne.2.1).trans hp15
        have HP4 := Box.mk hp4
        have HD4 := Box.mk (show IsBytes W4 pa x.data pc by rw [hW4]; exact isBytes_rowR hr3 HU3.out hd15)
        have HZ4 := Box.mk (show RVr W4 (w.heap.size + 1) #[.bool false, .string ⟨#[]⟩, .int .i64 0, .string ⟨#[]⟩, .string ⟨#[]⟩, .int .i64 0, .slice none 0 0, .bool false, .slice none 0 0, .int .i64 0, .string ⟨#[]⟩, .int .i64 0, .slice none 0 0, .slice none 0 0, .int .i64 0, .int .i64 0, .int .i64 0, .int .i64 0, .int .i64 0, .int .i64 0, .int .i64 0, .slice none 0 0] by rw [hW4]; exact (setRow_other _ _ _ _ (by omega)).trans hv.rs)
        have HB4 := Box.mk (show Below w.heap.size w W4 by rw [hW4]; exact below_setRow hv.bl (by omega) _)
        have hN4 : N ≤ W4.heap.size := by rw [hW4]; simpa [World.setRow] using hv.sz
        have hk41 : W4.cell? ⟨g15, 1, none⟩ = some (.slice pa (List.length x.data) pc) := by rw [cell_of_row _ _ _ _ _ _ hp4]; rfl
        clear hcr hc3 hr14 hm14 hp15 hd15 hr3 hm3 hp4 hv
        rw [h0]
        go_upto_region 9 with (first | refine wpList_load_row rfl 37 _ rfl g14 rfl 37 cr (0, 0) _ HR14.out Tryz.underlying37 rfl HSR.out ?_ | refine wpList_store_row rfl 37 _ _ rfl w.heap.size cr rfl rfl 37 _ HR3.out HSR.out hc322 hcr1 ?_)
        rw [← hW4]
        clear hW4 HR14 HR3 HSR hc322 hcr1 hcr22 HCR hz1 hz2 HU3
        have hdl := HR.out.2.2.2.2
        go_wp2_with (at_builtin; refine wpList_append_ownb _ rfl _ _ rfl rfl HO4.out rfl HD4.out (by omega) (by have := hg3N; omega) ?c1)
        case c1 =>
          intro v1 w5 hown hgrow hnew
          obtain ⟨D, hD⟩ : ∃ D, D = d ++ x.data := ⟨_, rfl⟩
          obtain ⟨K, hK⟩ : ∃ K : Nat, K = k + x.n := ⟨_, rfl⟩
          rw [← hD] at hown
          have hlow : ∀ q, v.ownBlock = some q → w.heap.size + 2 ≤ q ∧ q < N := fun q e => ⟨(HO4.out.lt e).1, HNN.out.2.2.2 q e⟩
          have hst5 : StV (LW w.heap.size v1) x.r w5 w.heap.size := by
            obtain ⟨f4, c4, g4, d4, l4, e4, hr, hm⟩ := HS4.out
            refine ⟨f4, c4, g4, d4, l4, e4, (hgrow.block _ hr.lt (fun e => by have := (hlow _ e.symm).1; omega)).trans hr, ⟨sameNe hm.m.f1 fun y e hx => hgrow.block _ (hm.m.f1.old e hx) (hm.m.n1 y e hx).2, sameNe hm.m.f2 fun y e hx => hgrow.block _ (hm.m.f2.old e hx) (hm.m.n2 y e hx).2, hm.m.ln.same fun y e hx => hgrow.block _ (hm.m.ln.old e hx) (hm.l y e hx), fun y e hx => ⟨(hm.m.n1 y e hx).1, ?_⟩, fun y e hx => ⟨(hm.m.n2 y e hx).1, ?_⟩⟩, fun y e hx => ?_⟩
            · rcases hnew with h | h
              · rw [h]; exact (hm.m.n1 y e hx).2
              · rw [h]; intro e2; have := hm.m.f1.old e hx; injection e2 with e2; omega
            · rcases hnew with h | h
              · rw [h]; exact (hm.m.n2 y e hx).2
              · rw [h]; intro e2; have := hm.m.f2.old e hx; injection e2 with e2; omega
            · show some y.block ≠ v1.ownBlock
              rcases hnew with h | h
              · rw [h]; exact hm.l y e hx
              · rw [h]; intro e2; have := hm.m.ln.old e hx; injection e2 with e2; omega
          have HZ5 := Box.mk (show RVr w5 (w.heap.size + 1) #[.bool false, .string ⟨#[]⟩, .int .i64 0, .string ⟨#[]⟩, .string ⟨#[]⟩, .int .i64 0, .slice none 0 0, .bool false, .slice none 0 0, .int .i64 0, .string ⟨#[]⟩, .int .i64 0, .slice none 0 0, .slice none 0 0, .int .i64 0, .int .i64 0, .int .i64 0, .int .i64 0, .int .i64 0, .int .i64 0, .int .i64 0, .slice none 0 0] from (hgrow.block _ HZ4.out.lt (fun e => by have := (hlow _ e.symm).1; omega)).trans HZ4.out)
          have HP5 := Box.mk (show PVr w5 g15 #[.int .i64 x.kind, .slice pa (List.length x.data) pc] from (hgrow.block _ (Array.getElem?_eq_some_iff.1 HP4.out).1 (fun e => by have := (hlow _ e.symm).2; omega)).trans HP4.out)
          have HB5 := Box.mk (HB4.out.grown hgrow HB4.out.size (fun q e => by have := (hlow _ e).1; omega))
          have hN5 : N ≤ w5.heap.size := Nat.le_trans hN4 hgrow.size
          have HF := Box.mk (show FnJ w w.heap.size (w.heap.size + 1) v1 x.r D false w5 from ⟨hst5, hown, HZ5.out, HB5.out⟩)
          have HTN := HNX
          have HNE := Box.mk (show w.heap.size ≠ (w.heap.size + 1) ∧ (w.heap.size + 1) = w.heap.size + 1 ∧ w.heap.size + 1 ≤ (w.heap.size + 1) from ⟨by omega, by omega, by omega⟩)
          have hk50 : w5.cell? ⟨g15, 0, none⟩ = some (.int .i64 x.kind) := by rw [cell_of_row _ _ _ _ _ _ HP5.out]; rfl
          rw [show (k : Int) + (x.n : Int) = (K : Int) by omega]
          clear hown hgrow hnew hst5 HS4 HO4 HP4 HD4 HZ4 HB4 hk41 HZ5 HB5 hlow
          by_cases h3 : x.kind = 3
          · have e3 : (x.kind == 3) = true := by rw [h3]; rfl
            obtain ⟨q1, t, q2, q3⟩ := HRD.out.2.1 h0 h3
            have HSAME := Box.mk (show (RW.got 0 x.r D K).same (CW s0 b) by
              have hh := HR.out.2.2.2.1
              rw [q2] at hh
              refine RW.same_trans ?_ hh
              exact ⟨rfl, q3, by simp [hD, q1], by omega⟩)
            clear h3 q1 q2 q3 HR HRD hK hD
            go_wp2_with fail
            rename_i K2 hK2
            refine wp_region_phases [4] (fun p => match p with | 0 => [0, 1, 2, 3] | _ => [1, 2, 3, 5, 6, 7])
              (fun p => match p with | 0 => [.srow (LW w.heap.size v1) x.r, .val (v1), .val (.string ⟨D.toArray⟩), .val (.int .i64 (K : Int)), .any, .nope, .nope, .nope] | _ => [.any, .val (v1), .val (.string ⟨D.toArray⟩), .val (.int .i64 (K : Int)), .any, .val (.string ⟨D.toArray⟩), .val (.int .i64 (K : Int)), .val (.int .i64 0)])
              (fun p => match p with | 0 => FnJ w w.heap.size (w.heap.size + 1) v1 x.r D false | _ => FnJ w w.heap.size (w.heap.size + 1) v1 x.r D true)
              (by kernel_rfl) (by kernel_rfl) (by kernel_rfl) (by kernel_rfl) (by kernel_rfl) (by kernel_rfl) ?_ HF.out ?_ ?_ ?_
            · intro p wa wb h hb
              match p, h with
              | 0, h => exact FnJ.keep h hb
              | (_ + 1), h => exact FnJ.keep h hb
            · intro p hp
              match p, hp with
              | 0, _ =>
                refine ⟨?_, ?_, ?_, ?_, trivial⟩ <;> intro a1 wx hv hf hd
                · exact ⟨wanted_none rfl, loc_loadS rfl (hf.base 3 rfl) hv.st fun v h => h⟩
                · exact ⟨wanted_none rfl, loc_move rfl (hf.base 10 rfl)⟩
                · exact ⟨wanted_none rfl, loc_string rfl (l := D) (by rw [show a1.eval (.tmp 60) = v1 from hd 1 rfl]; exact hv.own.val) rfl⟩
                · exact ⟨wanted_none rfl, loc_move rfl (hf.base 11 rfl)⟩
              | 1, _ =>
                refine ⟨?_, ?_, ?_, ?_, ?_, ?_, trivial⟩ <;> intro a1 wx hv hf hd
                · exact ⟨wanted_none rfl, loc_move rfl (hf.base 10 rfl)⟩
                · exact ⟨wanted_none rfl, loc_string rfl (l := D) (by rw [show a1.eval (.tmp 60) = v1 from hd 1 rfl]; exact hv.own.val) rfl⟩
                · exact ⟨wanted_none rfl, loc_move rfl (hf.base 11 rfl)⟩
                · exact ⟨wanted_none rfl, loc_assign rfl (hd 2 rfl)⟩
                · exact ⟨wanted_none rfl, loc_assign rfl (hd 3 rfl)⟩
                · exact ⟨wanted_none rfl, loc_assign rfl rfl⟩
            · intro p hp
              match p, hp with
              | 0, _ =>
                intro a2 wx hv hf hd
                obtain ⟨f5, c5, g5, d5, l5, e5, er5, hm5⟩ := hd 0 rfl
                have hr6 : RVr wx (w.heap.size + 1) #[.bool false, .string ⟨#[]⟩, .int .i64 0, .string ⟨#[]⟩, .string ⟨#[]⟩, .int .i64 0, .slice none 0 0, .bool false, .slice none 0 0, .int .i64 0, .string ⟨#[]⟩, .int .i64 0, .slice none 0 0, .slice none 0 0, .int .i64 0, .int .i64 0, .int .i64 0, .int .i64 0, .int .i64 0, .int .i64 0, .int .i64 0, .slice none 0 0] := hv.r6
                refine ⟨wanted_none rfl, wp_store_row 37 _ _ rfl (w.heap.size + 1) _ (hf.base 6 rfl) er5 37 _ hr6 sizeRd rfl (oneRd ..) ?_⟩
                exact ⟨undef, rfl, ⟨hv.st.rowZ HTN.out HNE.out.1 hr6 zero_noStr zero_noU8, hv.own.same fun q hq => setRow_other _ _ _ _ (by have := (hv.own.lt hq).1; have := HNE.out.2; omega), ⟨f5, c5, g5, d5, l5, e5, setRow_heap _ _ _ _ _ _ hr6, hm5.rowZ HTN.out hr6 zero_noStr zero_noU8⟩, below_setRow hv.bl (by have := HNE.out.2; omega) _⟩, trivial, ⟨.inr fun _ _ _ => trivial, .inr fun _ _ h => h, .inr fun _ _ h => h, .inr fun _ _ h => h, .inl rfl, .inr fun _ _ h => h.elim, .inr fun _ _ h => h.elim, .inr fun _ _ h => h.elim, trivial⟩⟩
            · intro a2 w9 hv hf hh
              have e7 : a2.eval (.tmp 7) = .string ⟨D.toArray⟩ := hh 5 (by decide)
              have e8 : a2.eval (.tmp 8) = .int .i64 (K : Int) := hh 6 (by decide)
              have e9 : a2.eval (.tmp 9) = .int .i64 0 := hh 7 (by decide)
              clear hh
              rw [fr_putAll hf]
              clear hf
              simp only [putAll, e7, e8, e9]
              generalize a2.eval (.tmp 59) = z59
              generalize a2.eval (.tmp 60) = z60
              generalize a2.eval (.tmp 61) = z61
              generalize a2.eval (.tmp 62) = z62
              clear e7 e8 e9 a2
              simp only [Act.put, List.setIfInBounds_toArray, List.set_cons_succ, List.set_cons_zero]
              refine hK2 _ _ ?_
              clear hK2
              obtain ⟨f5, c5, g5, d5, l5, e5, hr6, hm6⟩ := hv.r6
              go_wp2_with fail
              (try simp only [Exit.inBlock, Exit.then])
              refine bodyPost_ret (results_row_tmp3C rfl _ _ (w.heap.size + 1) 37 _ (0, 0) _ rfl hr6 Tryz.underlying37 rfl sizeRd) rfl ?_
              exact ⟨.inr ⟨0, x.r, D, K, f5, c5, g5, d5, l5, e5, HSAME.out, rfl, hm6.m.f1, hm6.m.f2, HX64.out.1, HX64.out.2⟩, hv.bl⟩
          · have e3 : (x.kind == 3) = false := by rw [beq_eq_false_iff_ne]; exact h3
            by_cases h2 : x.kind = 0 ∧ x.n = 0
            · obtain ⟨q1, q2, q3⟩ := HRD.out.2.2.1 h0 h3 h2
              have e4 : (x.kind == 0) = true := by rw [h2.1]; rfl
              have e5 : ((x.n : Int) == 0) = true := by rw [h2.2]; rfl
              have HQ := Box.mk (And.intro q1 (And.intro q2 (And.intro h2.2 q3)))
              clear q1 q2 q3 h2 h3
              by_cases hu : u = b.length
              · have e6 : ((u : Int) == (b.length : Int)) = true := by rw [hu]; simp
                have HSAME := Box.mk (show (RW.got 4 x.r D K).same (CW s0 b) by
                  have hh := HR.out.2.2.2.1
                  rw [HQ.out.2.2.2 (by rw [List.length_drop]; omega)] at hh
                  refine RW.same_trans ?_ hh
                  exact ⟨rfl, by rw [HQ.out.2.1], by simp [hD, HQ.out.1], by have := HQ.out.2.2.1; omega⟩)
                clear hu HR HRD hK hD HQ
                go_wp2_with fail
                rename_i K2 hK2
                refine wp_region_phases [4] (fun p => match p with | 0 => [0, 1, 2, 3] | _ => [1, 2, 3, 5, 6, 7])
                  (fun p => match p with | 0 => [.srow (LW w.heap.size v1) x.r, .val (v1), .val (.string ⟨D.toArray⟩), .val (.int .i64 (K : Int)), .any, .nope, .nope, .nope] | _ => [.any, .val (v1), .val (.string ⟨D.toArray⟩), .val (.int .i64 (K : Int)), .any, .val (.string ⟨D.toArray⟩), .val (.int .i64 (K : Int)), .val (.int .i64 4)])
                  (fun p => match p with | 0 => FnJ w w.heap.size (w.heap.size + 1) v1 x.r D false | _ => FnJ w w.heap.size (w.heap.size + 1) v1 x.r D true)
                  (by kernel_rfl) (by kernel_rfl) (by kernel_rfl) (by kernel_rfl) (by kernel_rfl) (by kernel_rfl) ?_ HF.out ?_ ?_ ?_
                · intro p wa wb h hb
                  match p, h with
                  | 0, h => exact FnJ.keep h hb
                  | (_ + 1), h => exact FnJ.keep h hb
                · intro p hp
                  match p, hp with
                  | 0, _ =>
                    refine ⟨?_, ?_, ?_, ?_, trivial⟩ <;> intro a1 wx hv hf hd
                    · exact ⟨wanted_none rfl, loc_loadS rfl (hf.base 3 rfl) hv.st fun v h => h⟩
                    · exact ⟨wanted_none rfl, loc_move rfl (hf.base 10 rfl)⟩
                    · exact ⟨wanted_none rfl, loc_string rfl (l := D) (by rw [show a1.eval (.tmp 75) = v1 from hd 1 rfl]; exact hv.own.val) rfl⟩
                    · exact ⟨wanted_none rfl, loc_move rfl (hf.base 11 rfl)⟩
                  | 1, _ =>
                    refine ⟨?_, ?_, ?_, ?_, ?_, ?_, trivial⟩ <;> intro a1 wx hv hf hd
                    · exact ⟨wanted_none rfl, loc_move rfl (hf.base 10 rfl)⟩
                    · exact ⟨wanted_none rfl, loc_string rfl (l := D) (by rw [show a1.eval (.tmp 75) = v1 from hd 1 rfl]; exact hv.own.val) rfl⟩
                    · exact ⟨wanted_none rfl, loc_move rfl (hf.base 11 rfl)⟩
                    · exact ⟨wanted_none rfl, loc_assign rfl (hd 2 rfl)⟩
                    · exact ⟨wanted_none rfl, loc_assign rfl (hd 3 rfl)⟩
                    · exact ⟨wanted_none rfl, loc_assign rfl rfl⟩
                · intro p hp
                  match p, hp with
                  | 0, _ =>
                    intro a2 wx hv hf hd
                    obtain ⟨f5, c5, g5, d5, l5, e5, er5, hm5⟩ := hd 0 rfl
                    have hr6 : RVr wx (w.heap.size + 1) #[.bool false, .string ⟨#[]⟩, .int .i64 0, .string ⟨#[]⟩, .string ⟨#[]⟩, .int .i64 0, .slice none 0 0, .bool false, .slice none 0 0, .int .i64 0, .string ⟨#[]⟩, .int .i64 0, .slice none 0 0, .slice none 0 0, .int .i64 0, .int .i64 0, .int .i64 0, .int .i64 0, .int .i64 0, .int .i64 0, .int .i64 0, .slice none 0 0] := hv.r6
                    refine ⟨wanted_none rfl, wp_store_row 37 _ _ rfl (w.heap.size + 1) _ (hf.base 6 rfl) er5 37 _ hr6 sizeRd rfl (oneRd ..) ?_⟩
                    exact ⟨undef, rfl, ⟨hv.st.rowZ HTN.out HNE.out.1 hr6 zero_noStr zero_noU8, hv.own.same fun q hq => setRow_other _ _ _ _ (by have := (hv.own.lt hq).1; have := HNE.out.2; omega), ⟨f5, c5, g5, d5, l5, e5, setRow_heap _ _ _ _ _ _ hr6, hm5.rowZ HTN.out hr6 zero_noStr zero_noU8⟩, below_setRow hv.bl (by have := HNE.out.2; omega) _⟩, trivial, ⟨.inr fun _ _ _ => trivial, .inr fun _ _ h => h, .inr fun _ _ h => h, .inr fun _ _ h => h, .inl rfl, .inr fun _ _ h => h.elim, .inr fun _ _ h => h.elim, .inr fun _ _ h => h.elim, trivial⟩⟩
                · intro a2 w9 hv hf hh
                  have e7 : a2.eval (.tmp 7) = .string ⟨D.toArray⟩ := hh 5 (by decide)
                  have e8 : a2.eval (.tmp 8) = .int .i64 (K : Int) := hh 6 (by decide)
                  have e9 : a2.eval (.tmp 9) = .int .i64 4 := hh 7 (by decide)
                  clear hh
                  rw [fr_putAll hf]
                  clear hf
                  simp only [putAll, e7, e8, e9]
                  generalize a2.eval (.tmp 74) = z74
                  generalize a2.eval (.tmp 75) = z75
                  generalize a2.eval (.tmp 76) = z76
                  generalize a2.eval (.tmp 77) = z77
                  clear e7 e8 e9 a2
                  simp only [Act.put, List.setIfInBounds_toArray, List.set_cons_succ, List.set_cons_zero]
                  refine hK2 _ _ ?_
                  clear hK2
                  obtain ⟨f5, c5, g5, d5, l5, e5, hr6, hm6⟩ := hv.r6
                  go_wp2_with fail
                  (try simp only [Exit.inBlock, Exit.then])
                  refine bodyPost_ret (results_row_tmp3C rfl _ _ (w.heap.size + 1) 37 _ (0, 0) _ rfl hr6 Tryz.underlying37 rfl sizeRd) rfl ?_
                  exact ⟨.inr ⟨4, x.r, D, K, f5, c5, g5, d5, l5, e5, HSAME.out, rfl, hm6.m.f1, hm6.m.f2, HX64.out.1, HX64.out.2⟩, hv.bl⟩
              · have e6 : ((u : Int) == (b.length : Int)) = false := by rw [beq_eq_false_iff_ne]; omega
                have HRL := Box.mk (show WhJ w (w.heap.size + 2) w.heap.size (w.heap.size + 1) v1 x.r D w5 ∧ GoodS x.r (b.drop K) ∧ NmS x.r ∧ ((CW x.r (b.drop K)).add D K).same (CW s0 b) ∧ D.length ≤ 2000 * (i + 1) from ⟨⟨HF.out.st, HF.out.own, HF.out.r6, HF.out.bl, by omega⟩, by rw [HQ.out.2.1, show K = k by have := HQ.out.2.2.1; omega]; exact HR.out.2.1, HNX.out, by rw [HQ.out.2.1, show K = k by have := HQ.out.2.2.1; omega, hD, HQ.out.1, List.append_nil]; exact HR.out.2.2.2.1, by rw [hD, HQ.out.1, List.append_nil]; omega⟩)
                have HKk := Box.mk (show K = k by have := HQ.out.2.2.1; omega)
                clear HR HRD HQ HF hD hK
                have hul : u < b.length := by omega
                clear hu
                by_cases hcl0 : cl = 0
                · have hgt : ¬ (cl : Int) > 0 := by omega
                  clear hcl0
                  obtain ⟨u2, hu2⟩ : ∃ u2 : Nat, u2 = min (u + (1 + b.length)) b.length := ⟨_, rfl⟩
                  have hmn : ∀ (ts : Array TypeId) (t : TypeId) (W : World), (Builtin.min_ ts t #[.int .i64 ((u : Int) + (1 + (b.length : Int))), .int .i64 b.length]).run Tryz.prog W = .ok (.int .i64 (u2 : Int)) W := fun ts t W => by
                    rw [run_min_int2]
                    congr 2
                    rw [hu2]
                    split <;> omega
                  have hu3 : u < u2 ∧ u2 ≤ b.length := by omega
                  clear hu2
                  go_wp2_with fail
                  go_roundw
                  case rel => have hKk := HKk.out; exact ⟨K, u2, i + 1, rfl, rfl, by go_num, by omega, by omega, by omega, x.r, D, ⟨HRL.out.1, HRL.out.2.1, HRL.out.2.2.1, HRL.out.2.2.2.1, HRL.out.2.2.2.2⟩⟩
                  case measure => have hKk := HKk.out; simp [intOf]; omega
                · have hgt : (cl : Int) > 0 := by omega
                  have hcl1 : 0 < cl := by omega
                  obtain ⟨z, ad, hz, hcz⟩ : ∃ z ad, ca = some ad ∧ w5.cell? (ad.add (i % cl)) = some (.int .i64 z) := by
                    obtain ⟨ad, z, h1, h2, _⟩ := HCU.out (i % cl) (Nat.mod_lt _ hcl1)
                    exact ⟨z, ad, h1, below_cell HRL.out.1.bl h2⟩
                  subst hz
                  have hmod : i % cl < cl := Nat.mod_lt _ hcl1
                  have hrem : (i : Int).tmod (cl : Int) = ((i % cl : Nat) : Int) := by rw [Int.tmod_eq_emod_of_nonneg (by omega)]; simp
                  obtain ⟨j, hj⟩ : ∃ j : Nat, i % cl = j := ⟨_, rfl⟩
                  rw [hj] at hcz hmod hrem
                  clear hcl0 hj
                  go_wp2_with fail
                  refine (within_any z 9 w5 (by decide) (by decide)).mono ?_
                  rintro e w6 ⟨kk, hkk, rfl, rfl⟩
                  obtain ⟨u2, hu2⟩ : ∃ u2 : Nat, u2 = min (u + (1 + kk)) b.length := ⟨_, rfl⟩
                  have hmn : ∀ (ts : Array TypeId) (t : TypeId) (W : World), (Builtin.min_ ts t #[.int .i64 ((u : Int) + (1 + (kk : Int))), .int .i64 b.length]).run Tryz.prog W = .ok (.int .i64 (u2 : Int)) W := fun ts t W => by
                    rw [run_min_int2]
                    congr 2
                    rw [hu2]
                    split <;> omega
                  have hu3 : u < u2 ∧ u2 ≤ b.length := by omega
                  clear hu2 hcz hrem hmod
                  go_wp2_with fail
                  go_roundw
                  case rel => have hKk := HKk.out; exact ⟨K, u2, i + 1, rfl, rfl, by go_num, by omega, by omega, by omega, x.r, D, ⟨HRL.out.1, HRL.out.2.1, HRL.out.2.2.1, HRL.out.2.2.2.1, HRL.out.2.2.2.2⟩⟩
                  case measure => have hKk := HKk.out; simp [intOf]; omega
            · obtain ⟨q1, q2, q3, q4⟩ := HRD.out.2.2.2 h0 h3 h2
              rw [List.drop_drop] at q3 q4
              have HRL := Box.mk (show WhJ w (w.heap.size + 2) w.heap.size (w.heap.size + 1) v1 x.r D w5 ∧ GoodS x.r (b.drop K) ∧ NmS x.r ∧ ((CW x.r (b.drop K)).add D K).same (CW s0 b) ∧ D.length ≤ 2000 * (i + 1) from ⟨⟨HF.out.st, HF.out.own, HF.out.r6, HF.out.bl, by omega⟩, by rw [hK]; exact q3, HNX.out, by
                  have hh := RW.add_same q4 d k
                  rw [RW.add_add, ← hD, ← hK] at hh
                  exact RW.same_trans hh HR.out.2.2.2.1, by rw [hD, List.length_append]; omega⟩)
              have hKk : k < K ∧ K ≤ u := by omega
              clear q1 q2 q3 q4 HR HRD HF hD hK
              by_cases hk0 : x.kind = 0
              · have e4 : (x.kind == 0) = true := by rw [hk0]; rfl
                have e5 : ((x.n : Int) == 0) = false := by rw [beq_eq_false_iff_ne]; intro e; exact h2 ⟨hk0, by omega⟩
                clear h2 hk0 h3
                go_wp2_with fail
                go_roundw
                case rel => exact ⟨K, u, i + 1, rfl, rfl, by go_num, by omega, by omega, by omega, x.r, D, ⟨HRL.out.1, HRL.out.2.1, HRL.out.2.2.1, HRL.out.2.2.2.1, HRL.out.2.2.2.2⟩⟩
                case measure => simp [intOf]; omega
              · have e4 : (x.kind == 0) = false := by rw [beq_eq_false_iff_ne]; exact hk0
                clear h2 hk0 h3
                go_wp2_with fail
                go_roundw
                case rel => exact ⟨K, u, i + 1, rfl, rfl, by go_num, by omega, by omega, by omega, x.r, D, ⟨HRL.out.1, HRL.out.2.1, HRL.out.2.2.1, HRL.out.2.2.2.1, HRL.out.2.2.2.2⟩⟩
                case measure => simp [intOf]; omega
      · have HSAME := Box.mk (show CW s0 b = .err x.er by
          have hh := HR.out.2.2.2.1
          rw [HRD.out.1 h0] at hh
          exact same_err hh)
        have e0 : (x.er != 0) = true := by rw [bne_iff_ne]; exact h0
        have HZ4 := Box.mk hv.rs
        have HB4 := Box.mk hv.bl
        clear h0 hst14 hpt15 hv HR HRD
        go_wp2_with (refine wpList_store_row rfl 37 _ _ rfl (w.heap.size + 1) #[.bool false, .string ⟨#[]⟩, .int .i64 0, .string ⟨#[]⟩, .string ⟨#[]⟩, .int .i64 0, .slice none 0 0, .bool false, .slice none 0 0, .int .i64 0, .string ⟨#[]⟩, .int .i64 0, .slice none 0 0, .slice none 0 0, .int .i64 0, .int .i64 0, .int .i64 0, .int .i64 0, .int .i64 0, .int .i64 0, .int .i64 0, .slice none 0 0] rfl rfl 37 _ HZ4.out sizeRd rfl (oneRd ..) ?_)
        (try simp only [Exit.inBlock, Exit.then])
        refine bodyPost_ret (results_row_tmp3C rfl _ _ (w.heap.size + 1) 37 #[.bool false, .string ⟨#[]⟩, .int .i64 0, .string ⟨#[]⟩, .string ⟨#[]⟩, .int .i64 0, .slice none 0 0, .bool false, .slice none 0 0, .int .i64 0, .string ⟨#[]⟩, .int .i64 0, .slice none 0 0, .slice none 0 0, .int .i64 0, .int .i64 0, .int .i64 0, .int .i64 0, .int .i64 0, .int .i64 0, .int .i64 0, .slice none 0 0] (0, 0) _ rfl (setRow_heap _ _ _ _ _ _ HZ4.out) Tryz.underlying37 rfl sizeRd) rfl ?_
        exact ⟨.inl ⟨x.er, HSAME.out, rfl⟩, below_setRow HB4.out (by omega) _⟩
end Go.Proofs.YtejbkbccljoldaaGreatDoor
namespace Go.Proofs.YtejbkbccljoldaaGreatDoor
open Go.RowKit

theorem endS_front {h r : List UInt8} (h1 : endZ h = h.length) (h2 : 4 ≤ h.length) (h3 : h.length ≤ 400) : endS (h ++ r) 400 = ((h.length : Int), 0) := by
  have h4 := endZ_take (h ++ r) h.length
  rw [List.take_left, h1] at h4
  unfold endS
  split at h4
  · rw [if_pos (by omega), ← h4]
  · omega
theorem headR_ends {h : List UInt8} (h0 : (headR h).1 = 0) : endZ h = h.length ∧ 4 ≤ h.length := by
  unfold headR at h0
  split at h0
  · rename_i l0 ls hL
    unfold linesS at hL
    split at hL
    · rename_i hc; exact hc
    · cases hL
  · cases h0
def begR (rep : Bool) (p : ByteArray) : RS := { zeroR with rep := rep, meth := p }
theorem begR_ok (rep : Bool) (p : ByteArray) (body : Int) : OkN body (begR rep p) := ⟨⟨okC_zero, fun h => absurd h (by show ¬ (0 : Int) = 2; decide), by show (0 : Int) ≤ 0 ∧ (0 : Int) ≤ 1000000000; decide, ⟨fun f hf => absurd hf (by simp [begR, zeroR]), by show 0 ≤ 64; decide⟩, ⟨fun f hf => absurd hf (by simp [begR, zeroR]), by show 0 ≤ 64; decide⟩⟩, .inl rfl, fun h => absurd h (by show ¬ (0 : Int) = 1; decide), fun h => absurd h (by show ¬ (0 : Int) = 1; decide), fun h => absurd h (by show ¬ (0 : Int) = 1; decide), fun h => absurd h (by show ¬ (0 : Int) = 1; decide)⟩
theorem begR_good {rep : Bool} {p : ByteArray} {b : List UInt8} (h : GoodB b) : GoodS (begR rep p) b := ⟨begR_ok rep p 100, .inl rfl, fun _ => h, fun h => absurd h (by show ¬ (0 : Int) = 1; decide)⟩
end Go.Proofs.YtejbkbccljoldaaGreatDoor
namespace Go.Proofs.YtejbkbccljoldaaGreatDoor
open Go.RowKit

/-- The source stands at its number i. -/
def SrcI (w : World) (g : Nat) (a : Option Addr) (n c i : Nat) : Prop :=
  i ≤ n ∧ w.heap[g]? = some (.cells #[.slice a n c, .int .i64 i] 56 (0, 0)) ∧ n ≤ maxLen ∧ IntsF w a n ∧ ∀ x, a = some x → 0 < n → x.block ≠ g
theorem SrcI.src {w : World} {g : Nat} {a : Option Addr} {n c i : Nat} (h : SrcI w g a n c i) : Src w g a n c := ⟨⟨i, h.1, h.2.1⟩, h.2.2.1, h.2.2.2.1, h.2.2.2.2⟩
theorem Src.ex {w : World} {g : Nat} {a : Option Addr} {n c : Nat} (h : Src w g a n c) : ∃ i, SrcI w g a n c i := by
  obtain ⟨⟨i, h1, h2⟩, h3, h4, h5⟩ := h
  exact ⟨i, h1, h2, h3, h4, h5⟩
theorem SrcI.keep {w w' : World} {g : Nat} {a : Option Addr} {n c i : Nat} (h : SrcI w g a n c i) (hb : Below w.heap.size w w') : SrcI w' g a n c i :=
  ⟨h.1, by rw [hb.block g (Array.getElem?_eq_some_iff.1 h.2.1).1]; exact h.2.1, h.2.2.1, h.2.2.2.1.keep hb, h.2.2.2.2⟩
end Go.Proofs.YtejbkbccljoldaaGreatDoor
namespace Go.Proofs.YtejbkbccljoldaaGreatDoor
open Go.RowKit

set_option linter.unusedVariables false
theorem fldsIn_nil (w : World) : FldsIn w none [] := FldsIn.nil w none
theorem begR_mem (rep : Bool) (p : ByteArray) (w : World) : RMem (fun _ => True) w (begR rep p) none none none 0 :=
  ⟨fldsIn_nil w, fldsIn_nil w, .inl ⟨rfl, rfl, rfl⟩, (fun _ e => by cases e), (fun _ e => by cases e)⟩
theorem begR_nm (rep : Bool) (p : ByteArray) : NmS (begR rep p) := nmS_zero
theorem intsF_none (w : World) : IntsF w none 0 := fun j hj => absurd hj (Nat.not_lt_zero _)
end Go.Proofs.YtejbkbccljoldaaGreatDoor
