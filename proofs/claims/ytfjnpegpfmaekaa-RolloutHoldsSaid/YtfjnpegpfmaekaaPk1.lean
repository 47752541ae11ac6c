/- Contracts of the small functions of package ascii and of its reference: one byte, and loops over the bytes of a string. Slices of strings in memory: one that is read, one that the call appends to, one that is kept beside it. Opening arguments: a byte, a slice of bytes. A region that draws its order, whose operations all leave the world in a class, but for the last one, which waits for all of them. A region that draws its order, by what each operation leaves: one fact an operation, whatever the order. Appending a slice of bytes that came in to a slice of the call's own; the law HashWrite at open arguments; what the bound on the arguments gives. More of a region's single operations: comparisons, lengths, slices of slices that are built. A region that draws its order and stores once, by what each operation leaves. SHA-256 in plain words, over words of 32 bits; how the arithmetic of the translated code is spelt at them. Fields: Valid of package field and of its reference; a field's line. Values, Without and Has of package field. A region that draws its order, whose one store comes behind all else: the rest goes on from there. Parse of package field: the index of a colon, strings.Cut. A region that draws its order, in phases: between its breaking operations the others come in whatever order. The source of numbers of the laws: Within, Next, Of. Contracts of Add, of package number and of its reference. Plans: mathematics, and the reference's check of one. Plans: the reference's weight of a stage and verdict on a window; variables of small structs. A slice of bytes of the call's own, beside other memory: what an append leaves alone. Queues: New, Valid, Room; the reference's. The fields that the laws make: Field, Fields, fields, name. fields, name and awake of the laws; Short. The contracts of awake and of the laws of layer 2. The reference's NewID, exactly. Windows: the reference's functions of a window. Write: a text that comes in pieces. -/
import Derived.Test.YtfjnpegpfmaekaaRows
import Derived.WalkKit
import Derived.WalkSpells
import Derived.WalkLawsBesides
import Derived.BigQuiet
import Derived.Deep.QuietTactic
import Derived.Lib.Bytealg
import Derived.Lib.IndexLaws
import Derived.Lib.Hide
import Derived.Deep.AppendLies
import Derived.ProofKit
import Derived.OpenShut
import Derived.Laws.IdiomStrings
import Derived.Lib.Strings
import Derived.Deep.Quiet
import Derived.Tactics
import Derived.KernelRfl
import Derived.Below
import Derived.Laws.Bits64
import Derived.SliceStrings
import Derived.Lib.SlBytesConst
import Derived.Maps.AppendAt
import Derived.Laws.AppendOwnNone
import Derived.Great.BuildSlice
import Derived.Laws.Rows
import Derived.Laws.BitsAllLaws
import Derived.Laws.Shifts
import Derived.Lib.SlTrimSet
import Derived.Lib.IndexBytes
import Derived.Lib.Split
import Derived.Shelf.LaysM
import Derived.Test.YtfjnpegpfmaekaaProg
import Derived.Shelf.Strings.SlTrimAscii
import Derived.Lib.SplitLaws
import Derived.WalkSmall
import Derived.Maps.OwnOps
import Derived.Maps.OwnSet
import Derived.Deep.SlicePairs
import Derived.Lib.AppendZerosOnto
import Derived.Lib.AppendStr
import Derived.Laws.CopyOwn
import Derived.OwnWalk
import Derived.Laws.Strings3
import Derived.Laws.Concat
import Derived.Lib.ItoaMem
import Derived.Deep.DeepCutAuto
import Derived.Deep.CutBlock
import Derived.Laws.Tables
import Derived.Deep.Matrix
import Derived.IntWalk
import Derived.Sort.Grow
import Derived.Lib.LaidTab
import Derived.LaidSub
import Derived.Laws.RangeAny
import Derived.Laws.Bits64b
import Derived.Deep.WholeRow
import Derived.StillTailTactics
namespace Go.Proofs.Ytfjnpegpfmaekaa
open Go.RowKit

theorem ret_bool {a b : Bool} (h : a = b) : Ending.returned (.bool a) = .returned (.bool b) := by rw [h]
theorem ret_int {k : IntKind} {a b : Int} (h : a = b) : Ending.returned (.int k a) = .returned (.int k b) := by rw [h]
end Go.Proofs.Ytfjnpegpfmaekaa
namespace Go.Proofs.Ytfjnpegpfmaekaa
open Go.RowKit

theorem lt_cell {w : World} {a : Addr} {v : Value} (h : w.cell? a = some v) : a.block < w.heap.size := by
  rcases Nat.lt_or_ge a.block w.heap.size with h' | h'
  · exact h'
  · simp [World.cell?, Array.getElem?_eq_none h'] at h
theorem below_trans {w w1 w2 : World} (h : Below w.heap.size w w1) (k : Below w1.heap.size w1 w2) : Below w.heap.size w w2 := h.trans (k.mono h.size)
theorem below_cell {w w' : World} (h : Below w.heap.size w w') {a : Addr} {v : Value} (hc : w.cell? a = some v) : w'.cell? a = some v := by
  rw [h.cell (lt_cell hc)]; exact hc

section
variable {ops : Array Oper} {rest : List Oper} {o : Oper} {act : Act} {Q : Exit → Act → World → Prop}
end
end Go.Proofs.Ytfjnpegpfmaekaa
namespace Go.Proofs.Ytfjnpegpfmaekaa
open Go.ChangeShapes Go.WideShapes Go.ChangeAt Go.RowKit

/-- The slice at a reads as the bytes l. -/
def IsBytes (w : World) (a : Option Addr) (l : List UInt8) (cap : Nat) : Prop :=
  (a = none ∧ l = [] ∧ cap = 0) ∨ ∃ x, a = some x ∧ l.length ≤ cap ∧ cap ≤ maxLen ∧ ∀ j (hj : j < l.length), w.cell? (x.add j) = some (.int .u8 (l[j].toNat : Int))

end Go.Proofs.Ytfjnpegpfmaekaa
namespace Go.Proofs.Ytfjnpegpfmaekaa

section
variable {P : Program} {md : Region.Mode} {C : World → Prop} {l : List Oper} {o : Oper}

end

section
variable {P : Program} {md : Region.Mode} {ops : Array Oper} {Q : Exit → Act → World → Prop}
theorem count_set : ∀ (l : List Bool) (i : Nat), i < l.length → l.getD i true = false → (l.set i true).countP (!·) + 1 = l.countP (!·)
  | b :: l, 0, _, h => by
    have : b = false := h
    subst this
    simp
  | b :: l, i + 1, hi, h => by
    have := count_set l i (by simpa using hi) (by simpa using h)
    rw [List.set_cons_succ, List.countP_cons, List.countP_cons]
    omega
/-- AN INVARIANT OVER THE MARKS: whatever may come up keeps it; where nothing may come up it gives what is asked. -/
theorem wpAny_inv (J : Array Bool → Act → World → Prop) (hstep : ∀ m a w, m.size = ops.size → J m a w → ∀ i, i ∈ Region.ready md ops m → wpOp P ops Q i (J (m.setIfInBounds i true)) a w)
    (hdone : ∀ m a w, m.size = ops.size → J m a w → Region.ready md ops m = [] → Q .normal a w) :
    ∀ (f : Nat) (m : Array Bool) (a : Act) (w : World), m.size = ops.size → m.toList.countP (!·) ≤ f → J m a w → wpAny P md ops Q f m a w
  | 0, m, a, w, hs, hc, hJ => by
    have hr : Region.ready md ops m = [] := by
      rw [List.eq_nil_iff_forall_not_mem]
      intro i hi
      obtain ⟨h1, x, hx, _⟩ := mem_ready.1 hi
      have hlt : i < m.size := by rw [hs]; exact (Array.getElem?_eq_some_iff.1 hx).1
      have h2 : m.toList.getD i true = false := by simpa [List.getD_eq_getElem?_getD, hlt] using h1
      have := count_set m.toList i (by simpa using hlt) h2
      omega
    exact ⟨hr, hdone m a w hs hJ hr⟩
  | f + 1, m, a, w, hs, hc, hJ => by
    refine ⟨fun hr => hdone m a w hs hJ hr, fun i hi => ?_⟩
    refine wpOp_mono (fun a' w' hJ' => wpAny_inv J hstep hdone f _ a' w' (by simpa using hs) ?_ hJ') (hstep m a w hs hJ i hi)
    obtain ⟨h1, x, hx, _⟩ := mem_ready.1 hi
    have hlt : i < m.size := by rw [hs]; exact (Array.getElem?_eq_some_iff.1 hx).1
    have h2 : m.toList.getD i true = false := by simpa [List.getD_eq_getElem?_getD, hlt] using h1
    have := count_set m.toList i (by simpa using hlt) h2
    rw [Array.toList_setIfInBounds]
    omega
theorem wp_region_inv {id : Nat} {a : Act} {w : World} (hm : P.follows .mixedOrders = true) (J : Array Bool → Act → World → Prop)
    (hstep : ∀ m a w, m.size = ops.size → J m a w → ∀ i, i ∈ Region.ready .any ops m → wpOp P ops Q i (J (m.setIfInBounds i true)) a w)
    (hdone : ∀ m a w, m.size = ops.size → J m a w → Region.ready .any ops m = [] → Q .normal a w) (h0 : J (Array.replicate ops.size false) a { w with drawn := w.drawn + 1 }) : (Code.region id ops true).wp P Q a w := by
  refine wp_region_any hm (wpAny_inv J hstep hdone _ _ _ _ (by simp) ?_ h0)
  have := List.countP_le_length (p := (!·)) (l := (Array.replicate ops.size false).toList)
  simpa using this
end
end Go.Proofs.Ytfjnpegpfmaekaa
namespace Go.Proofs.Ytfjnpegpfmaekaa
open Go.RowKit

/-- What an operation leaves in its slot; whatever comes later keeps it. -/
structure Spec where
  p : Value → World → Prop
  mono : ∀ v w w', p v w → Below w.heap.size w w' → p v w'
def Spec.val (v : Value) : Spec := ⟨fun x _ => x = v, fun _ _ _ h _ => h⟩
def Spec.any : Spec := ⟨fun _ _ => True, fun _ _ _ h _ => h⟩

def Holds (ops : Array Oper) (S : List Spec) (a : Act) (w : World) (j : Nat) : Prop :=
  match ops[j]?, S[j]? with
  | some o, some s => (match o.dst with | some d => s.p (a.eval (.tmp d)) w | none => True)
  | _, _ => True
def isDst (ops : Array Oper) (k : Nat) : Bool := ops.toList.any fun o => o.dst == some k
def waitsFor (o : Oper) (j : Nat) : Bool := o.after.toList.any fun e => Region.binds .any e && e.on == j
/-- The slots are different ones, and within the frame. -/
def dstsOk (ops : Array Oper) (n : Nat) : Bool :=
  (List.range ops.size).all fun i => match (ops[i]?).bind (·.dst) with
    | some d => decide (d < n) && (List.range ops.size).all fun j => decide (i = j) || !((ops[j]?).bind (·.dst) == some d)
    | none => true
/-- The frame on the way: but for the operations' own slots it is the one before. -/
structure Fr (ops : Array Oper) (a0 a : Act) : Prop where
  defers : a.defers = a0.defers
  size : a.tmps.size = a0.tmps.size
  base : ∀ k, isDst ops k = false → a.eval (.tmp k) = a0.eval (.tmp k)
/-- One operation by itself. -/
def StepOK (P : Program) (Q : Exit → Act → World → Prop) (ops : Array Oper) (S : List Spec) (a0 : Act) (w0 : World) (o : Oper) (s : Spec) : Prop :=
  ∀ a w, Below w0.heap.size w0 w → Fr ops a0 a → (∀ j, waitsFor o j = true → Holds ops S a w j) →
    Region.wanted o (yielded ops a.tmps) = true ∧ o.wp P a w (fun a' w' => ∃ v, a' = a.put o.dst v ∧ Below w.heap.size w w' ∧ s.p v w') Q
def StepsOK (P : Program) (Q : Exit → Act → World → Prop) (ops : Array Oper) (S : List Spec) (a0 : Act) (w0 : World) : List Oper → List Spec → Prop
  | o :: os, s :: ss => StepOK P Q ops S a0 w0 o s ∧ StepsOK P Q ops S a0 w0 os ss
  | [], [] => True
  | _, _ => False

section
variable {P : Program} {Q : Exit → Act → World → Prop} {ops : Array Oper} {S : List Spec} {a0 : Act} {w0 : World}
theorem stepsOK_at : ∀ {os : List Oper} {ss : List Spec}, StepsOK P Q ops S a0 w0 os ss → ∀ (i : Nat) (o : Oper), os[i]? = some o → ∃ s, ss[i]? = some s ∧ StepOK P Q ops S a0 w0 o s
  | o :: os, s :: ss, h, 0, _, rfl => ⟨s, rfl, h.1⟩
  | o :: os, s :: ss, h, i + 1, o', ho => stepsOK_at h.2 i o' ho
  | [], _, _, i, _, ho => by simp at ho
theorem eval_put_same {a : Act} {d : Nat} {v : Value} (h : d < a.tmps.size) : (a.put (some d) v).eval (.tmp d) = v := by
  simp [Act.put, Act.eval, h]
theorem eval_put_other {a : Act} {d : Option Tmp} {k : Nat} {v : Value} (h : d ≠ some k) : (a.put d v).eval (.tmp k) = a.eval (.tmp k) := by
  cases d with
  | none => rfl
  | some d =>
    have hne : d ≠ k := fun e => h (by rw [e])
    simp [Act.put, Act.eval, Array.getElem?_setIfInBounds_ne hne]
theorem dsts_lt {n : Nat} (h : dstsOk ops n = true) {i : Nat} {o : Oper} {d : Nat} (ho : ops[i]? = some o) (hd : o.dst = some d) : d < n ∧ ∀ j o', ops[j]? = some o' → j ≠ i → o'.dst ≠ some d := by
  have hi : i < ops.size := (Array.getElem?_eq_some_iff.1 ho).1
  have h1 := List.all_eq_true.1 h i (List.mem_range.2 hi)
  rw [ho] at h1
  simp only [Option.bind_some, hd, Bool.and_eq_true, decide_eq_true_eq] at h1
  refine ⟨h1.1, fun j o' ho' hji hd' => ?_⟩
  have hj : j < ops.size := (Array.getElem?_eq_some_iff.1 ho').1
  have h2 := List.all_eq_true.1 h1.2 j (List.mem_range.2 hj)
  rw [ho'] at h2
  simp [hd'] at h2
  exact hji h2.symm
theorem holds_mono {a : Act} {w w' : World} {j : Nat} (h : Holds ops S a w j) (hb : Below w.heap.size w w') : Holds ops S a w' j := by
  unfold Holds at *
  split
  · rename_i o s ho hs
    rw [ho, hs] at h
    cases hd : o.dst with
    | none => trivial
    | some d => simp only [hd] at h; exact s.mono _ _ _ h hb
  · trivial
theorem wp_region_local {id : Nat} (S : List Spec) (hm : P.follows .mixedOrders = true) (hB : (List.range ops.size).all (fun i => match ops[i]? with | some x => x.after.all (fun e => decide (e.on < i)) | none => true) = true)
    (hd : dstsOk ops a0.tmps.size = true) (h : StepsOK P Q ops S a0 w0 ops.toList S)
    (hQ : ∀ a w, Below w0.heap.size w0 w → Fr ops a0 a → (∀ j, j < ops.size → Holds ops S a w j) → Q .normal a w) : (Code.region id ops true).wp P Q a0 w0 := by
  refine wp_region_inv hm (fun m a w => Below w0.heap.size w0 w ∧ Fr ops a0 a ∧ ∀ j, m.getD j false = true → Holds ops S a w j) ?_ ?_ ?_
  · rintro m a w hs ⟨hb, hf, hh⟩ i hi
    obtain ⟨h1, o, ho, hall⟩ := mem_ready.1 hi
    have hil : i < ops.size := (Array.getElem?_eq_some_iff.1 ho).1
    obtain ⟨s, hsi, hstep⟩ := stepsOK_at h i o (by simpa using ho)
    obtain ⟨hw, hwp⟩ := hstep a w hb hf fun j hj => by
      obtain ⟨e, he, h2⟩ := List.any_eq_true.1 hj
      simp only [Bool.and_eq_true, beq_iff_eq] at h2
      obtain ⟨h3, rfl⟩ := h2
      exact hh _ (hall e (Array.mem_toList_iff.1 he) h3)
    unfold wpOp
    simp only [ho]
    rw [if_pos hw]
    refine .inl (Oper.wp_mono ?_ hwp)
    rintro a' w' ⟨v, rfl, hb', hsp⟩
    refine ⟨hb.trans (hb'.mono hb.size), ⟨?_, ?_, fun k hk => ?_⟩, fun j hj => ?_⟩
    · have := hf.defers
      cases o.dst <;> simpa [Act.put] using this
    · have := hf.size
      cases o.dst <;> simpa [Act.put] using this
    · rw [eval_put_other, hf.base k hk]
      intro hk2
      have : isDst ops k = true := by
        unfold isDst
        exact List.any_eq_true.2 ⟨o, Array.mem_toList_iff.2 (Array.mem_of_getElem? ho), by rw [hk2]; simp⟩
      rw [hk] at this; cases this
    · by_cases hji : j = i
      · subst hji
        unfold Holds
        simp only [ho, hsi]
        cases hdo : o.dst with
        | none => trivial
        | some d =>
          show s.p ((a.put (some d) v).eval (.tmp d)) w'
          rw [eval_put_same]
          · exact hsp
          · rw [hf.size]; exact (dsts_lt hd ho hdo).1
      · have hj' : m.getD j false = true := by rw [getD_set_ne false (fun e => hji e.symm)] at hj; exact hj
        have h5 := holds_mono (hh j hj') hb'
        unfold Holds at *
        cases hoj : ops[j]? with
        | none => simp
        | some o' =>
          cases hsj : S[j]? with
          | none => simp
          | some s' =>
            simp only [hoj, hsj] at h5 ⊢
            cases hdo : o'.dst with
            | none => trivial
            | some d =>
              simp only [hdo] at h5 ⊢
              show s'.p ((a.put o.dst v).eval (.tmp d)) w'
              rw [eval_put_other]
              · exact h5
              · intro e
                exact (dsts_lt hd ho e).2 j o' hoj hji hdo
  · rintro m a w hs ⟨hb, hf, hh⟩ hr
    refine hQ a w hb hf fun j hj => hh j ?_
    induction j using Nat.strongRecOn with
    | _ j ih =>
      cases hmj : m.getD j false with
      | true => rfl
      | false =>
        exfalso
        have hoj : ops[j]? = some ops[j] := Array.getElem?_eq_getElem hj
        have hbk := List.all_eq_true.1 hB j (List.mem_range.2 hj)
        rw [hoj] at hbk
        simp only [Array.all_eq_true_iff_forall_mem, decide_eq_true_eq] at hbk
        have : j ∈ Region.ready .any ops m := mem_ready.2 ⟨by
          have hs' : j < m.size := by rw [hs]; exact hj
          simp [hs'] at hmj ⊢; exact hmj, ops[j], hoj, fun e he _ => ih _ (hbk e he) (by have := hbk e he; omega)⟩
        rw [hr] at this; cases this
  · refine ⟨(Below.refl _ _).drew, ⟨rfl, rfl, fun _ _ => rfl⟩, fun j hj => ?_⟩
    exfalso
    simp only [Array.getD_eq_getD_getElem?, Array.getElem?_replicate] at hj
    split at hj <;> simp at hj
end

/-- The frame, written out. -/
theorem act_eq {a a0 : Act} {n : Nat} (h : a.tmps.size = n) (hd : a.defers = a0.defers) : a = ⟨((List.range n).map fun k => a.eval (.tmp k)).toArray, a0.defers⟩ := by
  obtain ⟨t, d⟩ := a
  simp only at h hd
  subst h hd
  congr 1
  apply Array.ext
  · simp
  · intro i h1 h2
    simp [Act.eval, Array.getElem?_eq_getElem h1]

section
variable {P : Program} {Q : Exit → Act → World → Prop} {ops : Array Oper} {S : List Spec} {a : Act} {w : World} {o : Oper} {s : Spec}
theorem wanted_none (h : o.guard = none) : Region.wanted o (yielded ops a.tmps) = true := by unfold Region.wanted; rw [h]
theorem wanted_true {j d : Nat} (h : o.guard = some (j, true)) (hd : (ops[j]?).bind (·.dst) = some d) (hv : a.eval (.tmp d) = .bool true) : Region.wanted o (yielded ops a.tmps) = true := by
  have e : a.tmps[d]? = some (.bool true) := by
    unfold Act.eval at hv
    simp only [Array.getD_eq_getD_getElem?] at hv
    cases hq : a.tmps[d]? with
    | none => rw [hq] at hv; cases hv
    | some x => rw [hq] at hv; simp at hv; rw [hv]
  unfold Region.wanted yielded
  rw [h]
  simp [hd, e]
theorem loc_run {v : Value} {w' : World} (h : (execOp a.eval o).run P w = .ok (.value v) w') (hb : Below w.heap.size w w') (hs : s.p v w') : o.wp P a w (fun a' w' => ∃ v, a' = a.put o.dst v ∧ Below w.heap.size w w' ∧ s.p v w') Q := by
  unfold Oper.wp
  rw [h]
  exact ⟨v, rfl, hb, hs⟩
theorem loc_move {x : Operand} (ho : o.op = .move x) (hs : s.p (a.eval x) w) : o.wp P a w (fun a' w' => ∃ v, a' = a.put o.dst v ∧ Below w.heap.size w w' ∧ s.p v w') Q :=
  loc_run (by unfold execOp; rw [ho]; rfl) (Below.refl _ _) hs
theorem loc_assign {x : Operand} (ho : o.op = .assign x) (hs : s.p (a.eval x) w) : o.wp P a w (fun a' w' => ∃ v, a' = a.put o.dst v ∧ Below w.heap.size w w' ∧ s.p v w') Q :=
  loc_run (by unfold execOp; rw [ho]; rfl) (Below.refl _ _) hs
theorem loc_pick {c x y : Operand} (ho : o.op = .pick c x y) (hc : a.eval c = .bool true) (hs : s.p (a.eval x) w) : o.wp P a w (fun a' w' => ∃ v, a' = a.put o.dst v ∧ Below w.heap.size w w' ∧ s.p v w') Q :=
  loc_run (by unfold execOp; rw [ho]; simp only [hc]; rfl) (Below.refl _ _) hs
theorem loc_load {x : Operand} {t : TypeId} (ho : o.op = .load t x) {v : Value} (h : (Instr.loadAt t (a.eval x)).run P w = .ok v w) (hs : s.p v w) : o.wp P a w (fun a' w' => ∃ v, a' = a.put o.dst v ∧ Below w.heap.size w w' ∧ s.p v w') Q :=
  loc_run (v := v) (by unfold execOp; rw [ho]; simp only [Sem.run_bind, h, Result.andThen_ok, Sem.run_pure]) (Below.refl _ _) hs
theorem loc_call {f : FuncId} {args : List Operand} {ts : Array TypeId} (ho : o.op = .call { callee := .value (.func f), args := args.toArray, argTypes := ts })
    (hf : (P.funcs[f]?).map (fun fn => fn.name != "runtime.NumGoroutine" && fn.body.isSome) = some true) (h : Calls P f (args.map a.eval).toArray w fun e w' => ∃ v, e = .returned v ∧ Below w.heap.size w w' ∧ s.p v w') : o.wp P a w (fun a' w' => ∃ v, a' = a.put o.dst v ∧ Below w.heap.size w w' ∧ s.p v w') Q := by
  have hrun : (execOp a.eval o).run P w = .ok (.enter f (args.map a.eval).toArray) w := by
    unfold execOp; rw [ho]
    cases hfn : P.funcs[f]? with
    | none => rw [hfn] at hf; cases hf
    | some fn =>
      rw [hfn] at hf
      simp only [Option.map_some, Option.some.injEq, Bool.and_eq_true, bne_iff_ne, ne_eq] at hf
      have hb : fn.body ≠ none := fun e => by rw [e] at hf; exact absurd hf.2 (by simp)
      simp [resolve, Deferred.ofValue, invoke, callFunc, show a.eval (.func f) = .func (.func f) #[] #[] from rfl, hfn, hf.1, hb]
  unfold Oper.wp
  rw [hrun, Oper.upon_enter]
  refine h.mono ?_
  rintro e w' ⟨v, rfl, hb, hs⟩
  exact ⟨v, rfl, hb, hs⟩
end
section
variable {P : Program} {ops : Array Oper} {Q : Exit → Act → World → Prop} {a : Act} {w : World} {rest : List Oper}
theorem local_ret {fn : Func} {R : Ending → World → Prop} {t : Tmp} {v : Value} (h : fn.results = #[.tmp t]) (hd : a.defers = []) (hv : a.eval (.tmp t) = v) (hR : R (.returned v) w) : bodyPost P fn R .ret a w :=
  bodyPost_ret (results_tmp h _ _ _) hd (by rw [show a.tmps.getD t undef = v from hv]; exact hR)
end
end Go.Proofs.Ytfjnpegpfmaekaa
namespace Go.Proofs.Ytfjnpegpfmaekaa
open Go.ChangeShapes Go.WideShapes Go.ChangeAt Go.RowKit

theorem IsBytes.keep {w w' : World} {a : Option Addr} {l : List UInt8} {cap : Nat} (h : IsBytes w a l cap) (hb : Below w.heap.size w w') : IsBytes w' a l cap := by
  rcases h with h | ⟨x, h1, h2, h3, h4⟩
  · exact .inl h
  · exact .inr ⟨x, h1, h2, h3, fun j hj => below_cell hb (h4 j hj)⟩

section
variable {ops : Array Oper} {rest : List Oper} {o : Oper} {act : Act} {Q : Exit → Act → World → Prop}
end

end Go.Proofs.Ytfjnpegpfmaekaa
namespace Go.Proofs.Ytfjnpegpfmaekaa
open Go.RowKit

def BytesV (w : World) (v : Value) (l : List UInt8) : Prop := ∃ a c, v = .slice a l.length c ∧ IsBytes w a l c
theorem BytesV.keep {w w' : World} {v : Value} {l : List UInt8} (h : BytesV w v l) (hb : Below w.heap.size w w') : BytesV w' v l := by
  obtain ⟨a, c, h1, h2⟩ := h
  exact ⟨a, c, h1, h2.keep hb⟩
def Spec.bytes (l : List UInt8) : Spec := ⟨fun v w => BytesV w v l, fun _ _ _ h hb => h.keep hb⟩

section
variable {Q : Exit → Act → World → Prop} {a : Act} {w : World} {o : Oper} {s : Spec}
theorem loc_eql_int {x y : Operand} {t : TypeId} (ho : o.op = .binOp .eql 3 x y t) {n : Int} (hx : a.eval x = .int .i64 n) (hy : a.eval y = .int .i64 n) (hs : s.p (.bool true) w) :
    o.wp Try.prog a w (fun a' w' => ∃ v, a' = a.put o.dst v ∧ Below w.heap.size w w' ∧ s.p v w') Q :=
  loc_run (v := .bool true) (by
    unfold execOp
    simp [ho, hx, hy, eqGuard, binOp, Op.intCmp]) (Below.refl _ _) hs
end
end Go.Proofs.Ytfjnpegpfmaekaa
namespace Go.Proofs.Ytfjnpegpfmaekaa
open Go.RowKit

/-- .. with what stays known of the value alone. -/
structure SpecQ extends Spec where
  q : Value → Prop
  weak : ∀ v w, p v w → q v
def SpecQ.val (v : Value) : SpecQ := ⟨.val v, fun x => x = v, fun _ _ h => h⟩
def SpecQ.of (s : Spec) : SpecQ := ⟨s, fun _ => True, fun _ _ _ => trivial⟩

def specAt (S : List (Option SpecQ)) : List Spec := S.map fun | some s => s.toSpec | none => .any
def StepsS (P : Program) (Q : Exit → Act → World → Prop) (ops : Array Oper) (S : List (Option SpecQ)) (a0 : Act) (w0 : World) : List Oper → List (Option SpecQ) → Prop
  | o :: os, some s :: ss => StepOK P Q ops (specAt S) a0 w0 o s.toSpec ∧ StepsS P Q ops S a0 w0 os ss
  | _ :: os, none :: ss => StepsS P Q ops S a0 w0 os ss
  | [], [] => True
  | _, _ => False
/-- Whatever is not among the late ones is waited for by the store. -/
def lateB (ops : Array Oper) (st : Nat) (late : List Nat) : Bool :=
  (List.range ops.size).all fun i => decide (i = st) || late.contains i || (match ops[st]? with | some o => waitsFor o i | none => false)
section
variable {P : Program} {Q : Exit → Act → World → Prop} {ops : Array Oper} {S : List (Option SpecQ)} {a0 : Act} {w0 : World}
theorem stepsS_at : ∀ {os : List Oper} {ss : List (Option SpecQ)}, StepsS P Q ops S a0 w0 os ss → ∀ (i : Nat) (o : Oper), os[i]? = some o → ∃ s, ss[i]? = some s ∧ ∀ s', s = some s' → StepOK P Q ops (specAt S) a0 w0 o s'.toSpec
  | o :: os, some s :: ss, h, 0, _, rfl => ⟨some s, rfl, fun s' e => by obtain rfl := Option.some.inj e; exact h.1⟩
  | o :: os, some s :: ss, h, i + 1, o', ho => stepsS_at (os := os) (ss := ss) h.2 i o' ho
  | o :: os, none :: ss, h, 0, _, rfl => ⟨none, rfl, fun s' e => by cases e⟩
  | o :: os, none :: ss, h, i + 1, o', ho => stepsS_at (os := os) (ss := ss) h i o' ho
  | [], _, _, i, _, ho => by simp at ho
theorem specAt_get {j : Nat} {s : SpecQ} (h : S[j]? = some (some s)) : (specAt S)[j]? = some s.toSpec := by unfold specAt; rw [List.getElem?_map, h]; rfl
theorem fr_put {a : Act} {o : Oper} {i : Nat} (ho : ops[i]? = some o) (hf : Fr ops a0 a) (v : Value) : Fr ops a0 (a.put o.dst v) := by
  refine ⟨?_, ?_, fun k hk => ?_⟩
  · have := hf.defers
    cases o.dst <;> simpa [Act.put] using this
  · have := hf.size
    cases o.dst <;> simpa [Act.put] using this
  · rw [eval_put_other, hf.base k hk]
    intro hk2
    have : isDst ops k = true := by
      unfold isDst
      exact List.any_eq_true.2 ⟨o, Array.mem_toList_iff.2 (Array.mem_of_getElem? ho), by rw [hk2]; simp⟩
    rw [hk] at this; cases this
theorem holds_put {a : Act} {o : Oper} {i j : Nat} {w : World} {T : List Spec} (hd : dstsOk ops a0.tmps.size = true) (ho : ops[i]? = some o) (hji : j ≠ i) {v : Value} (h : Holds ops T a w j) : Holds ops T (a.put o.dst v) w j := by
  unfold Holds at *
  cases hoj : ops[j]? with
  | none => simp
  | some o' =>
    cases hsj : T[j]? with
    | none => simp
    | some s' =>
      simp only [hoj, hsj] at h ⊢
      cases hdo : o'.dst with
      | none => trivial
      | some d =>
        simp only [hdo] at h ⊢
        show s'.p ((a.put o.dst v).eval (.tmp d)) w
        rw [eval_put_other]
        · exact h
        · intro e
          exact (dsts_lt hd ho e).2 j o' hoj hji hdo
end

section
variable {P : Program} {Q : Exit → Act → World → Prop} {ops : Array Oper} {a : Act} {w : World} {o : Oper} {s : SpecQ}
end
end Go.Proofs.Ytfjnpegpfmaekaa
namespace Go.Proofs.Ytfjnpegpfmaekaa

/-- A fact that no tactic looks into (Hid is a definition, which some unfold). -/
structure Box (p : Prop) : Prop where
  out : p
/-- A word as an integer: of its bounds nothing is to be seen. -/
def vU (x : UInt32) : Int := (x.toNat : Int)
def vW (x : UInt32) : Value := .int .u32 (vU x)
structure St where
  (a b c d e f g h : UInt32)
def St.cells (s : St) : Array Value := #[vW s.a, vW s.b, vW s.c, vW s.d, vW s.e, vW s.f, vW s.g, vW s.h]
def St.add (s t : St) : St := ⟨s.a + t.a, s.b + t.b, s.c + t.c, s.d + t.d, s.e + t.e, s.f + t.f, s.g + t.g, s.h + t.h⟩

/-- Four bytes as a word, the first one the greatest. -/
def w4 (l : List UInt8) : UInt32 := l.foldl (fun x c => (x <<< 8) ||| c.toUInt32) 0
end Go.Proofs.Ytfjnpegpfmaekaa
namespace Go.Proofs.Ytfjnpegpfmaekaa
open Go.RowKit

theorem below_oneF (w : World) (o : Obj) : Below w.heap.size w (w.alloc o) := (Below.refl _ _).alloc (Nat.le_refl _) _
end Go.Proofs.Ytfjnpegpfmaekaa
namespace Go.Proofs.Ytfjnpegpfmaekaa
open Go.RowKit

theorem below_twoF {w w1 : World} (h : Below w.heap.size w w1) (o : Obj) : Below w.heap.size w (w1.alloc o) := below_trans h (below_oneF w1 o)

section
variable {ops : Array Oper} {rest : List Oper} {o : Oper} {act : Act} {Q : Exit → Act → World → Prop}
end
end Go.Proofs.Ytfjnpegpfmaekaa
namespace Go.Proofs.Ytfjnpegpfmaekaa
open Go.RowKit

def LastOK (P : Program) (Q : Exit → Act → World → Prop) (ops : Array Oper) (S : List (Option SpecQ)) (a0 : Act) (w0 : World) (st : Nat) : Prop :=
  match ops[st]? with
  | some o => ∀ a w, Below w0.heap.size w0 w → Fr ops a0 a → (∀ j, j < ops.size → j ≠ st → Holds ops (specAt S) a w j) → Region.wanted o (yielded ops a.tmps) = true ∧ o.wp P a w (fun a' w' => Q .normal a' w') Q
  | none => False

section
variable {P : Program} {Q : Exit → Act → World → Prop} {ops : Array Oper} {S : List (Option SpecQ)} {a0 : Act} {w0 : World}
theorem wp_region_last {id : Nat} (S : List (Option SpecQ)) (st : Nat) (hm : P.follows .mixedOrders = true)
    (hB : (List.range ops.size).all (fun i => match ops[i]? with | some x => x.after.all (fun e => !Region.binds .any e || decide (e.on < i)) | none => true) = true)
    (hd : dstsOk ops a0.tmps.size = true) (hl : lateB ops st [] = true) (hst : S[st]? = some none) (hlen : S.length = ops.size) (hone : (List.range S.length).all (fun i => decide (i = st) || (match S[i]? with | some (some _) => true | _ => false)) = true)
    (h : StepsS P Q ops S a0 w0 ops.toList S) (hS : LastOK P Q ops S a0 w0 st) : (Code.region id ops true).wp P Q a0 w0 := by
  have hstlt : st < ops.size := by rw [← hlen]; exact (List.getElem?_eq_some_iff.1 hst).1
  have hosto : ops[st]? = some ops[st] := Array.getElem?_eq_getElem hstlt
  unfold LastOK at hS
  rw [hosto] at hS
  simp only at hS
  have hwait : ∀ i, i < ops.size → i ≠ st → waitsFor ops[st] i = true := fun i hi hne => by
    have := List.all_eq_true.1 hl i (List.mem_range.2 hi)
    rw [hosto] at this
    simp only [Bool.or_eq_true, decide_eq_true_eq, List.contains_nil, Bool.false_eq_true, or_false] at this
    rcases this with h3 | h3
    · exact absurd h3 hne
    · exact h3
  refine wp_region_inv hm (fun m a w => (m.getD st false = false ∧ Fr ops a0 a ∧ Below w0.heap.size w0 w ∧ ∀ j, m.getD j false = true → Holds ops (specAt S) a w j) ∨
    (m.getD st false = true ∧ Q .normal a w ∧ ∀ j, waitsFor ops[st] j = true → m.getD j false = true)) ?_ ?_ ?_
  · rintro m a w hs hh i hi
    obtain ⟨h1, o, ho, hall⟩ := mem_ready.1 hi
    have hil : i < ops.size := (Array.getElem?_eq_some_iff.1 ho).1
    have hmi : m.getD i false = false := by
      have hs' : i < m.size := by rw [hs]; exact hil
      simp [hs'] at h1 ⊢; exact h1
    have hdeps : ∀ j, waitsFor o j = true → m.getD j false = true := fun j hj => by
      obtain ⟨e, he, h2⟩ := List.any_eq_true.1 hj
      simp only [Bool.and_eq_true, beq_iff_eq] at h2
      obtain ⟨h3, rfl⟩ := h2
      exact hall e (Array.mem_toList_iff.1 he) h3
    unfold wpOp
    simp only [ho]
    by_cases hist : i = st
    · subst hist
      have hoe : o = ops[i] := Option.some.inj (ho.symm.trans hosto)
      subst hoe
      rcases hh with ⟨_, hf, hb, hh⟩ | ⟨h2, _⟩
      · obtain ⟨hw, hwp⟩ := hS a w hb hf fun j hj hne => hh j (hdeps j (hwait j hj hne))
        rw [if_pos hw]
        refine .inl (Oper.wp_mono ?_ hwp)
        intro a' w' hq
        have hsz : i < m.size := by rw [hs]; exact hil
        exact .inr ⟨by simp [hsz], hq, fun j hj => getD_set_true (hdeps j hj)⟩
      · rw [hmi] at h2; cases h2
    · have hsi : ∃ s, S[i]? = some (some s) := by
        have := List.all_eq_true.1 hone i (List.mem_range.2 (by rw [hlen]; exact hil))
        cases hq : S[i]? with
        | none => rw [hq] at this; simp [hist] at this
        | some x =>
          cases x with
          | none => rw [hq] at this; simp [hist] at this
          | some s => exact ⟨s, rfl⟩
      obtain ⟨s, hsi⟩ := hsi
      rcases hh with ⟨h2, hf, hb, hh⟩ | ⟨h2, hp, hall2⟩
      · obtain ⟨s', hs', hstep⟩ := stepsS_at h i o (by simpa using ho)
        obtain rfl : s' = some s := Option.some.inj (hs'.symm.trans hsi)
        obtain ⟨hw, hwp⟩ := hstep s rfl a w hb hf fun j hj => hh j (hdeps j hj)
        rw [if_pos hw]
        refine .inl (Oper.wp_mono ?_ hwp)
        rintro a' w' ⟨v, rfl, hb', hsp⟩
        refine .inl ⟨by rw [getD_set_ne false hist]; exact h2, fr_put ho hf v, hb.trans (hb'.mono hb.size), fun j hj => ?_⟩
        by_cases hji : j = i
        · subst hji
          unfold Holds
          simp only [ho, specAt_get hsi]
          cases hdo : o.dst with
          | none => trivial
          | some d =>
            show s.p ((a.put (some d) v).eval (.tmp d)) w'
            rw [eval_put_same]
            · exact hsp
            · rw [hf.size]; exact (dsts_lt hd ho hdo).1
        · have hj' : m.getD j false = true := by rw [getD_set_ne false (fun e => hji e.symm)] at hj; exact hj
          exact holds_put hd ho hji (holds_mono (hh j hj') hb')
      · have := hall2 i (hwait i hil hist)
        rw [hmi] at this; cases this
  · rintro m a w hs hh hr
    have hmarked : ∀ j, j < ops.size → m.getD j false = true := fun j => by
      induction j using Nat.strongRecOn with
      | _ j ih =>
        intro hj
        cases hmj : m.getD j false with
        | true => rfl
        | false =>
          exfalso
          have hoj : ops[j]? = some ops[j] := Array.getElem?_eq_getElem hj
          have hbk := List.all_eq_true.1 hB j (List.mem_range.2 hj)
          rw [hoj] at hbk
          simp only [Array.all_eq_true_iff_forall_mem, Bool.or_eq_true, Bool.not_eq_true', decide_eq_true_eq] at hbk
          have hlt : ∀ e ∈ ops[j].after, Region.binds .any e = true → e.on < j := fun e he hbd => by
            rcases hbk e he with h | h
            · rw [hbd] at h; cases h
            · exact h
          have : j ∈ Region.ready .any ops m := mem_ready.2 ⟨by
            have hs' : j < m.size := by rw [hs]; exact hj
            simp [hs'] at hmj ⊢; exact hmj, ops[j], hoj, fun e he hbd => ih _ (hlt e he hbd) (by have := hlt e he hbd; omega)⟩
          rw [hr] at this; cases this
    rcases hh with ⟨h2, _⟩ | ⟨_, hp, _⟩
    · rw [hmarked st hstlt] at h2; cases h2
    · exact hp
  · refine .inl ⟨?_, ⟨rfl, rfl, fun _ _ => rfl⟩, (Below.refl _ _).drew, fun j hj => ?_⟩
    · simp only [Array.getD_eq_getD_getElem?, Array.getElem?_replicate]; split <;> rfl
    · exfalso
      simp only [Array.getD_eq_getD_getElem?, Array.getElem?_replicate] at hj
      split at hj <;> simp at hj
end
end Go.Proofs.Ytfjnpegpfmaekaa
namespace Go.Proofs.Ytfjnpegpfmaekaa
open Go.RowKit

theorem results_row_tmpF {P : Program} {fn : Func} {q p : Tmp} {ty : TypeId} (h : fn.results = #[.cell p ty, .tmp q]) (tmps : Array Value) (w : World) (g : Nat) (t : TypeId) (cs : Array Value) (fr : Nat × Nat) (d : TypeDesc)
    (hp : tmps.getD p undef = .pointer (some ⟨g, 0, none⟩)) (hg : w.heap[g]? = some (.cells cs t fr))
    (hu : P.underlying ty = some d) (hd : (match d with | .struct _ | .array _ _ => true | _ => false) = true) (hi : (P.info? ty).map (·.size) = some cs.size) :
    (results fn tmps).run P w = .ok (.tuple #[.agg cs, tmps.getD q undef]) w := by
  have hp' : tmps[p]?.getD undef = .pointer (some ⟨g, 0, none⟩) := by simpa using hp
  simp [results, h, hp', asAddr, run_loadVar_row w g t ty cs fr d hg hu hd hi]
end Go.Proofs.Ytfjnpegpfmaekaa
namespace Go.Proofs.Ytfjnpegpfmaekaa
open Go.RowKit

/-- c waits for i, by others too. -/
def beforeB (ops : Array Oper) : Nat → Nat → Nat → Bool
  | 0, _, _ => false
  | f + 1, c, i => match ops[c]? with
    | some o => waitsFor o i || (List.range c).any fun k => waitsFor o k && beforeB ops f k i
    | none => false
def StepP (P : Program) (Q : Exit → Act → World → Prop) (ops : Array Oper) (S : List Spec) (Inv : World → Prop) (a0 : Act) (o : Oper) (s : Spec) : Prop :=
  ∀ a w, Inv w → Fr ops a0 a → (∀ j, waitsFor o j = true → Holds ops S a w j) →
    Region.wanted o (yielded ops a.tmps) = true ∧ o.wp P a w (fun a' w' => ∃ v, a' = a.put o.dst v ∧ Below w.heap.size w w' ∧ s.p v w') Q
def SidesOK (P : Program) (Q : Exit → Act → World → Prop) (ops : Array Oper) (S : List Spec) (Inv : World → Prop) (a0 : Act) : List Nat → Prop
  | i :: r => (match ops[i]?, S[i]? with | some o, some s => StepP P Q ops S Inv a0 o s | _, _ => False) ∧ SidesOK P Q ops S Inv a0 r
  | [] => True
/-- What is known in one phase stays known in the next. -/
def Over (ops : Array Oper) (a : Act) (w w' : World) (c : Nat) : Nat → List Spec → List Spec → Prop
  | k, s :: ss, t :: ts => (k = c ∨ ∀ v, (∀ o d, ops[k]? = some o → o.dst = some d → v = a.eval (.tmp d)) → s.p v w → t.p v w') ∧ Over ops a w w' c (k + 1) ss ts
  | _, [], [] => True
  | _, _, _ => False
def ChainOK (P : Program) (Q : Exit → Act → World → Prop) (ops : Array Oper) (S S' : List Spec) (Inv Inv' : World → Prop) (a0 : Act) (c : Nat) : Prop :=
  match ops[c]?, S'[c]? with
  | some o, some s => ∀ a w, Inv w → Fr ops a0 a → (∀ j, waitsFor o j = true → Holds ops S a w j) →
      Region.wanted o (yielded ops a.tmps) = true ∧ o.wp P a w (fun a' w' => ∃ v, a' = a.put o.dst v ∧ Inv' w' ∧ s.p v w' ∧ Over ops a w w' c 0 S S') Q
  | _, _ => False
/-- The operations outside the chain that may come up in phase p are those listed. -/
def sidesB (ops : Array Oper) (chain : List Nat) (M : Nat) (sides : List Nat) (p : Nat) : Bool :=
  (List.range ops.size).all fun i => chain.contains i || sides.contains i || (List.range M).any fun q => match chain[q]? with
    | some c => if q < p then beforeB ops ops.size c i else beforeB ops ops.size i c
    | none => false
def chainB (ops : Array Oper) (chain : List Nat) : Bool :=
  (List.range chain.length).all fun p => (List.range chain.length).all fun q => decide (q ≤ p) || (match chain[p]?, chain[q]? with | some c, some d => beforeB ops ops.size d c && decide (c ≠ d) && decide (d < ops.size) && decide (c < ops.size) | _, _ => false)

section
variable {P : Program} {Q : Exit → Act → World → Prop} {ops : Array Oper} {a0 : Act} {w0 : World}
theorem sidesOK_at {S : List Spec} {Inv : World → Prop} : ∀ {l : List Nat}, SidesOK P Q ops S Inv a0 l → ∀ i, i ∈ l → ∀ o, ops[i]? = some o → ∃ s, S[i]? = some s ∧ StepP P Q ops S Inv a0 o s
  | k :: r, h, i, hi, o, ho => by
    rcases List.mem_cons.1 hi with rfl | hi
    · have := h.1
      rw [ho] at this
      cases hs : S[i]? with
      | none => rw [hs] at this; exact this.elim
      | some s => rw [hs] at this; exact ⟨s, rfl, this⟩
    · exact sidesOK_at h.2 i hi o ho
theorem over_at {a : Act} {w w' : World} {c : Nat} : ∀ {ss ts : List Spec} {k : Nat}, Over ops a w w' c k ss ts → ∀ j t, ts[j]? = some t → k + j ≠ c → ∃ s, ss[j]? = some s ∧ ∀ v, (∀ o d, ops[k + j]? = some o → o.dst = some d → v = a.eval (.tmp d)) → s.p v w → t.p v w'
  | s :: ss, t :: ts, k, h, 0, t', ht, hne => by
    simp at ht; subst ht
    rcases h.1 with h1 | h1
    · exact absurd h1 (by simpa using hne)
    · exact ⟨s, rfl, h1⟩
  | s :: ss, t :: ts, k, h, j + 1, t', ht, hne => by
    have e : k + 1 + j = k + (j + 1) := by omega
    have := over_at (k := k + 1) h.2 j t' (by simpa using ht) (by omega)
    rw [e] at this; exact this
  | [], [], _, _, j, t', ht, _ => by simp at ht
  | s :: ss, [], _, h, j, t', ht, _ => by simp at ht
  | [], t :: ts, _, h, j, t', ht, _ => h.elim
theorem before_marked {m : Array Bool} (hcl : ∀ j o, ops[j]? = some o → m.getD j false = true → ∀ i, waitsFor o i = true → m.getD i false = true) :
    ∀ (f c i : Nat), beforeB ops f c i = true → m.getD c false = true → m.getD i false = true
  | 0, _, _, h, _ => by simp [beforeB] at h
  | f + 1, c, i, h, hc => by
    unfold beforeB at h
    cases ho : ops[c]? with
    | none => rw [ho] at h; cases h
    | some o =>
      rw [ho] at h
      simp only [Bool.or_eq_true, List.any_eq_true, Bool.and_eq_true] at h
      rcases h with h | ⟨k, _, h1, h2⟩
      · exact hcl c o ho hc i h
      · exact before_marked hcl f k i h2 (hcl c o ho hc k h1)
/-- What is ready waits for marked ones alone. -/
theorem before_ready {m : Array Bool} (hcl : ∀ j o, ops[j]? = some o → m.getD j false = true → ∀ i, waitsFor o i = true → m.getD i false = true) {c i : Nat} {o : Oper} (ho : ops[c]? = some o)
    (hd : ∀ j, waitsFor o j = true → m.getD j false = true) {f : Nat} (h : beforeB ops f c i = true) : m.getD i false = true := by
  cases f with
  | zero => simp [beforeB] at h
  | succ f =>
    unfold beforeB at h
    rw [ho] at h
    simp only [Bool.or_eq_true, List.any_eq_true, Bool.and_eq_true] at h
    rcases h with h | ⟨k, _, h1, h2⟩
    · exact hd i h
    · exact before_marked hcl f k i h2 (hd k h1)

theorem wp_region_phases {id : Nat} (chain : List Nat) (sides : Nat → List Nat) (S : Nat → List Spec) (Inv : Nat → World → Prop) (hm : P.follows .mixedOrders = true)
    (hB : (List.range ops.size).all (fun i => match ops[i]? with | some x => x.after.all (fun e => !Region.binds .any e || decide (e.on < i)) | none => true) = true)
    (hd : dstsOk ops a0.tmps.size = true) (hc : chainB ops chain = true) (hlt : chain.all (fun c => decide (c < ops.size)) = true) (hsB : (List.range (chain.length + 1)).all (fun p => sidesB ops chain chain.length (sides p) p) = true)
    (hI : ∀ p w w', Inv p w → Below w.heap.size w w' → Inv p w') (h0 : Inv 0 w0) (hS : ∀ p, p ≤ chain.length → SidesOK P Q ops (S p) (Inv p) a0 (sides p))
    (hC : ∀ p (hp : p < chain.length), ChainOK P Q ops (S p) (S (p + 1)) (Inv p) (Inv (p + 1)) a0 chain[p])
    (hQ : ∀ a w, Inv chain.length w → Fr ops a0 a → (∀ j, j < ops.size → Holds ops (S chain.length) a w j) → Q .normal a w) : (Code.region id ops true).wp P Q a0 w0 := by
  have hchain : ∀ p q (hp : p < chain.length) (hq : q < chain.length), p < q → beforeB ops ops.size chain[q] chain[p] = true ∧ chain[p] ≠ chain[q] := fun p q hp hq hpq => by
    have h1 := List.all_eq_true.1 (List.all_eq_true.1 hc p (List.mem_range.2 hp)) q (List.mem_range.2 hq)
    simp only [List.getElem?_eq_getElem hp, List.getElem?_eq_getElem hq, Bool.or_eq_true, Bool.and_eq_true, decide_eq_true_eq] at h1
    rcases h1 with h1 | h1
    · omega
    · exact ⟨h1.1.1.1, h1.1.1.2⟩
  refine wp_region_inv hm (fun m a w => Fr ops a0 a ∧ (∀ j o, ops[j]? = some o → m.getD j false = true → ∀ i, waitsFor o i = true → m.getD i false = true) ∧
    ∃ p, p ≤ chain.length ∧ (∀ q (hq : q < chain.length), m.getD chain[q] false = decide (q < p)) ∧ Inv p w ∧ ∀ j, m.getD j false = true → Holds ops (S p) a w j) ?_ ?_ ?_
  · rintro m a w hs ⟨hf, hcl, p, hp, hph, hinv, hh⟩ i hi
    obtain ⟨h1, o, ho, hall⟩ := mem_ready.1 hi
    have hil : i < ops.size := (Array.getElem?_eq_some_iff.1 ho).1
    have him : i < m.size := by rw [hs]; exact hil
    have hmi : m.getD i false = false := by simp [him] at h1 ⊢; exact h1
    have hdeps : ∀ j, waitsFor o j = true → m.getD j false = true := fun j hj => by
      obtain ⟨e, he, h2⟩ := List.any_eq_true.1 hj
      simp only [Bool.and_eq_true, beq_iff_eq] at h2
      obtain ⟨h3, rfl⟩ := h2
      exact hall e (Array.mem_toList_iff.1 he) h3
    have hcl' : ∀ j o, ops[j]? = some o → (m.setIfInBounds i true).getD j false = true → ∀ k, waitsFor o k = true → (m.setIfInBounds i true).getD k false = true := fun j oj hoj hj k hk => by
      by_cases hji : j = i
      · subst hji
        obtain rfl : o = oj := Option.some.inj (ho.symm.trans hoj)
        exact getD_set_true (hdeps k hk)
      · rw [getD_set_ne false (fun e => hji e.symm)] at hj
        exact getD_set_true (hcl j oj hoj hj k hk)
    unfold wpOp
    simp only [ho]
    by_cases hic : i ∈ chain
    · obtain ⟨q, hq, rfl⟩ := List.getElem_of_mem hic
      have hqp : p ≤ q := by
        have := hph q hq
        rw [hmi] at this
        have := of_decide_eq_false this.symm
        omega
      have hqe : q = p := by
        rcases Nat.lt_or_ge p q with h2 | h2
        · exfalso
          have h3 := before_ready hcl ho hdeps (hchain p q (by omega) hq h2).1
          rw [hph p (by omega)] at h3
          simp at h3
        · omega
      subst hqe
      have hCp := hC q hq
      unfold ChainOK at hCp
      rw [ho] at hCp
      cases hsc : (S (q + 1))[chain[q]]? with
      | none => rw [hsc] at hCp; exact hCp.elim
      | some s =>
        rw [hsc] at hCp
        simp only at hCp
        obtain ⟨hw, hwp⟩ := hCp a w hinv hf fun j hj => hh j (hdeps j hj)
        rw [if_pos hw]
        refine .inl (Oper.wp_mono ?_ hwp)
        rintro a' w' ⟨v, rfl, hinv', hsp, hov⟩
        refine ⟨fr_put ho hf v, hcl', q + 1, hq, fun r hr => ?_, hinv', fun j hj => ?_⟩
        · by_cases hrq : r = q
          · subst hrq
            simp [him]
          · have hne : chain[q] ≠ chain[r] := by
              rcases Nat.lt_or_ge q r with h2 | h2
              · exact (hchain q r hq hr h2).2
              · exact fun e => (hchain r q hr hq (by omega)).2 e.symm
            rw [getD_set_ne false hne, hph r hr]
            by_cases hrl : r < q
            · simp [hrl, show r < q + 1 by omega]
            · simp [hrl, show ¬ r < q + 1 by omega]
        · by_cases hji : j = chain[q]
          · subst hji
            unfold Holds
            simp only [ho, hsc]
            cases hdo : o.dst with
            | none => trivial
            | some d =>
              show s.p ((a.put (some d) v).eval (.tmp d)) w'
              rw [eval_put_same]
              · exact hsp
              · rw [hf.size]; exact (dsts_lt hd ho hdo).1
          · have hj' : m.getD j false = true := by rw [getD_set_ne false (fun e => hji e.symm)] at hj; exact hj
            have h5 := holds_put (a := a) (v := v) hd ho hji (hh j hj')
            unfold Holds at *
            cases hoj : ops[j]? with
            | none => simp
            | some o' =>
              cases hsj : (S (q + 1))[j]? with
              | none => simp
              | some s' =>
                obtain ⟨s0, hs0, himp⟩ := over_at hov j s' hsj (by omega)
                simp only [hoj, hs0] at h5
                simp only
                cases hdo : o'.dst with
                | none => trivial
                | some d =>
                  simp only [hdo] at h5
                  refine himp _ (fun o2 d2 ho2 hd2 => ?_) h5
                  rw [Nat.zero_add, hoj] at ho2
                  obtain rfl := Option.some.inj ho2
                  rw [hdo] at hd2
                  obtain rfl := Option.some.inj hd2
                  exact eval_put_other fun e => (dsts_lt hd ho e).2 j o' hoj hji hdo
    · have hside : i ∈ sides p := by
        have := List.all_eq_true.1 (List.all_eq_true.1 hsB p (List.mem_range.2 (by omega))) i (List.mem_range.2 hil)
        simp only [Bool.or_eq_true, List.contains_iff_mem, List.any_eq_true] at this
        rcases this with (h2 | h2) | ⟨q, hq, h2⟩
        · exact absurd h2 hic
        · exact h2
        · exfalso
          have hql := List.mem_range.1 hq
          rw [List.getElem?_eq_getElem hql] at h2
          simp only at h2
          by_cases hqp : q < p
          · rw [if_pos hqp] at h2
            have h3 := before_marked hcl _ _ _ h2 (by rw [hph q hql]; simp [hqp])
            rw [hmi] at h3; cases h3
          · rw [if_neg hqp] at h2
            have h3 := before_ready hcl ho hdeps h2
            rw [hph q hql] at h3
            simp [hqp] at h3
      obtain ⟨s, hsi, hstep⟩ := sidesOK_at (hS p hp) i hside o ho
      obtain ⟨hw, hwp⟩ := hstep a w hinv hf fun j hj => hh j (hdeps j hj)
      rw [if_pos hw]
      refine .inl (Oper.wp_mono ?_ hwp)
      rintro a' w' ⟨v, rfl, hb', hsp⟩
      refine ⟨fr_put ho hf v, hcl', p, hp, fun r hr => ?_, hI p w w' hinv hb', fun j hj => ?_⟩
      · rw [getD_set_ne false (fun e => hic (by rw [e]; exact List.getElem_mem hr)), hph r hr]
      · by_cases hji : j = i
        · subst hji
          unfold Holds
          simp only [ho, hsi]
          cases hdo : o.dst with
          | none => trivial
          | some d =>
            show s.p ((a.put (some d) v).eval (.tmp d)) w'
            rw [eval_put_same]
            · exact hsp
            · rw [hf.size]; exact (dsts_lt hd ho hdo).1
        · have hj' : m.getD j false = true := by rw [getD_set_ne false (fun e => hji e.symm)] at hj; exact hj
          exact holds_put hd ho hji (holds_mono (hh j hj') hb')
  · rintro m a w hs ⟨hf, hcl, p, hp, hph, hinv, hh⟩ hr
    have hmarked : ∀ j, j < ops.size → m.getD j false = true := fun j => by
      induction j using Nat.strongRecOn with
      | _ j ih =>
        intro hj
        cases hmj : m.getD j false with
        | true => rfl
        | false =>
          exfalso
          have hoj : ops[j]? = some ops[j] := Array.getElem?_eq_getElem hj
          have hbk := List.all_eq_true.1 hB j (List.mem_range.2 hj)
          rw [hoj] at hbk
          simp only [Array.all_eq_true_iff_forall_mem, Bool.or_eq_true, Bool.not_eq_true', decide_eq_true_eq] at hbk
          have hlt : ∀ e ∈ ops[j].after, Region.binds .any e = true → e.on < j := fun e he hbd => by
            rcases hbk e he with h | h
            · rw [hbd] at h; cases h
            · exact h
          have : j ∈ Region.ready .any ops m := mem_ready.2 ⟨by
            have hs' : j < m.size := by rw [hs]; exact hj
            simp [hs'] at hmj ⊢; exact hmj, ops[j], hoj, fun e he hbd => ih _ (hlt e he hbd) (by have := hlt e he hbd; omega)⟩
          rw [hr] at this; cases this
    have hpe : p = chain.length := by
      rcases Nat.lt_or_ge p chain.length with h2 | h2
      · exfalso
        have h3 := hph p h2
        have h4 := hmarked chain[p] (of_decide_eq_true (List.all_eq_true.1 hlt _ (List.getElem_mem h2)))
        rw [h4] at h3
        simp at h3
      · omega
    subst hpe
    exact hQ a w hinv hf fun j hj => hh j (hmarked j hj)
  · have hz : ∀ j, (Array.replicate ops.size false).getD j false = false := fun j => by
      simp only [Array.getD_eq_getD_getElem?, Array.getElem?_replicate]; split <;> rfl
    refine ⟨⟨rfl, rfl, fun _ _ => rfl⟩, fun j o _ hj => (by rw [hz] at hj; cases hj), 0, Nat.zero_le _, fun q _ => by rw [hz]; rfl, hI 0 w0 _ h0 (Below.refl _ _).drew, fun j hj => (by rw [hz] at hj; cases hj)⟩

/-- The frame behind a region, out of the frame before it. -/
def putAll (a : Act) : List Oper → Act → Act
  | o :: os, b => putAll a os (match o.dst with | some d => b.put (some d) (a.eval (.tmp d)) | none => b)
  | [], b => b
theorem putAll_size (a : Act) : ∀ (l : List Oper) (b : Act), (putAll a l b).tmps.size = b.tmps.size
  | [], _ => rfl
  | o :: os, b => by
    unfold putAll
    rw [putAll_size a os]
    cases o.dst <;> simp [Act.put]
theorem putAll_defers (a : Act) : ∀ (l : List Oper) (b : Act), (putAll a l b).defers = b.defers
  | [], _ => rfl
  | o :: os, b => by
    unfold putAll
    rw [putAll_defers a os]
    cases o.dst <;> simp [Act.put]
theorem putAll_eval (a : Act) (k : Nat) : ∀ (l : List Oper) (b : Act), b.tmps.size = a.tmps.size → (b.eval (.tmp k) = a.eval (.tmp k) ∨ (l.any fun o => o.dst == some k) = true) → (putAll a l b).eval (.tmp k) = a.eval (.tmp k)
  | [], b, _, h => by
    rcases h with h | h
    · exact h
    · cases h
  | o :: os, b, hs, h => by
    unfold putAll
    refine putAll_eval a k os _ (by cases o.dst <;> simpa [Act.put] using hs) ?_
    cases hd : o.dst with
    | none =>
      rcases h with h | h
      · exact .inl h
      · simp [hd] at h; exact .inr (by simpa using h)
    | some d =>
      by_cases hdk : d = k
      · subst hdk
        by_cases hlt : d < b.tmps.size
        · exact .inl (eval_put_same hlt)
        · left
          have h1 : ¬ d < a.tmps.size := by rw [← hs]; exact hlt
          simp [Act.put, Act.eval, hlt, h1]
      · have e : (b.put (some d) (a.eval (.tmp d))).eval (.tmp k) = b.eval (.tmp k) := eval_put_other fun e => hdk (Option.some.inj e)
        rcases h with h | h
        · exact .inl (e.trans h)
        · simp [hd, hdk] at h; exact .inr (by simpa using h)
theorem fr_putAll {a : Act} (h : Fr ops a0 a) : a = putAll a ops.toList a0 := by
  have h1 := putAll_size a ops.toList a0
  have h2 := putAll_defers a ops.toList a0
  have h3 : ∀ k, (putAll a ops.toList a0).eval (.tmp k) = a.eval (.tmp k) := fun k => putAll_eval a k _ _ h.size.symm (by
    cases hk : isDst ops k with
    | true => exact .inr hk
    | false => exact .inl (h.base k hk).symm)
  generalize putAll a ops.toList a0 = p at *
  rw [act_eq (a := a) (a0 := a0) h.size h.defers, act_eq (a := p) (a0 := a0) h1 h2]
  congr 2
  exact List.map_congr_left fun k _ => (h3 k).symm
end
end Go.Proofs.Ytfjnpegpfmaekaa
namespace Go.Proofs.Ytfjnpegpfmaekaa
open Go.RowKit

def IntsF (w : World) (a : Option Addr) (n : Nat) : Prop :=
  ∀ j, j < n → ∃ x z, a = some x ∧ w.cell? (x.add j) = some (.int .i64 z) ∧ -9223372036854775808 ≤ z ∧ z ≤ 9223372036854775807
theorem IntsF.keep {w w' : World} {a : Option Addr} {n : Nat} (h : IntsF w a n) (hb : Below w.heap.size w w') : IntsF w' a n := fun j hj => by
  obtain ⟨x, z, e, h1, h2⟩ := h j hj
  exact ⟨x, z, e, below_cell hb h1, h2⟩
/-- Block g is the source's variable: its numbers are the n at a, which lie elsewhere. -/
def Src (w : World) (g : Nat) (a : Option Addr) (n c : Nat) : Prop :=
  (∃ i : Nat, i ≤ n ∧ w.heap[g]? = some (.cells #[.slice a n c, .int .i64 i] 51 (0, 0))) ∧ n ≤ maxLen ∧ IntsF w a n ∧ ∀ x, a = some x → 0 < n → x.block ≠ g
theorem Src.lt {w : World} {g : Nat} {a : Option Addr} {n c : Nat} (h : Src w g a n c) : g < w.heap.size := by
  obtain ⟨⟨i, _, h⟩, _⟩ := h
  exact (Array.getElem?_eq_some_iff.1 h).1
theorem add_blockF (x : Addr) (j : Nat) : (x.add j).block = x.block := by unfold Addr.add; split <;> rfl
theorem IntsF.grown {w w' : World} {a : Option Addr} {n : Nat} {row : Option Nat} (h : IntsF w a n) (hg : w.grownBy w' row) (hne : ∀ x, a = some x → 0 < n → some x.block ≠ row) : IntsF w' a n := fun j hj => by
  obtain ⟨x, z, e, h1, h2⟩ := h j hj
  refine ⟨x, z, e, ?_, h2⟩
  have hlt := lt_cell h1
  rw [World.cell?_of_block (hg.block _ hlt (by rw [add_blockF]; exact hne x e (by omega)))]
  exact h1
theorem Src.grown {w w' : World} {g : Nat} {a : Option Addr} {n c : Nat} {row : Option Nat} (h : Src w g a n c) (hg : w.grownBy w' row) (hne : some g ≠ row) (hne2 : ∀ x, a = some x → 0 < n → some x.block ≠ row) : Src w' g a n c := by
  have hlt := h.lt
  obtain ⟨⟨i, hi, hr⟩, h2, h3, h4⟩ := h
  exact ⟨⟨i, hi, by rw [hg.block g hlt hne]; exact hr⟩, h2, h3.grown hg hne2, h4⟩
theorem Src.keep {w w' : World} {g : Nat} {a : Option Addr} {n c : Nat} (h : Src w g a n c) (hb : Below w.heap.size w w') : Src w' g a n c := by
  have hlt := h.lt
  obtain ⟨⟨i, hi, hr⟩, h2, h3, h4⟩ := h
  exact ⟨⟨i, hi, by rw [hb.block g hlt]; exact hr⟩, h2, h3.keep hb, h4⟩
theorem grownBy_trans {w w1 w2 : World} {row : Option Nat} (h : w.grownBy w1 row) (k : w1.grownBy w2 row) : w.grownBy w2 row :=
  ⟨k.os.trans h.os, k.tape.trans h.tape, k.output.trans h.output, Nat.le_trans h.size k.size, fun i hi hne => (k.block i (Nat.lt_of_lt_of_le hi h.size) hne).trans (h.block i hi hne)⟩
theorem grownBy_below {w w1 : World} {row : Option Nat} (h : Below w.heap.size w w1) : w.grownBy w1 row :=
  ⟨h.os, h.tape, h.output, h.size, fun i hi _ => h.block i hi⟩
/-- A row that is new is nobody's. -/
theorem grownBy_new {w w1 w2 : World} {row : Option Nat} {q : Option Nat} (h : w.grownBy w1 row) (k : w1.grownBy w2 q) (hq : ∀ i, q = some i → w.heap.size ≤ i) : w.grownBy w2 row :=
  ⟨k.os.trans h.os, k.tape.trans h.tape, k.output.trans h.output, Nat.le_trans h.size k.size, fun i hi hne => (k.block i (Nat.lt_of_lt_of_le hi h.size) (fun e => by have := hq i e.symm; omega)).trans (h.block i hi hne)⟩

def withI (z : Int) (n : Nat) : Int := (wrap64 (z.tmod n + n)).tmod n
theorem withI_range (z : Int) (n : Nat) (h0 : 0 < n) (hn : n ≤ 1000000000) : ∃ k : Nat, k < n ∧ withI z n = (k : Int) := by
  have h1 : z.tmod n < n := Int.tmod_lt_of_pos z (by omega)
  have h2 : -(n : Int) < z.tmod n := Int.lt_tmod_of_pos z (by omega)
  unfold withI
  generalize z.tmod n = y at *
  have e : wrap64 (y + n) = y + n := by simp only [wrap64]; omega
  rw [e, Int.tmod_eq_emod_of_nonneg (by omega)]
  exact ⟨((y + n) % n).toNat, by have := Int.emod_lt_of_pos (y + n) (show (0 : Int) < n by omega); have := Int.emod_nonneg (y + n) (show (n : Int) ≠ 0 by omega); omega, by have := Int.emod_nonneg (y + n) (show (n : Int) ≠ 0 by omega); omega⟩
theorem withinF (z : Int) (n : Nat) (w : World) (h0 : 0 < n) (hn : n ≤ 1000000000) :
    Calls Try.prog 11 #[.int .i64 z, .int .i64 n] w fun e w' => e = .returned (.int .i64 (withI z n)) ∧ w' = w := by
  go_enter Try.func11, Try.ntmps11
  go_wp2
  go_ret
  exact ⟨rfl, rfl⟩

set_option maxRecDepth 100000 in
set_option maxHeartbeats 2000000 in
theorem next_any (g m : Nat) (a : Option Addr) (n c : Nat) (w : World) (h : Src w g a n c) (h0 : 0 < m) (hm : m ≤ 1000000000) :
    Calls Try.prog 39 #[.pointer (some ⟨g, 0, none⟩), .int .i64 m] w fun e w' => ∃ k : Nat, k < m ∧ e = .returned (.int .i64 k) ∧ Src w' g a n c ∧ w.grownBy w' (some g) := by
  have H0 := Box.mk h
  obtain ⟨⟨i, hi, hr⟩, hn, h2, h3⟩ := h
  have HR := Box.mk hr
  have HI := Box.mk h2
  have HA := Box.mk h3
  have HN := Box.mk hn
  have hc0 : w.cell? ⟨g, 0, none⟩ = some (.slice a n c) := by rw [cell_of_row _ _ _ _ _ _ hr]; rfl
  have hc1 : w.cell? ⟨g, 1, none⟩ = some (.int .i64 i) := by rw [cell_of_row _ _ _ _ _ _ hr]; rfl
  unfold maxLen at hn
  clear hr h2 h3
  go_enter Try.func39, Try.ntmps39
  by_cases hlt : i < n
  · obtain ⟨x, z, rfl, hz, z0, z1⟩ := HI.out i hlt
    have hne := HA.out x rfl (by omega)
    have HNE := Box.mk hne
    clear hne
    have hd : decide (n ≤ i) = false := by simp; omega
    have HZ := Box.mk hz
    clear hz
    go_wp2_with fail
    go_quiet (fail)
    clear hd
    obtain ⟨W, hW⟩ : ∃ W, W = w.drewN nq := ⟨_, rfl⟩
    have HRW := Box.mk (show W.heap[g]? = some (.cells #[.slice (some x) n c, .int .i64 i] 51 (0, 0)) by rw [hW]; exact HR.out)
    rw [← hW]
    have hf := frozen_of_row W g 1 _ _ HRW.out
    have hc0 : W.cell? ⟨g, 0, none⟩ = some (.slice (some x) n c) := by rw [cell_of_row _ _ _ _ _ _ HRW.out]; rfl
    have hc1 : W.cell? ⟨g, 1, none⟩ = some (.int .i64 i) := by rw [cell_of_row _ _ _ _ _ _ HRW.out]; rfl
    have HGW := Box.mk (show w.grownBy W (some g) by rw [hW]; exact ⟨rfl, rfl, rfl, Nat.le_refl _, fun _ _ _ => rfl⟩)
    clear hW
    go_wp2_with fail
    obtain ⟨W2, hW2⟩ : ∃ W2, W2 = W.setCell ⟨g, 1, none⟩ (.int .i64 ((i : Int) + 1)) := ⟨_, rfl⟩
    have HR2 := Box.mk (show W2.heap[g]? = some (.cells #[.slice (some x) n c, .int .i64 ((i : Int) + 1)] 51 (0, 0)) by rw [hW2, heap_setCell_same _ _ _ _ _ _ HRW.out]; simp)
    have HG2 := Box.mk (show w.grownBy W2 (some g) from grownBy_trans HGW.out (by
      rw [hW2]
      exact ⟨rfl, rfl, rfl, by simp [World.setCell], fun k _ hne => heap_setCell_other W ⟨g, 1, none⟩ k _ (fun e => hne (by rw [e]))⟩))
    change Code.wp _ _ _ _ (W.setCell ⟨g, 1, none⟩ (.int .i64 ((i : Int) + 1)))
    rw [← hW2]
    clear hW2 hf hc0 hc1 HGW HRW
    have hc0 : W2.cell? ⟨g, 0, none⟩ = some (.slice (some x) n c) := by rw [cell_of_row _ _ _ _ _ _ HR2.out]; rfl
    have hc1 : W2.cell? ⟨g, 1, none⟩ = some (.int .i64 ((i : Int) + 1)) := by rw [cell_of_row _ _ _ _ _ _ HR2.out]; rfl
    have hz2 : W2.cell? (x.add i) = some (.int .i64 z) := by
      rw [World.cell?_of_block (HG2.out.block _ (lt_cell HZ.out) (by rw [add_blockF]; exact fun e => HNE.out (Option.some.inj e)))]
      exact HZ.out
    have HS := Box.mk (show Src W2 g (some x) n c from ⟨⟨i + 1, hlt, HR2.out⟩, HN.out, HI.out.grown HG2.out (fun y e h e2 => HA.out y e h (Option.some.inj e2)), HA.out⟩)
    obtain ⟨k, hk, hwk⟩ := withI_range z m h0 hm
    have HWK := Box.mk hwk
    clear hwk
    go_quiet ((go_at_call 11; exact Calls.quiet_of_same (withinF _ _ _ h0 hm)))
    go_wp2
    go_ret
    exact ⟨k, hk, ret_int HWK.out, HS.out.keep (below_drewN (Below.refl _ _) _), grownBy_trans HG2.out ⟨rfl, rfl, rfl, Nat.le_refl _, fun _ _ _ => rfl⟩⟩
  · have hd : decide (n ≤ i) = true := by simp; omega
    go_wp2_with fail
    go_quiet (fail)
    go_wp2
    go_ret
    exact ⟨0, h0, rfl, H0.out.keep (below_drewN (Below.refl _ _) _), ⟨rfl, rfl, rfl, Nat.le_refl _, fun _ _ _ => rfl⟩⟩

end Go.Proofs.Ytfjnpegpfmaekaa
namespace Go.Proofs.Ytfjnpegpfmaekaa
open Go.RowKit

/-- The sum of the numbers that are not negative, from acc on, at most most. -/
def sumGo (most : Int) : Int → List Int → Int
  | acc, [] => acc
  | acc, n :: r => if max n 0 > most - acc then most else sumGo most (acc + max n 0) r
def addS (most : Int) (l : List Int) : Int := if most < 0 then 0 else sumGo most 0 l
/-- The exact sum. -/
def sumX : List Int → Int
  | [] => 0
  | n :: r => max n 0 + sumX r
theorem sumX_nn : ∀ l, 0 ≤ sumX l
  | [] => Int.le_refl _
  | n :: r => by have := sumX_nn r; rw [sumX]; omega
theorem sumGo_eq (most : Int) : ∀ (l : List Int) (acc : Int), 0 ≤ acc → acc ≤ most → sumGo most acc l = min most (acc + sumX l)
  | [], acc, h0, h1 => by rw [sumGo, sumX]; omega
  | n :: r, acc, h0, h1 => by
    have := sumX_nn r
    rw [sumGo, sumX]; split
    · omega
    · rw [sumGo_eq most r _ (by omega) (by omega)]; omega
theorem addS_eq (most : Int) (l : List Int) : addS most l = if most < 0 then 0 else min most (sumX l) := by
  unfold addS; split
  · rfl
  · rw [sumGo_eq most l 0 (by omega) (by omega)]; omega

/-- The slice at a reads as the numbers l. -/
def IsInts (w : World) (a : Option Addr) (l : List Int) (cap : Nat) : Prop :=
  (a = none ∧ l = [] ∧ cap = 0) ∨ ∃ x, a = some x ∧ l.length ≤ cap ∧ cap ≤ maxLen ∧ ∀ j (hj : j < l.length), w.cell? (x.add j) = some (.int .i64 l[j]) ∧ -9223372036854775808 ≤ l[j] ∧ l[j] ≤ 9223372036854775807

theorem drop_int (l : List Int) (k : Nat) (h : k < l.length) : l.drop k = l[k] :: l.drop (k + 1) := List.drop_eq_getElem_cons h

theorem max_if (n : Int) : max n 0 = if n < 0 then 0 else n := by split <;> omega

set_option maxHeartbeats 1000000 in
theorem numAdd_any (most : Int) (l : List Int) (a : Option Addr) (cap : Nat) (w : World) (hm0 : -9223372036854775808 ≤ most) (hm1 : most ≤ 9223372036854775807) (ha : IsInts w a l cap) :
    Calls Try.prog 49 #[.int .i64 most, .slice a l.length cap] w fun e w' => e = .returned (.int .i64 (addS most l)) ∧ w = w' := by
  have hlen : l.length ≤ 2 ^ 63 - 1 := by
    rcases ha with ⟨_, rfl, _⟩ | ⟨x, _, h1, h2, _⟩
    · simp
    · unfold maxLen at h2; omega
  have HA := Lib.hid ha
  clear ha
  by_cases hmost : most < 0
  · have HS := Lib.hid (show addS most l = 0 by unfold addS; rw [if_pos hmost])
    go_enter Try.func49, Try.ntmps49
    go_wp2
    go_ret
    exact ⟨ret_int HS.out.symm, rfl⟩
  · have HS := Lib.hid (show addS most l = sumGo most 0 l by unfold addS; rw [if_neg hmost])
    go_enter Try.func49, Try.ntmps49
    go_wp2
    go_loop [5, 12] (fun n i => ∃ (k : Nat) (acc : Int), k ≤ l.length ∧ i = .int .i64 k ∧ n = .int .i64 acc ∧ 0 ≤ acc ∧ acc ≤ most ∧ Hid (addS most l = sumGo most acc (l.drop k))) (fun _ i => l.length - (intOf i).toNat)
    case atStart => exact ⟨0, 0, Nat.zero_le _, rfl, rfl, by omega, by omega, Lib.hid (by rw [HS.out]; rfl)⟩
    case round =>
      obtain ⟨k, acc, hk, rfl, rfl, ha0, ha1, HG⟩ := hrel
      by_cases hlt : k < l.length
      · obtain ⟨x, rfl, hc, b0, b1⟩ : ∃ x, a = some x ∧ w.cell? (x.add k) = some (.int .i64 l[k]) ∧ -9223372036854775808 ≤ l[k] ∧ l[k] ≤ 9223372036854775807 := by
          rcases HA.out with ⟨_, h, _⟩ | ⟨x, h, _, _, hh⟩
          · rw [h] at hlt; simp at hlt
          · exact ⟨x, h, hh k hlt⟩
        by_cases hq : l[k] > most - acc
        · go_wp2
          go_ret
          exact ⟨ret_int (by rw [HG.out, drop_int l k hlt, sumGo, if_pos (by omega)]), rfl⟩
        · go_wp2
          all_goals go_round
          case rel => exact ⟨k + 1, _, by omega, by go_num, rfl, by omega, by omega, Lib.hid (by rw [HG.out, drop_int l k hlt, sumGo, if_neg (by omega), max_if])⟩
          case measure => simp [intOf]; omega
      · go_wp2
        go_ret
        exact ⟨ret_int (by rw [HG.out, List.drop_of_length_le (by omega)]; rfl), rfl⟩
set_option maxHeartbeats 1000000 in
theorem refAdd_any (most : Int) (l : List Int) (a : Option Addr) (cap : Nat) (w : World) (hm0 : -9223372036854775808 ≤ most) (hm1 : most ≤ 9223372036854775807) (ha : IsInts w a l cap) :
    Calls Try.prog 52 #[.int .i64 most, .slice a l.length cap] w fun e w' => e = .returned (.int .i64 (addS most l)) ∧ w = w' := by
  have hlen : l.length ≤ 2 ^ 63 - 1 := by
    rcases ha with ⟨_, rfl, _⟩ | ⟨x, _, h1, h2, _⟩
    · simp
    · unfold maxLen at h2; omega
  have HA := Lib.hid ha
  clear ha
  by_cases hmost : most < 0
  · have HS := Lib.hid (show addS most l = 0 by unfold addS; rw [if_pos hmost])
    go_enter Try.func52, Try.ntmps52
    go_wp2
    go_ret
    exact ⟨ret_int HS.out.symm, rfl⟩
  · have HS := Lib.hid (show addS most l = sumGo most 0 l by unfold addS; rw [if_neg hmost])
    go_enter Try.func52, Try.ntmps52
    go_wp2
    go_loop [5, 6] (fun n i => ∃ (k : Nat) (acc : Int), k ≤ l.length ∧ i = .int .i64 k ∧ n = .int .i64 acc ∧ 0 ≤ acc ∧ acc ≤ most ∧ Hid (addS most l = sumGo most acc (l.drop k))) (fun _ i => l.length - (intOf i).toNat)
    case atStart => exact ⟨0, 0, Nat.zero_le _, rfl, rfl, by omega, by omega, Lib.hid (by rw [HS.out]; rfl)⟩
    case round =>
      obtain ⟨k, acc, hk, rfl, rfl, ha0, ha1, HG⟩ := hrel
      by_cases hlt : k < l.length
      · obtain ⟨x, rfl, hc, b0, b1⟩ : ∃ x, a = some x ∧ w.cell? (x.add k) = some (.int .i64 l[k]) ∧ -9223372036854775808 ≤ l[k] ∧ l[k] ≤ 9223372036854775807 := by
          rcases HA.out with ⟨_, h, _⟩ | ⟨x, h, _, _, hh⟩
          · rw [h] at hlt; simp at hlt
          · exact ⟨x, h, hh k hlt⟩
        by_cases hq : l[k] > most - acc
        · go_wp2
          go_ret
          exact ⟨ret_int (by rw [HG.out, drop_int l k hlt, sumGo, if_pos (by omega)]), rfl⟩
        · go_wp2
          all_goals go_round
          case rel => exact ⟨k + 1, _, by omega, by go_num, rfl, by omega, by omega, Lib.hid (by rw [HG.out, drop_int l k hlt, sumGo, if_neg (by omega), max_if])⟩
          case measure => simp [intOf]; omega
      · go_wp2
        go_ret
        exact ⟨ret_int (by rw [HG.out, List.drop_of_length_le (by omega)]; rfl), rfl⟩
end Go.Proofs.Ytfjnpegpfmaekaa
namespace Go.Proofs.Ytfjnpegpfmaekaa
open Go.RowKit

/-- A plan. -/
structure Pl where
  ws : List Int
  ms : Int
  num : Int
  den : Int
  hold : Int
  win : Int
/-- The first k weights ascend. -/
def ascK (l : List Int) : Nat → Bool
  | 0 => true
  | k + 1 => ascK l k && (decide (1 ≤ l.getD k 0) && decide (l.getD k 0 ≤ 10000) && (decide (k = 0) || decide (l.getD (k - 1) 0 < l.getD k 0)))
theorem ascK_succ (l : List Int) (k : Nat) : ascK l (k + 1) = (ascK l k && (decide (1 ≤ l.getD k 0) && decide (l.getD k 0 ≤ 10000) && (decide (k = 0) || decide (l.getD (k - 1) 0 < l.getD k 0)))) := rfl
def Pl.nums (p : Pl) : Prop := 1 ≤ p.ws.length ∧ p.ws.length ≤ 8 ∧ 1 ≤ p.ms ∧ p.ms ≤ 1000000 ∧ 0 ≤ p.num ∧ p.num ≤ 1000000 ∧ 1 ≤ p.den ∧ p.den ≤ 1000000 ∧ 1 ≤ p.hold ∧ p.hold ≤ 100 ∧ 1 ≤ p.win ∧ p.win ≤ 1000000
instance (p : Pl) : Decidable p.nums := by unfold Pl.nums; infer_instance
def Pl.ok (p : Pl) : Bool := decide p.nums && ascK p.ws p.ws.length
def planE (p : Pl) : Int := if p.ok = true then 0 else 8
def PlV (a : Option Addr) (c : Nat) (p : Pl) : Value := .agg #[.slice a p.ws.length c, .int .i64 p.ms, .int .i64 p.num, .int .i64 p.den, .int .i64 p.hold, .int .i64 p.win]
def PlC (a : Option Addr) (c : Nat) (p : Pl) : Array Value := #[.slice a p.ws.length c, .int .i64 p.ms, .int .i64 p.num, .int .i64 p.den, .int .i64 p.hold, .int .i64 p.win]
theorem nums_cases (p : Pl) : Box (p.nums) ∧ decide ((1 : Int) ≤ p.ws.length) = true ∧ decide ((p.ws.length : Int) ≤ 8) = true ∧ decide (1 ≤ p.ms) = true ∧ decide (p.ms ≤ 1000000) = true ∧ decide (0 ≤ p.num) = true ∧ decide (p.num ≤ 1000000) = true ∧ decide (1 ≤ p.den) = true ∧ decide (p.den ≤ 1000000) = true ∧ decide (1 ≤ p.hold) = true ∧ decide (p.hold ≤ 100) = true ∧ decide (1 ≤ p.win) = true ∧ decide (p.win ≤ 1000000) = true
    ∨ Box (¬ p.nums) ∧ (decide ((1 : Int) ≤ p.ws.length) = false ∨ decide ((1 : Int) ≤ p.ws.length) = true ∧ (decide ((p.ws.length : Int) ≤ 8) = false ∨ decide ((p.ws.length : Int) ≤ 8) = true ∧ (decide (1 ≤ p.ms) = false ∨ decide (1 ≤ p.ms) = true ∧ (decide (p.ms ≤ 1000000) = false ∨ decide (p.ms ≤ 1000000) = true ∧ (decide (0 ≤ p.num) = false ∨ decide (0 ≤ p.num) = true ∧ (decide (p.num ≤ 1000000) = false ∨ decide (p.num ≤ 1000000) = true ∧ (decide (1 ≤ p.den) = false ∨ decide (1 ≤ p.den) = true ∧ (decide (p.den ≤ 1000000) = false ∨ decide (p.den ≤ 1000000) = true ∧ (decide (1 ≤ p.hold) = false ∨ decide (1 ≤ p.hold) = true ∧ (decide (p.hold ≤ 100) = false ∨ decide (p.hold ≤ 100) = true ∧ (decide (1 ≤ p.win) = false ∨ decide (1 ≤ p.win) = true ∧ (decide (p.win ≤ 1000000) = false)))))))))))) := by
  simp only [decide_eq_true_eq, decide_eq_false_iff_not]
  by_cases h : p.nums
  · left
    refine ⟨⟨h⟩, ?_⟩
    unfold Pl.nums at h
    omega
  · right
    refine ⟨⟨h⟩, ?_⟩
    unfold Pl.nums at h
    omega

theorem IsInts.keepP {w w' : World} {a : Option Addr} {l : List Int} {c : Nat} (h : IsInts w a l c) (hb : Below w.heap.size w w') : IsInts w' a l c := by
  rcases h with h | ⟨x, h1, h2, h3, h4⟩
  · exact .inl h
  · exact .inr ⟨x, h1, h2, h3, fun j hj => ⟨below_cell hb (h4 j hj).1, (h4 j hj).2⟩⟩
theorem IsInts.at {w : World} {a : Option Addr} {l : List Int} {c : Nat} (h : IsInts w a l c) {k : Nat} (hlt : k < l.length) : ∃ x, a = some x ∧ ∀ j, j < l.length → w.cell? (x.add j) = some (.int .i64 (l.getD j 0)) := by
  rcases h with ⟨_, h, _⟩ | ⟨x, h, _, _, hh⟩
  · rw [h] at hlt; simp at hlt
  · refine ⟨x, h, fun j hj => ?_⟩
    rw [(hh j hj).1, List.getD_eq_getElem?_getD, List.getElem?_eq_getElem hj]; rfl
set_option maxRecDepth 10000 in
set_option maxHeartbeats 4000000 in
theorem refPlan_any (p : Pl) (a : Option Addr) (c : Nat) (w : World) (h : IsInts w a p.ws c) :
    Calls Try.prog 42 #[PlV a c p] w fun e w' => e = .returned (.int .i64 (planE p)) ∧ Below w.heap.size w w' := by
  have hlen : p.ws.length ≤ 9223372036854775807 := by
    rcases h with ⟨_, e, _⟩ | ⟨x, _, h1, h2, _⟩
    · rw [e]; simp
    · unfold maxLen at h2; omega
  have HI := Box.mk h
  have HN := Box.mk (nums_cases p)
  have HE := Box.mk (show planE p = if p.ok = true then 0 else 8 from rfl)
  have HK := Box.mk (show p.ok = (decide p.nums && ascK p.ws p.ws.length) from rfl)
  clear h
  unfold PlV
  generalize planE p = r at *
  obtain ⟨nb, hnb⟩ : ∃ b, b = decide p.nums := ⟨_, rfl⟩
  have HNB := Box.mk hnb
  rw [← hnb] at HK
  clear hnb
  obtain ⟨W, hW⟩ : ∃ W, W = w.alloc (.cells (PlC a c p) 30 (0, 0)) := ⟨_, rfl⟩
  have HB := Box.mk (show Below w.heap.size w W by rw [hW]; exact below_oneF w _)
  have HI := Box.mk (HI.out.keepP HB.out)
  have c0 : W.cell? ⟨w.heap.size, 0, none⟩ = some (.slice a p.ws.length c) := by rw [hW, World.cell?_alloc_new]; rfl
  have c1 : W.cell? ⟨w.heap.size, 1, none⟩ = some (.int .i64 p.ms) := by rw [hW, World.cell?_alloc_new]; rfl
  have c2 : W.cell? ⟨w.heap.size, 2, none⟩ = some (.int .i64 p.num) := by rw [hW, World.cell?_alloc_new]; rfl
  have c3 : W.cell? ⟨w.heap.size, 3, none⟩ = some (.int .i64 p.den) := by rw [hW, World.cell?_alloc_new]; rfl
  have c4 : W.cell? ⟨w.heap.size, 4, none⟩ = some (.int .i64 p.hold) := by rw [hW, World.cell?_alloc_new]; rfl
  have c5 : W.cell? ⟨w.heap.size, 5, none⟩ = some (.int .i64 p.win) := by rw [hW, World.cell?_alloc_new]; rfl
  go_enter Try.func42, Try.ntmps42
  go_upto_region 1 with fail
  change Code.wp _ _ _ _ (w.alloc (.cells (PlC a c p) 30 (0, 0)))
  rw [← hW]
  clear hW
  have HGB := Box.mk (show ∀ W2, Below W.heap.size W W2 → Below w.heap.size w W2 from fun W2 h => below_trans HB.out h)
  go_cut [3] (fun v wx => v = .bool nb ∧ wx = W)
  case first =>
    have fin : ∀ {b b' : Bool} {wx : World}, wx = W → b' = nb → b = b' → Value.bool b = .bool nb ∧ wx = W := fun e h hb => ⟨by rw [hb, h], e⟩
    rcases HN.out with ⟨hb, h1, h2, h3, h4, h5, h6, h7, h8, h9, h10, h11, h12⟩ | ⟨hb, h1 | ⟨h1, h2 | ⟨h2, h3 | ⟨h3, h4 | ⟨h4, h5 | ⟨h5, h6 | ⟨h6, h7 | ⟨h7, h8 | ⟨h8, h9 | ⟨h9, h10 | ⟨h10, h11 | ⟨h11, h12⟩⟩⟩⟩⟩⟩⟩⟩⟩⟩⟩⟩
    · have HX := Box.mk (HNB.out.trans (decide_eq_true hb.out))
      clear hb HN HK HI
      go_wp2_with fail
      go_meet
      exact fin rfl HX.out.symm rfl
    all_goals
      have HX := Box.mk (HNB.out.trans (decide_eq_false hb.out))
      clear hb HN HK HI
      go_wp2_with fail
      go_meet
      exact fin rfl HX.out.symm rfl
  case rest =>
    obtain ⟨rfl, rfl⟩ := hcut
    have HC0 := Box.mk c0
    clear c0 c1 c2 c3 c4 c5 HN HNB
    go_wp2_with fail
    go_loopw [3, 4] (fun ov iv wr => ∃ (k : Nat) (b : Bool), k ≤ p.ws.length ∧ ov = .bool b ∧ iv = .int .i64 k ∧ Box (b = (nb && ascK p.ws k)) ∧ Box (Below wc.heap.size wc wr)) (fun _ iv _ => p.ws.length - (intOf iv).toNat)
    case atStart => exact ⟨0, nb, Nat.zero_le _, rfl, rfl, ⟨by rw [show ascK p.ws 0 = true from rfl, Bool.and_true]⟩, ⟨Below.refl _ _⟩⟩
    case round =>
      obtain ⟨k, b, hk, rfl, rfl, HQ, HW⟩ := hrel
      have c0 := below_cell HW.out HC0.out
      by_cases hlt : k < p.ws.length
      · obtain ⟨x, rfl, hc⟩ := (HI.out.keepP HW.out).at hlt
        have hck := hc k hlt
        have HS := Box.mk (ascK_succ p.ws k)
        have HCC := Box.mk hc
        clear hc HI HC0
        generalize hv : p.ws.getD k 0 = v at *
        clear hv
        cases b
        · have HN := Box.mk (show false = (nb && ascK p.ws (k + 1)) by rw [HS.out, ← Bool.and_assoc, ← HQ.out, Bool.false_and])
          clear hck
          go_wp2_with fail
          go_quiet (fail)
          go_wp2
          go_roundw
          case rel => exact ⟨k + 1, false, by omega, by go_num, by go_num, HN, ⟨below_drewN HW.out _⟩⟩
          case measure => simp [intOf]; omega
        · have HT := Box.mk HQ.out
          have HNX : ∀ {d : Bool}, (decide (1 ≤ v) && decide (v ≤ 10000) && (decide (k = 0) || decide (p.ws.getD (k - 1) 0 < v))) = d → Box (d = (nb && ascK p.ws (k + 1))) := fun {d} hd => ⟨by rw [HS.out, ← Bool.and_assoc, ← HT.out, Bool.true_and, hd]⟩
          clear HQ HT HS
          by_cases h1 : 1 ≤ v
          · by_cases h2 : v ≤ 10000
            · by_cases h3 : k = 0
              · have H3 := Box.mk h3
                have d1 := decide_eq_true h1
                have d2 := decide_eq_true h2
                have dz : ((k : Int) == 0) = true := by rw [h3]; rfl
                have HN := HNX (d := true) (by rw [d1, d2, decide_eq_true h3]; rfl)
                clear HNX HCC h3
                go_wp2_with fail
                go_quiet (fail)
                go_wp2
                go_roundw
                case rel => exact ⟨k + 1, true, by omega, by go_num, by go_num, HN, ⟨below_drewN HW.out _⟩⟩
                case measure => simp [intOf]; omega
              · have hcj := HCC.out (k - 1) (by omega)
                generalize hv2 : p.ws.getD (k - 1) 0 = v2 at *
                clear hv2
                have hk1 : 1 ≤ k := by omega
                have d1 := decide_eq_true h1
                have d2 := decide_eq_true h2
                have dz : ((k : Int) == 0) = false := by rw [beq_eq_false_iff_ne]; omega
                by_cases h4 : v2 < v
                · have HN := HNX (d := true) (by rw [d1, d2, decide_eq_true h4, Bool.or_true]; rfl)
                  have d4 : decide (v2 < v) = true := decide_eq_true h4
                  clear HNX HCC h3
                  go_wp2_with fail
                  go_quiet (fail)
                  go_wp2
                  go_roundw
                  case rel => exact ⟨k + 1, true, by omega, by go_num, by go_num, HN, ⟨below_drewN HW.out _⟩⟩
                  case measure => simp [intOf]; omega
                · have HN := HNX (d := false) (by rw [decide_eq_false h3, decide_eq_false h4]; simp)
                  have d4 := decide_eq_false h4
                  clear HNX HCC h3
                  go_wp2_with fail
                  go_quiet (fail)
                  go_wp2
                  go_roundw
                  case rel => exact ⟨k + 1, false, by omega, by go_num, by go_num, HN, ⟨below_drewN HW.out _⟩⟩
                  case measure => simp [intOf]; omega
            · have HN := HNX (d := false) (by rw [decide_eq_false h2, Bool.and_false]; rfl)
              have d1 := decide_eq_true h1
              have d2 := decide_eq_false h2
              clear HNX HCC
              go_wp2_with fail
              go_quiet (fail)
              go_wp2
              go_roundw
              case rel => exact ⟨k + 1, false, by omega, by go_num, by go_num, HN, ⟨below_drewN HW.out _⟩⟩
              case measure => simp [intOf]; omega
          · have HN := HNX (d := false) (by rw [decide_eq_false h1]; rfl)
            have d1 := decide_eq_false h1
            clear HNX HCC
            go_wp2_with fail
            go_quiet (fail)
            go_wp2
            go_roundw
            case rel => exact ⟨k + 1, false, by omega, by go_num, by go_num, HN, ⟨below_drewN HW.out _⟩⟩
            case measure => simp [intOf]; omega
      · have HD := Box.mk (show b = p.ok by rw [HK.out, HQ.out, show k = p.ws.length by omega])
        clear HQ HK HI HC0
        cases b
        · have HX := Box.mk (show (8 : Int) = r by rw [HE.out, ← HD.out]; rfl)
          clear HE HD
          go_wp2_with fail
          go_ret
          exact ⟨ret_int HX.out, HGB.out _ HW.out⟩
        · have HX := Box.mk (show (0 : Int) = r by rw [HE.out, ← HD.out]; rfl)
          clear HE HD
          go_wp2_with fail
          go_ret
          exact ⟨ret_int HX.out, HGB.out _ HW.out⟩
end Go.Proofs.Ytfjnpegpfmaekaa
namespace Go.Proofs.Ytfjnpegpfmaekaa
open Go.RowKit

/-- Block g is a variable with these cells. -/
def VarA (w : World) (g : Nat) (cs : Array Value) (t : TypeId) : Prop := w.heap[g]? = some (.cells cs t (0, 0))
theorem VarA.lt {w : World} {g : Nat} {cs : Array Value} {t : TypeId} (h : VarA w g cs t) : g < w.heap.size := (Array.getElem?_eq_some_iff.1 h).1
theorem VarA.keep {w w' : World} {g : Nat} {cs : Array Value} {t : TypeId} (h : VarA w g cs t) (hb : Below w.heap.size w w') : VarA w' g cs t := by
  have := h.lt
  unfold VarA at *
  rw [hb.block g this]; exact h
theorem VarA.cell {w : World} {g i : Nat} {cs : Array Value} {t : TypeId} {v : Value} (h : VarA w g cs t) (hv : cs[i]? = some v) : w.cell? ⟨g, i, none⟩ = some v := by
  rw [cell_of_row _ _ _ _ _ _ h]; exact hv
theorem VarA.frozen {w : World} {g i : Nat} {cs : Array Value} {t : TypeId} (h : VarA w g cs t) : w.frozen? ⟨g, i, none⟩ = false := by
  unfold VarA at h; simp [World.frozen?, h]
theorem VarA.set {w : World} {g i : Nat} {cs : Array Value} {t : TypeId} {v : Value} (h : VarA w g cs t) : VarA (w.setCell ⟨g, i, none⟩ v) g (cs.setIfInBounds i v) t := by
  unfold VarA; rw [heap_setCell_same _ _ _ _ _ _ h]
theorem VarA.other {w : World} {g : Nat} {cs : Array Value} {t : TypeId} {x : Addr} {v : Value} (h : VarA w g cs t) (hne : g ≠ x.block) : VarA (w.setCell x v) g cs t := by
  unfold VarA; rw [heap_setCell_other _ _ _ _ hne]; exact h
theorem VarA.new (w : World) (cs : Array Value) (t : TypeId) : VarA (w.alloc (.cells cs t)) w.heap.size cs t := heap_alloc_new _ _
theorem VarA.below {w : World} {g : Nat} {cs : Array Value} {t : TypeId} (h : VarA w g cs t) (o : Obj) : VarA (w.alloc o) g cs t := h.keep (below_oneF _ _)

theorem VarA.row_other {w : World} {g j : Nat} {cs u : Array Value} {t : TypeId} (h : VarA w g cs t) (hne : g ≠ j) : VarA (w.setRow j u) g cs t := by
  unfold VarA at *
  rw [setRow_other _ _ _ _ hne]; exact h
theorem VarA.row {w : World} {g : Nat} {cs : Array Value} {t : TypeId} (h : VarA w g cs t) : ∀ (j : Nat) (v : Value), cs[j]? = some v → w.cell? ((⟨g, 0, none⟩ : Addr).add j) = some v := fun j v hv => by
  rw [Addr.add_lit, Nat.zero_add]; exact h.cell hv

theorem refPlan_eq {p : Pl} {a : Option Addr} {c : Nat} {r : Int} (w : World) (h : IsInts w a p.ws c) (hr : planE p = r) :
    Calls Try.prog 42 #[PlV a c p] w fun e w' => e = .returned (.int .i64 r) ∧ Below w.heap.size w w' := by
  subst hr; exact refPlan_any p a c w h
theorem planE_ok {p : Pl} (h : p.ok = true) : planE p = 0 := by unfold planE; rw [if_pos h]
theorem planE_no {p : Pl} (h : p.ok = false) : planE p = 8 := by unfold planE; rw [h]; rfl

def stageW (p : Pl) (s : Int) : Int := if p.ok = true ∧ 0 ≤ s ∧ s < p.ws.length then p.ws.getD s.toNat 0 else 0
theorem stageW_no {p : Pl} (s : Int) (h : ¬ (p.ok = true ∧ 0 ≤ s ∧ s < p.ws.length)) : stageW p s = 0 := by unfold stageW; rw [if_neg h]

set_option maxHeartbeats 2000000 in
theorem refStageWeight_any (p : Pl) (a : Option Addr) (c : Nat) (s : Int) (w : World) (h : IsInts w a p.ws c) :
    Calls Try.prog 29 #[PlV a c p, .int .i64 s] w fun e w' => e = .returned (.int .i64 (stageW p s)) ∧ Below w.heap.size w w' := by
  obtain ⟨r, hr⟩ : ∃ r, r = stageW p s := ⟨_, rfl⟩
  have HR := Box.mk hr
  rw [← hr]
  clear hr
  obtain ⟨W, hW⟩ : ∃ W, W = w.alloc (.cells (PlC a c p) 30) := ⟨_, rfl⟩
  have HB := Box.mk (show Below w.heap.size w W by rw [hW]; exact below_oneF w _)
  have HV := Box.mk (show VarA W w.heap.size (PlC a c p) 30 by rw [hW]; exact VarA.new _ _ _)
  have HI := Box.mk (h.keepP HB.out)
  clear h
  unfold PlV
  go_enter Try.func29, Try.ntmps29
  go_wp2_with fail
  change Calls _ _ #[PlV a c p] (w.alloc (.cells (PlC a c p) 30)) _
  rw [← hW]
  clear hW
  cases hk : p.ok
  · have HX := Box.mk (show (0 : Int) = r by rw [HR.out, stageW_no s (by rw [hk]; simp)])
    refine (refPlan_eq W HI.out (planE_no hk)).mono ?_
    rintro e w1 ⟨rfl, hb⟩
    have HB1 := Box.mk (below_trans HB.out hb)
    clear hb HR hk
    go_wp2_with fail
    go_ret
    exact ⟨ret_int HX.out, HB1.out⟩
  · refine (refPlan_eq W HI.out (planE_ok hk)).mono ?_
    rintro e w1 ⟨rfl, hb⟩
    have HB1 := Box.mk (below_trans HB.out hb)
    have HV1 := Box.mk (HV.out.keep hb)
    have HI1 := Box.mk (HI.out.keepP hb)
    have c0 := HV1.out.cell (i := 0) (v := .slice a p.ws.length c) rfl
    clear hb HV HI HB
    by_cases h0 : s < 0
    · have HX := Box.mk (show (0 : Int) = r by rw [HR.out, stageW_no s (by omega)])
      have d0 := decide_eq_true h0
      clear HR
      go_wp2_with fail
      go_ret
      exact ⟨ret_int HX.out, HB1.out⟩
    · by_cases h1 : s < p.ws.length
      · obtain ⟨k, rfl⟩ : ∃ k : Nat, s = k := ⟨s.toNat, by omega⟩
        have hk' : k < p.ws.length := by omega
        obtain ⟨x, rfl, hc⟩ := HI1.out.at hk'
        have hck := hc k hk'
        have HX := Box.mk (show p.ws.getD k 0 = r by rw [HR.out]; unfold stageW; rw [if_pos ⟨hk, by omega, h1⟩]; rfl)
        have d0 : decide ((k : Int) < 0) = false := decide_eq_false h0
        have d1 : decide ((p.ws.length : Int) ≤ k) = false := decide_eq_false (by omega)
        generalize p.ws.getD k 0 = v at *
        clear HR hc h1 h0 hk
        go_wp2_with fail
        go_ret
        exact ⟨ret_int HX.out, HB1.out⟩
      · have HX := Box.mk (show (0 : Int) = r by rw [HR.out, stageW_no s (by omega)])
        have d0 : decide (s < 0) = false := decide_eq_false h0
        have d1 : decide ((p.ws.length : Int) ≤ s) = true := decide_eq_true (by omega)
        clear HR hk
        go_wp2_with fail
        go_ret
        exact ⟨ret_int HX.out, HB1.out⟩

/-- A window. -/
structure Wn where
  tot : Int
  err : Int
  age : Int
def Wn.cells (v : Wn) : Array Value := #[.int .i64 v.tot, .int .i64 v.err, .int .i64 v.age]
def Wn.fits (v : Wn) : Prop := 0 ≤ v.tot ∧ v.tot ≤ 1000000000 ∧ 0 ≤ v.err ∧ v.err ≤ 1000000000
instance (v : Wn) : Decidable v.fits := by unfold Wn.fits; infer_instance
def verdV (p : Pl) (v : Wn) : Int := if p.ok = true ∧ v.fits then (if v.tot < p.ms then 1 else if p.num * v.tot < v.err * p.den then 3 else 2) else 0
theorem verdV_no {p : Pl} {v : Wn} (h : ¬ (p.ok = true ∧ v.fits)) : verdV p v = 0 := by unfold verdV; rw [if_neg h]
theorem verdV_yes {p : Pl} {v : Wn} (h1 : p.ok = true) (h2 : v.fits) : verdV p v = if v.tot < p.ms then 1 else if p.num * v.tot < v.err * p.den then 3 else 2 := by unfold verdV; rw [if_pos ⟨h1, h2⟩]
theorem Pl.ok_nums {p : Pl} (h : p.ok = true) : p.nums := by
  unfold Pl.ok at h
  rw [Bool.and_eq_true] at h
  exact of_decide_eq_true h.1
theorem mul_small {x y : Int} (hx0 : 0 ≤ x) (hx : x ≤ 1000000000) (hy0 : 0 ≤ y) (hy : y ≤ 1000000) : 0 ≤ x * y ∧ x * y ≤ 1000000000000000 := by
  refine ⟨Int.mul_nonneg hx0 hy0, ?_⟩
  have h1 : x * y ≤ 1000000000 * y := Int.mul_le_mul_of_nonneg_right hx hy0
  omega

set_option maxHeartbeats 4000000 in
theorem refVerdict_any (p : Pl) (a : Option Addr) (c : Nat) (v : Wn) (w : World) (h : IsInts w a p.ws c) :
    Calls Try.prog 27 #[PlV a c p, .agg v.cells] w fun e w' => e = .returned (.int .i64 (verdV p v)) ∧ Below w.heap.size w w' := by
  obtain ⟨r, hr⟩ : ∃ r, r = verdV p v := ⟨_, rfl⟩
  have HR := Box.mk hr
  rw [← hr]
  clear hr
  obtain ⟨tot, err, age⟩ := v
  unfold Wn.cells
  obtain ⟨W, hW⟩ : ∃ W, W = (w.alloc (.cells (PlC a c p) 30)).alloc (.cells #[.int .i64 tot, .int .i64 err, .int .i64 age] 26) := ⟨_, rfl⟩
  have HB := Box.mk (show Below w.heap.size w W by rw [hW]; exact below_twoF (below_oneF w _) _)
  have HV := Box.mk (show VarA W w.heap.size (PlC a c p) 30 by rw [hW]; exact (VarA.new _ _ _).below _)
  have HU := Box.mk (show VarA W (w.heap.size + 1) #[.int .i64 tot, .int .i64 err, .int .i64 age] 26 by rw [hW]; have := VarA.new (w.alloc (.cells (PlC a c p) 30)) #[.int .i64 tot, .int .i64 err, .int .i64 age] 26; rw [World.size_alloc] at this; exact this)
  have HI := Box.mk (h.keepP HB.out)
  clear h
  unfold PlV
  go_enter Try.func27, Try.ntmps27
  go_wp2_with fail
  change Calls _ _ #[PlV a c p] ((w.alloc (.cells (PlC a c p) 30)).alloc (.cells #[.int .i64 tot, .int .i64 err, .int .i64 age] 26)) _
  rw [← hW]
  clear hW
  cases hk : p.ok
  · have HX := Box.mk (show (0 : Int) = r by rw [HR.out, verdV_no (by rw [hk]; simp)])
    refine (refPlan_eq W HI.out (planE_no hk)).mono ?_
    rintro e w1 ⟨rfl, hb⟩
    have HB1 := Box.mk (below_trans HB.out hb)
    clear hb HR hk
    go_wp2_with fail
    go_ret
    exact ⟨ret_int HX.out, HB1.out⟩
  · refine (refPlan_eq W HI.out (planE_ok hk)).mono ?_
    rintro e w1 ⟨rfl, hb⟩
    have HB1 := Box.mk (below_trans HB.out hb)
    have HV1 := Box.mk (HV.out.keep hb)
    have HU1 := Box.mk (HU.out.keep hb)
    have c1 := HV1.out.cell (i := 1) (v := .int .i64 p.ms) rfl
    have c2 := HV1.out.cell (i := 2) (v := .int .i64 p.num) rfl
    have c3 := HV1.out.cell (i := 3) (v := .int .i64 p.den) rfl
    have u0 := HU1.out.cell (i := 0) (v := .int .i64 tot) rfl
    have u1 := HU1.out.cell (i := 1) (v := .int .i64 err) rfl
    have HNUM := Box.mk (Pl.ok_nums hk)
    have HK := Box.mk hk
    clear hb HV HI HB HU hk
    have hcase : decide (tot < 0) = true ∧ Box (¬ Wn.fits ⟨tot, err, age⟩) ∨ decide (tot < 0) = false ∧ (decide (1000000000 < tot) = true ∧ Box (¬ Wn.fits ⟨tot, err, age⟩) ∨ decide (1000000000 < tot) = false ∧ (decide (err < 0) = true ∧ Box (¬ Wn.fits ⟨tot, err, age⟩) ∨ decide (err < 0) = false ∧ (decide (1000000000 < err) = true ∧ Box (¬ Wn.fits ⟨tot, err, age⟩) ∨ decide (1000000000 < err) = false ∧ Box (Wn.fits ⟨tot, err, age⟩)))) := by
      simp only [decide_eq_true_eq, decide_eq_false_iff_not]
      by_cases h1 : tot < 0
      · exact .inl ⟨h1, ⟨fun h => by unfold Wn.fits at h; simp only at h; omega⟩⟩
      · refine .inr ⟨h1, ?_⟩
        by_cases h2 : 1000000000 < tot
        · exact .inl ⟨h2, ⟨fun h => by unfold Wn.fits at h; simp only at h; omega⟩⟩
        · refine .inr ⟨h2, ?_⟩
          by_cases h3 : err < 0
          · exact .inl ⟨h3, ⟨fun h => by unfold Wn.fits at h; simp only at h; omega⟩⟩
          · refine .inr ⟨h3, ?_⟩
            by_cases h4 : 1000000000 < err
            · exact .inl ⟨h4, ⟨fun h => by unfold Wn.fits at h; simp only at h; omega⟩⟩
            · exact .inr ⟨h4, ⟨by unfold Wn.fits; simp only; omega⟩⟩
    rcases hcase with ⟨d1, HF⟩ | ⟨d1, ⟨d2, HF⟩ | ⟨d2, ⟨d3, HF⟩ | ⟨d3, ⟨d4, HF⟩ | ⟨d4, HF⟩⟩⟩⟩
    all_goals try
      have HX := Box.mk (show (0 : Int) = r by rw [HR.out, verdV_no (fun h => HF.out h.2)])
      clear HR HF c1 c2 c3
      go_wp2_with fail
      go_ret
      exact ⟨ret_int HX.out, HB1.out⟩
    have HE := Box.mk (HR.out.trans (verdV_yes HK.out HF.out))
    have HM1 := Box.mk (mul_small HF.out.2.2.1 HF.out.2.2.2 (show 0 ≤ p.den from by have := HNUM.out; unfold Pl.nums at this; omega) (show p.den ≤ 1000000 from by have := HNUM.out; unfold Pl.nums at this; omega))
    have HM2 := Box.mk (mul_small HF.out.1 HF.out.2.1 (show 0 ≤ p.num from by have := HNUM.out; unfold Pl.nums at this; omega) (show p.num ≤ 1000000 from by have := HNUM.out; unfold Pl.nums at this; omega))
    by_cases h5 : tot < p.ms
    · have HX := Box.mk (show (1 : Int) = r by rw [HE.out, if_pos h5])
      clear HR HF HE HM1 HM2
      go_wp2_with fail
      go_ret
      exact ⟨ret_int HX.out, HB1.out⟩
    · have w1e : wrap64 (err * p.den) = err * p.den := by have := HM1.out; simp only at this; simp only [wrap64]; omega
      have w2e : wrap64 (p.num * tot) = p.num * tot := by have := HM2.out; simp only at this; rw [Int.mul_comm] at this; simp only [wrap64]; omega
      by_cases h6 : p.num * tot < err * p.den
      · have HX := Box.mk (show (3 : Int) = r by rw [HE.out, if_neg h5, if_pos h6])
        have d6 := decide_eq_true h6
        clear HR HF HE HM1 HM2
        go_wp2_with fail
        go_ret
        exact ⟨ret_int HX.out, HB1.out⟩
      · have HX := Box.mk (show (2 : Int) = r by rw [HE.out, if_neg h5, if_neg h6])
        have d6 := decide_eq_false h6
        clear HR HF HE HM1 HM2
        go_wp2_with fail
        go_ret
        exact ⟨ret_int HX.out, HB1.out⟩
end Go.Proofs.Ytfjnpegpfmaekaa
namespace Go.Proofs.Ytfjnpegpfmaekaa
open Go.RowKit

theorem cell_same {w w' : World} {p : Addr} (h : w'.heap[p.block]? = w.heap[p.block]?) : w'.cell? p = w.cell? p := by
  unfold World.cell?
  rw [h]
theorem add_block (x : Addr) (j : Nat) : (x.add j).block = x.block := by unfold Addr.add; split <;> rfl
theorem IsBytes.same {w w' : World} {a : Option Addr} {l : List UInt8} {c : Nat} (h : IsBytes w a l c) (hs : ∀ x, a = some x → l ≠ [] → w'.heap[x.block]? = w.heap[x.block]?) : IsBytes w' a l c := by
  rcases h with h | ⟨x, h1, h2, h3, h4⟩
  · exact .inl h
  · refine .inr ⟨x, h1, h2, h3, fun j hj => ?_⟩
    have e : w'.heap[(x.add j).block]? = w.heap[(x.add j).block]? := by
      rw [add_block]
      exact hs x h1 (fun e => by rw [e] at hj; exact absurd hj (Nat.not_lt_zero _))
    rw [cell_same e]
    exact h4 j hj
theorem IsBytes.lt {w : World} {x : Addr} {l : List UInt8} {c : Nat} (h : IsBytes w (some x) l c) (hl : l ≠ []) : x.block < w.heap.size := by
  rcases h with ⟨h, _⟩ | ⟨y, h1, h2, h3, h4⟩
  · cases h
  · obtain rfl := Option.some.inj h1
    have h0 : 0 < l.length := List.length_pos_iff.2 hl
    have := h4 0 h0
    have h5 := World.block_lt_of_cell? w _ this
    rw [add_block] at h5; exact h5
section
variable {ops : Array Oper} {rest : List Oper} {o : Oper} {act : Act} {Q : Exit → Act → World → Prop}
end
end Go.Proofs.Ytfjnpegpfmaekaa
namespace Go.Proofs.Ytfjnpegpfmaekaa
open Go.RowKit

theorem ret_rowQ {P : Program} {fn : Func} {R : Ending → World → Prop} {a : Act} {w : World} {p : Tmp} {ty t : TypeId} {g : Nat} {cs : Array Value} {fr : Nat × Nat} {d : TypeDesc}
    (h : fn.results = #[.cell p ty]) (hd : a.defers = []) (hp : a.tmps.getD p undef = .pointer (some ⟨g, 0, none⟩)) (hg : w.heap[g]? = some (.cells cs t fr))
    (hu : P.underlying ty = some d) (hs : (match d with | .struct _ | .array _ _ => true | _ => false) = true) (hi : (P.info? ty).map (·.size) = some cs.size) (hR : R (.returned (.agg cs)) w) : bodyPost P fn R .ret a w :=
  bodyPost_ret (results_cell_row h _ _ g t cs fr d hp hg hu hs hi) hd hR
end Go.Proofs.Ytfjnpegpfmaekaa
namespace Go.Proofs.Ytfjnpegpfmaekaa
open Go.RowKit

theorem Src.low {w : World} {g : Nat} {a : Option Addr} {n c : Nat} (h : Src w g a n c) : ∀ x, a = some x → 0 < n → x.block < w.heap.size := fun x e h0 => by
  obtain ⟨y, z, e2, hc, _⟩ := h.2.2.1 0 h0
  rw [e] at e2
  obtain rfl := Option.some.inj e2
  have := lt_cell hc
  rw [add_blockF] at this; exact this
theorem Src.other {w w' : World} {g q : Nat} {a : Option Addr} {n c : Nat} (h : Src w g a n c) (hg : w.grownBy w' (some q)) (hq : g ≠ q) (hx : ∀ x, a = some x → 0 < n → x.block ≠ q) : Src w' g a n c :=
  h.grown hg (fun e => hq (Option.some.inj e)) (fun x e h0 e2 => hx x e h0 (Option.some.inj e2))
end Go.Proofs.Ytfjnpegpfmaekaa
namespace Go.Proofs.Ytfjnpegpfmaekaa
open Go.RowKit

theorem IntsF.alloc {w : World} {a : Option Addr} {n : Nat} (h : IntsF w a n) (o : Obj) : IntsF (w.alloc o) a n := h.keep (below_oneF w o)
theorem src_box {w : World} {a : Option Addr} {n c : Nat} (h : IntsF w a n) (hn : n ≤ maxLen) : Src (w.alloc (.cells #[.slice a n c, .int .i64 0] 51)) w.heap.size a n c := by
  refine ⟨⟨0, Nat.zero_le _, heap_alloc_new _ _⟩, hn, h.alloc _, fun x e h0 => ?_⟩
  obtain ⟨y, z, e2, hc, _⟩ := h 0 h0
  rw [e] at e2
  obtain rfl := Option.some.inj e2
  have := lt_cell hc
  rw [add_blockF] at this
  omega
theorem below_box {w w1 w2 : World} (h : Below w.heap.size w w1) (hg : w1.grownBy w2 (some w.heap.size)) : Below w.heap.size w w2 :=
  h.grown hg h.size fun k e => by have := Option.some.inj e; omega

end Go.Proofs.Ytfjnpegpfmaekaa
namespace Go.Proofs.Ytfjnpegpfmaekaa
open Go.RowKit

theorem isInts_new (w : World) (l : List Int) (hl : l.length ≤ 1000) (h : ∀ x ∈ l, -9223372036854775808 ≤ x ∧ x ≤ 9223372036854775807) : IsInts (w.alloc (.cells (l.map (Value.int .i64)).toArray 3)) (some ⟨w.heap.size, 0, none⟩) l l.length := by
  refine .inr ⟨_, rfl, Nat.le_refl _, by unfold maxLen; omega, fun j hj => ⟨?_, h _ (List.getElem_mem _)⟩⟩
  rw [Addr.add_lit, World.cell?_alloc_new]; simp [hj]

end Go.Proofs.Ytfjnpegpfmaekaa
namespace Go.Proofs.Ytfjnpegpfmaekaa
open Go.RowKit

def max0 (a : Int) : Int := if 0 > a then 0 else a
theorem max0_ge (a : Int) : 0 ≤ max0 a := by unfold max0; split <;> omega
theorem max0_le {a : Int} (h : a ≤ 9223372036854775807) : max0 a ≤ 9223372036854775807 := by unfold max0; split <;> omega
end Go.Proofs.Ytfjnpegpfmaekaa
namespace Go.Proofs.Ytfjnpegpfmaekaa
open Go.RowKit

/-- One more. -/
def cnt1 (n : Int) : Int := addS 1000000000 [n, 1]
theorem cnt1_eq (n : Int) : cnt1 n = min 1000000000 (max n 0 + 1) := by
  unfold cnt1; rw [addS_eq, if_neg (by omega)]; simp only [sumX]; omega
def cnt0 (n : Int) : Int := addS 1000000000 [n]
theorem cnt0_eq (n : Int) : cnt0 n = min 1000000000 (max n 0) := by
  unfold cnt0; rw [addS_eq, if_neg (by omega)]; simp only [sumX]; omega
def i64P (n : Int) : Prop := -9223372036854775808 ≤ n ∧ n ≤ 9223372036854775807
theorem isInts_two (w : World) (n m : Int) (hn : i64P n) (hm : i64P m) (t : TypeId) : IsInts (w.alloc (.cells #[.int .i64 n, .int .i64 m] t)) (some ⟨w.heap.size, 0, none⟩) [n, m] 2 := by
  refine .inr ⟨_, rfl, Nat.le_refl _, by decide, fun j hj => ?_⟩
  have hj' : j < 2 := hj
  rw [Addr.add_lit, Nat.zero_add, World.cell?_alloc_new]
  match j, hj' with
  | 0, _ => exact ⟨rfl, hn⟩
  | 1, _ => exact ⟨rfl, hm⟩
theorem isInts_one (w : World) (n : Int) (hn : i64P n) (t : TypeId) : IsInts (w.alloc (.cells #[.int .i64 n] t)) (some ⟨w.heap.size, 0, none⟩) [n] 1 := by
  refine .inr ⟨_, rfl, Nat.le_refl _, by decide, fun j hj => ?_⟩
  have hj' : j < 1 := hj
  rw [Addr.add_lit, Nat.zero_add, World.cell?_alloc_new]
  match j, hj' with
  | 0, _ => exact ⟨rfl, hn⟩
theorem i64P_one : i64P 1 := by unfold i64P; omega
theorem refCount1_any (n : Int) (w : World) (hn : i64P n) :
    Calls Try.prog 51 #[.int .i64 n] w fun e w' => e = .returned (.int .i64 (cnt1 n)) ∧ Below w.heap.size w w' := by
  have HI := Box.mk (isInts_two w n 1 hn i64P_one 3)
  go_enter Try.func51, Try.ntmps51
  go_wp2_with fail
  refine (refAdd_any 1000000000 [n, 1] _ 2 _ (by decide) (by decide) HI.out).mono ?_
  rintro e w1 ⟨rfl, rfl⟩
  go_wp2_with fail
  go_ret
  exact ⟨rfl, below_oneF w _⟩

def Wn.rng (v : Wn) : Prop := i64P v.tot ∧ i64P v.err ∧ i64P v.age
def smpV (v : Wn) (failed : Bool) : Wn := ⟨cnt1 v.tot, if failed = true then cnt1 v.err else cnt0 v.err, v.age⟩
theorem oneWn (x y z : Int) : (#[.int .i64 x, .int .i64 y, .int .i64 z] : Array Value).all (·.oneCell') = true := by simp [Value.oneCell']
theorem sizeWn : (Try.prog.info? 26).map (·.size) = some 3 := by kernel_rfl

set_option maxRecDepth 10000 in
set_option maxHeartbeats 2000000 in
theorem refSample_any (v : Wn) (failed : Bool) (w : World) (h : v.rng) :
    Calls Try.prog 44 #[.agg v.cells, .bool failed] w fun e w' => e = .returned (.agg (smpV v failed).cells) ∧ Below w.heap.size w w' := by
  obtain ⟨r, hr⟩ : ∃ r, r = (smpV v failed).cells := ⟨_, rfl⟩
  have HR := Box.mk hr
  rw [← hr]
  clear hr
  obtain ⟨tot, err, age⟩ := v
  obtain ⟨h1, h2, h3⟩ := h
  unfold smpV Wn.cells at HR
  unfold Wn.cells
  simp only at h1 h2 h3 HR ⊢
  obtain ⟨W, hW⟩ : ∃ W, W = (w.alloc (.cells #[.int .i64 tot, .int .i64 err, .int .i64 age] 26)).alloc (.cells #[.int .i64 0, .int .i64 0, .int .i64 0] 26) := ⟨_, rfl⟩
  have HB := Box.mk (show Below w.heap.size w W by rw [hW]; exact below_twoF (below_oneF w _) _)
  have HV := Box.mk (show VarA W w.heap.size #[.int .i64 tot, .int .i64 err, .int .i64 age] 26 by rw [hW]; exact (VarA.new _ _ _).below _)
  have HU := Box.mk (show VarA W (w.heap.size + 1) #[.int .i64 0, .int .i64 0, .int .i64 0] 26 by rw [hW]; have := VarA.new (w.alloc (.cells #[.int .i64 tot, .int .i64 err, .int .i64 age] 26)) #[.int .i64 0, .int .i64 0, .int .i64 0] 26; rw [World.size_alloc] at this; exact this)
  go_enter Try.func44, Try.ntmps44
  go_wp2_with fail
  change Calls _ _ _ ((w.alloc (.cells #[.int .i64 tot, .int .i64 err, .int .i64 age] 26)).alloc (.cells #[.int .i64 0, .int .i64 0, .int .i64 0] 26)) _
  rw [← hW]
  clear hW
  refine (refCount1_any tot W h1).mono ?_
  rintro e w1 ⟨rfl, hb1⟩
  have HB1 := Box.mk (below_trans HB.out hb1)
  have HV1 := Box.mk (HV.out.keep hb1)
  have HU1 := Box.mk (HU.out.keep hb1)
  have c0 := HV1.out.cell (i := 0) (v := .int .i64 tot) rfl
  have hf := HV1.out.frozen (i := 0)
  generalize cnt1 tot = T at *
  obtain ⟨W2, hW2⟩ : ∃ W2, W2 = w1.setCell ⟨w.heap.size, 0, none⟩ (.int .i64 T) := ⟨_, rfl⟩
  have HB2 := Box.mk (show Below w.heap.size w W2 by rw [hW2]; exact HB1.out.setCell (Nat.le_refl _) _)
  have HV2 := Box.mk (show VarA W2 w.heap.size #[.int .i64 T, .int .i64 err, .int .i64 age] 26 by rw [hW2]; exact HV1.out.set)
  have HU2 := Box.mk (show VarA W2 (w.heap.size + 1) #[.int .i64 0, .int .i64 0, .int .i64 0] 26 by rw [hW2]; exact HU1.out.other (by show w.heap.size + 1 ≠ w.heap.size; omega))
  clear hb1 HV HU HB HV1 HU1 HB1
  go_upto_region 2 with fail
  change Code.wp _ _ _ _ (w1.setCell ⟨w.heap.size, 0, none⟩ (.int .i64 T))
  rw [← hW2]
  clear hW2 hf c0
  have c1 := HV2.out.cell (i := 1) (v := .int .i64 err) rfl
  have hf := HV2.out.frozen (i := 1)
  cases failed
  · have HI := Box.mk (isInts_one W2 err h2 3)
    go_wp2_with fail
    refine (refAdd_any 1000000000 [err] _ 1 _ (by decide) (by decide) HI.out).mono ?_
    rintro e w3 ⟨rfl, hw3⟩
    have HB23 := Box.mk (show Below W2.heap.size W2 w3 by rw [← hw3]; exact below_oneF W2 _)
    have HR := Box.mk (show r = #[.int .i64 T, .int .i64 (addS 1000000000 [err]), .int .i64 age] from HR.out)
    clear hw3 HI
    have HB3 := Box.mk (show Below w.heap.size w w3 from below_trans HB2.out HB23.out)
    have HV3 := Box.mk (HV2.out.keep HB23.out)
    have HU3 := Box.mk (HU2.out.keep HB23.out)
    have e1 := HV3.out.cell (i := 1) (v := .int .i64 err) rfl
    have hf := HV3.out.frozen (i := 1)
    generalize addS 1000000000 [err] = E at *
    obtain ⟨W4, hW4⟩ : ∃ W4, W4 = w3.setCell ⟨w.heap.size, 1, none⟩ (.int .i64 E) := ⟨_, rfl⟩
    have HB4 := Box.mk (show Below w.heap.size w W4 by rw [hW4]; exact HB3.out.setCell (Nat.le_refl _) _)
    have HV4 := Box.mk (show VarA W4 w.heap.size #[.int .i64 T, .int .i64 E, .int .i64 age] 26 by rw [hW4]; exact HV3.out.set)
    have HU4 := Box.mk (show VarA W4 (w.heap.size + 1) #[.int .i64 0, .int .i64 0, .int .i64 0] 26 by rw [hW4]; exact HU3.out.other (by show w.heap.size + 1 ≠ w.heap.size; omega))
    clear HV3 HU3 HB3 HB23 HV2 HU2 HB2 c1
    go_upto_region 5 with fail
    change Code.wp _ _ _ _ (w3.setCell ⟨w.heap.size, 1, none⟩ (.int .i64 E))
    rw [← hW4]
    clear hW4 e1 hf
    have c0 := HV4.out.cell (i := 0) (v := .int .i64 T) rfl
    have c1 := HV4.out.cell (i := 1) (v := .int .i64 E) rfl
    have c2 := HV4.out.cell (i := 2) (v := .int .i64 age) rfl
    go_wp2_with (refine wpList_store_row rfl 26 _ _ rfl (w.heap.size + 1) #[.int .i64 T, .int .i64 E, .int .i64 age] rfl rfl 26 _ HU4.out sizeWn rfl (oneWn _ _ _) ?_)
    (try simp only [Exit.inBlock, Exit.then])
    refine ret_rowQ (cs := #[.int .i64 T, .int .i64 E, .int .i64 age]) rfl rfl rfl (setRow_heap _ _ _ _ _ _ HU4.out) Try.underlying26 rfl sizeWn ⟨by rw [HR.out], below_setRow HB4.out (by omega) _⟩
  · go_wp2_with fail
    refine (refCount1_any err W2 h2).mono ?_
    rintro e w3 ⟨rfl, hb23⟩
    have HB23 := Box.mk hb23
    have HR := Box.mk (show r = #[.int .i64 T, .int .i64 (cnt1 err), .int .i64 age] from HR.out)
    clear hb23
    have HB3 := Box.mk (show Below w.heap.size w w3 from below_trans HB2.out HB23.out)
    have HV3 := Box.mk (HV2.out.keep HB23.out)
    have HU3 := Box.mk (HU2.out.keep HB23.out)
    have e1 := HV3.out.cell (i := 1) (v := .int .i64 err) rfl
    have hf := HV3.out.frozen (i := 1)
    generalize cnt1 err = E at *
    obtain ⟨W4, hW4⟩ : ∃ W4, W4 = w3.setCell ⟨w.heap.size, 1, none⟩ (.int .i64 E) := ⟨_, rfl⟩
    have HB4 := Box.mk (show Below w.heap.size w W4 by rw [hW4]; exact HB3.out.setCell (Nat.le_refl _) _)
    have HV4 := Box.mk (show VarA W4 w.heap.size #[.int .i64 T, .int .i64 E, .int .i64 age] 26 by rw [hW4]; exact HV3.out.set)
    have HU4 := Box.mk (show VarA W4 (w.heap.size + 1) #[.int .i64 0, .int .i64 0, .int .i64 0] 26 by rw [hW4]; exact HU3.out.other (by show w.heap.size + 1 ≠ w.heap.size; omega))
    clear HV3 HU3 HB3 HB23 HV2 HU2 HB2 c1
    go_upto_region 5 with fail
    change Code.wp _ _ _ _ (w3.setCell ⟨w.heap.size, 1, none⟩ (.int .i64 E))
    rw [← hW4]
    clear hW4 e1 hf
    have c0 := HV4.out.cell (i := 0) (v := .int .i64 T) rfl
    have c1 := HV4.out.cell (i := 1) (v := .int .i64 E) rfl
    have c2 := HV4.out.cell (i := 2) (v := .int .i64 age) rfl
    go_wp2_with (refine wpList_store_row rfl 26 _ _ rfl (w.heap.size + 1) #[.int .i64 T, .int .i64 E, .int .i64 age] rfl rfl 26 _ HU4.out sizeWn rfl (oneWn _ _ _) ?_)
    (try simp only [Exit.inBlock, Exit.then])
    refine ret_rowQ (cs := #[.int .i64 T, .int .i64 E, .int .i64 age]) rfl rfl rfl (setRow_heap _ _ _ _ _ _ HU4.out) Try.underlying26 rfl sizeWn ⟨by rw [HR.out], below_setRow HB4.out (by omega) _⟩

def tickV (v : Wn) (len : Int) : Wn × Bool := if len ≤ max0 v.age ∨ len ≤ max0 v.age + 1 then (⟨0, 0, 0⟩, true) else (⟨v.tot, v.err, max0 v.age + 1⟩, false)
theorem tickV_yes {v : Wn} {len : Int} (h : len ≤ max0 v.age ∨ len ≤ max0 v.age + 1) : tickV v len = (⟨0, 0, 0⟩, true) := by unfold tickV; rw [if_pos h]
theorem tickV_no {v : Wn} {len : Int} (h : ¬ (len ≤ max0 v.age ∨ len ≤ max0 v.age + 1)) : tickV v len = (⟨v.tot, v.err, max0 v.age + 1⟩, false) := by unfold tickV; rw [if_neg h]

set_option maxRecDepth 10000 in
set_option maxHeartbeats 2000000 in
theorem refTickWindow_any (v : Wn) (len : Int) (w : World) (h : v.rng) (hl : len ≤ 9223372036854775807) :
    Calls Try.prog 26 #[.agg v.cells, .int .i64 len] w fun e w' => e = .returned (.tuple #[.agg (tickV v len).1.cells, .bool (tickV v len).2]) ∧ Below w.heap.size w w' := by
  obtain ⟨r, hr⟩ : ∃ r, r = (tickV v len).1.cells := ⟨_, rfl⟩
  obtain ⟨b, hb⟩ : ∃ b, b = (tickV v len).2 := ⟨_, rfl⟩
  rw [← hr, ← hb]
  obtain ⟨tot, err, age⟩ := v
  have HY := Box.mk (fun (hh : len ≤ max0 age ∨ len ≤ max0 age + 1) => show r = #[.int .i64 0, .int .i64 0, .int .i64 0] ∧ b = true by rw [hr, hb, tickV_yes hh]; exact ⟨rfl, rfl⟩)
  have HN := Box.mk (fun (hh : ¬ (len ≤ max0 age ∨ len ≤ max0 age + 1)) => show r = #[.int .i64 tot, .int .i64 err, .int .i64 (max0 age + 1)] ∧ b = false by rw [hr, hb, tickV_no hh]; exact ⟨rfl, rfl⟩)
  have ha : age ≤ 9223372036854775807 := h.2.2.2
  have h0 := max0_ge age
  have h1 := max0_le ha
  have hp : ∀ (ts : Array TypeId) (t : TypeId) (W : World), (Builtin.max_ ts t #[.int .i64 age, .int .i64 0]).run Try.prog W = .ok (.int .i64 (max0 age)) W := fun ts t W => by rw [run_max_int2]; rfl
  clear hr hb h ha
  generalize max0 age = A at *
  unfold Wn.cells
  simp only
  obtain ⟨W, hW⟩ : ∃ W, W = (w.alloc (.cells #[.int .i64 tot, .int .i64 err, .int .i64 age] 26)).alloc (.cells #[.int .i64 0, .int .i64 0, .int .i64 0] 26) := ⟨_, rfl⟩
  have HB := Box.mk (show Below w.heap.size w W by rw [hW]; exact below_twoF (below_oneF w _) _)
  have HV := Box.mk (show VarA W w.heap.size #[.int .i64 tot, .int .i64 err, .int .i64 age] 26 by rw [hW]; exact (VarA.new _ _ _).below _)
  have HU := Box.mk (show VarA W (w.heap.size + 1) #[.int .i64 0, .int .i64 0, .int .i64 0] 26 by rw [hW]; have := VarA.new (w.alloc (.cells #[.int .i64 tot, .int .i64 err, .int .i64 age] 26)) #[.int .i64 0, .int .i64 0, .int .i64 0] 26; rw [World.size_alloc] at this; exact this)
  go_enter Try.func26, Try.ntmps26
  go_upto_region 1 with fail
  change Code.wp _ _ _ _ ((w.alloc (.cells #[.int .i64 tot, .int .i64 err, .int .i64 age] 26)).alloc (.cells #[.int .i64 0, .int .i64 0, .int .i64 0] 26))
  rw [← hW]
  clear hW
  have c2 := HV.out.cell (i := 2) (v := .int .i64 age) rfl
  have hf := HV.out.frozen (i := 2)
  obtain ⟨W2, hW2⟩ : ∃ W2, W2 = W.setCell ⟨w.heap.size, 2, none⟩ (.int .i64 A) := ⟨_, rfl⟩
  have HB2 := Box.mk (show Below w.heap.size w W2 by rw [hW2]; exact HB.out.setCell (Nat.le_refl _) _)
  have HV2 := Box.mk (show VarA W2 w.heap.size #[.int .i64 tot, .int .i64 err, .int .i64 A] 26 by rw [hW2]; exact HV.out.set)
  have HU2 := Box.mk (show VarA W2 (w.heap.size + 1) #[.int .i64 0, .int .i64 0, .int .i64 0] 26 by rw [hW2]; exact HU.out.other (by show w.heap.size + 1 ≠ w.heap.size; omega))
  clear HV HU HB
  go_upto_region 2 with fail
  change Code.wp _ _ _ _ (W.setCell ⟨w.heap.size, 2, none⟩ (.int .i64 A))
  rw [← hW2]
  clear hW2 hf c2 hp
  have c2 := HV2.out.cell (i := 2) (v := .int .i64 A) rfl
  by_cases hc : len ≤ A ∨ len ≤ A + 1
  · have HX := Box.mk (HY.out hc)
    have hcase : decide (len ≤ A) = true ∨ decide (len ≤ A) = false ∧ decide (len ≤ A + 1) = true ∧ A + 1 ≤ 9223372036854775807 := by
      simp only [decide_eq_true_eq, decide_eq_false_iff_not]; omega
    clear hc HY HN
    rcases hcase with d1 | ⟨d1, d2, d3⟩
    all_goals
      go_wp2_with (refine wpList_store_row rfl 26 _ _ rfl (w.heap.size + 1) #[.int .i64 0, .int .i64 0, .int .i64 0] rfl rfl 26 _ HU2.out sizeWn rfl (oneWn _ _ _) ?_)
      (try simp only [Exit.inBlock, Exit.then])
      refine bodyPost_ret (results_row_tmpF rfl _ _ (w.heap.size + 1) _ _ _ _ rfl (setRow_heap _ _ _ _ _ _ HU2.out) Try.underlying26 rfl sizeWn) rfl ?_
      exact ⟨by rw [HX.out.1, HX.out.2]; rfl, below_setRow HB2.out (by omega) _⟩
  · have HX := Box.mk (HN.out hc)
    have d1 : decide (len ≤ A) = false := decide_eq_false (by omega)
    have d2 : decide (len ≤ A + 1) = false := decide_eq_false (by omega)
    have d3 : A + 1 ≤ 9223372036854775807 := by omega
    clear hc HY HN
    have hf := HV2.out.frozen (i := 2)
    obtain ⟨W3, hW3⟩ : ∃ W3, W3 = W2.setCell ⟨w.heap.size, 2, none⟩ (.int .i64 (A + 1)) := ⟨_, rfl⟩
    have HB3 := Box.mk (show Below w.heap.size w W3 by rw [hW3]; exact HB2.out.setCell (Nat.le_refl _) _)
    have HV3 := Box.mk (show VarA W3 w.heap.size #[.int .i64 tot, .int .i64 err, .int .i64 (A + 1)] 26 by rw [hW3]; exact HV2.out.set)
    have HU3 := Box.mk (show VarA W3 (w.heap.size + 1) #[.int .i64 0, .int .i64 0, .int .i64 0] 26 by rw [hW3]; exact HU2.out.other (by show w.heap.size + 1 ≠ w.heap.size; omega))
    clear HV2 HU2 HB2
    go_upto_region 5 with fail
    change Code.wp _ _ _ _ (W2.setCell ⟨w.heap.size, 2, none⟩ (.int .i64 (A + 1)))
    rw [← hW3]
    clear hW3 hf c2
    have c0 := HV3.out.cell (i := 0) (v := .int .i64 tot) rfl
    have c1 := HV3.out.cell (i := 1) (v := .int .i64 err) rfl
    have c2 := HV3.out.cell (i := 2) (v := .int .i64 (A + 1)) rfl
    go_wp2_with (refine wpList_store_row rfl 26 _ _ rfl (w.heap.size + 1) #[.int .i64 tot, .int .i64 err, .int .i64 (A + 1)] rfl rfl 26 _ HU3.out sizeWn rfl (oneWn _ _ _) ?_)
    (try simp only [Exit.inBlock, Exit.then])
    refine bodyPost_ret (results_row_tmpF rfl _ _ (w.heap.size + 1) _ _ _ _ rfl (setRow_heap _ _ _ _ _ _ HU3.out) Try.underlying26 rfl sizeWn) rfl ?_
    exact ⟨by rw [HX.out.1, HX.out.2]; rfl, below_setRow HB3.out (by omega) _⟩
end Go.Proofs.Ytfjnpegpfmaekaa
namespace Go.Proofs.Ytfjnpegpfmaekaa
open Go.RowKit

section
variable {w wr : World} {g : Nat} {s : St} {n : Int} {dt tv bv : Value} {blk : List UInt8}
end
section
variable {P : Program} {ops : Array Oper} {rest : List Oper} {o : Oper} {a : Act} {w : World} {Q : Exit → Act → World → Prop}
/-- A whole array, stored into the cells of a greater variable. -/
theorem wpList_store_sub (hgd : o.guard = none) (ty : TypeId) (x y : Operand) (ho : o.op = .store ty x y)
    (g off : Nat) (cells : Array Value) (hx : a.eval x = .pointer (some ⟨g, off, none⟩)) (hy : a.eval y = .agg cells)
    (t : TypeId) (cur new : Array Value) (hg : w.heap[g]? = some (.cells cur t (0, 0))) (hi : (P.info? ty).map (·.size) = some cells.size)
    (hfit : off + cells.size ≤ cur.size) (h1 : cells.all (·.oneCell') = true) (hn : (cur.toList.take off ++ cells.toList ++ cur.toList.drop (off + cells.size)).toArray = new)
    (h : wpList P ops Q rest (a.put o.dst undef) (w.setRow g new)) : wpList P ops Q (o :: rest) a w :=
  wpList_plain hgd fun K hK => by
    have hst := run_storeCells_at P g off t cells.toList 0 cur w hg (by simpa using hfit) (fun v hv => (Array.all_eq_true_iff_forall_mem.1 h1) v (by simpa using hv))
    have hsv : (storeVar ty ⟨g, off, none⟩ (.agg cells)).run P w = .ok () (w.setRow g new) := by
      cases hq : P.info? ty with
      | none => simp [hq] at hi
      | some i =>
        have hs : cells.size = i.size := by simp [hq] at hi; omega
        rw [← hn]
        simpa [storeVar, sizeOf, typeInfo, hq, Value.cells, hs] using hst
    unfold Oper.wp execOp
    simp only [ho, hx, hy, Instr.storeAt, Instr.sureAddr, Sem.run_bind, Sem.run_pure, Result.andThen_ok, hsv]
    exact hK _ _ h
end
end Go.Proofs.Ytfjnpegpfmaekaa
