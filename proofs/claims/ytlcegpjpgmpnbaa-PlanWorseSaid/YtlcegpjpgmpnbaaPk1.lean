/- Contracts of the small functions of package ascii and of its reference: one byte, and loops over the bytes of a string. Slices of strings in memory: one that is read, one that the call appends to, one that is kept beside it. Opening arguments: a byte, a slice of bytes. A region that draws its order, whose operations all leave the world in a class, but for the last one, which waits for all of them. A region that draws its order, by what each operation leaves: one fact an operation, whatever the order. Appending a slice of bytes that came in to a slice of the call's own; the law HashWrite at open arguments; what the bound on the arguments gives. More of a region's single operations: comparisons, lengths, slices of slices that are built. A region that draws its order and stores once, by what each operation leaves. SHA-256 in plain words, over words of 32 bits; how the arithmetic of the translated code is spelt at them. Fields: Valid of package field and of its reference; a field's line. Values, Without and Has of package field. A region that draws its order, in phases: between its breaking operations the others come in whatever order. Parse of the reference. The source of numbers of the laws: Within, Next, Of. Contracts of Add, of package number and of its reference. Plans: mathematics, and the reference's check of one. Plans: the reference's weight of a stage and verdict on a window; variables of small structs. A slice of bytes of the call's own, beside other memory: what an append leaves alone. Queues: New, Valid, Room; the reference's. The fields that the laws make: Field, Fields, fields, name. fields, name and awake of the laws; Short. Windows: the reference's functions of a window. Own slices of inputs and of numbers. Rollouts: the reference's Command, Observe, Weight. The source of the laws: inputs of a rollout. The source of the laws: lists of inputs of a rollout; plans. -/
import Derived.Test.YtlcegpjpgmpnbaaRows
import Derived.WalkKit
import Derived.WalkSpells
import Derived.WalkLawsBesides
import Derived.BigQuiet
import Derived.Deep.QuietTactic
import Derived.Lib.Bytealg
import Derived.Lib.IndexLaws
import Derived.Lib.Hide
import Derived.Deep.AppendLies
import Derived.ProofKit
import Derived.OpenShut
import Derived.Laws.IdiomStrings
import Derived.Lib.Strings
import Derived.Deep.Quiet
import Derived.Tactics
import Derived.KernelRfl
import Derived.Below
import Derived.Laws.Bits64
import Derived.SliceStrings
import Derived.Lib.SlBytesConst
import Derived.Maps.AppendAt
import Derived.Laws.AppendOwnNone
import Derived.Great.BuildSlice
import Derived.Laws.Rows
import Derived.Laws.BitsAllLaws
import Derived.Laws.Shifts
import Derived.Lib.SlTrimSet
import Derived.Lib.IndexBytes
import Derived.Lib.Split
import Derived.Shelf.LaysM
import Derived.Test.YtlcegpjpgmpnbaaProg
import Derived.Shelf.Strings.SlTrimAscii
import Derived.Lib.SplitLaws
import Derived.Shelf.Strings.SplitShaped
import Derived.WalkSmall
import Derived.Maps.OwnOps
import Derived.Maps.OwnSet
import Derived.Deep.SlicePairs
import Derived.Lib.AppendZerosOnto
import Derived.Lib.AppendStr
import Derived.Laws.CopyOwn
import Derived.OwnWalk
import Derived.Laws.Strings3
import Derived.Laws.Concat
import Derived.Lib.ItoaMem
import Derived.Deep.DeepCutAuto
import Derived.Deep.CutBlock
import Derived.Laws.Tables
import Derived.Deep.Matrix
import Derived.IntWalk
import Derived.Laws.RangeAny
import Derived.Sort.Grow
import Derived.Lib.LaidTab
import Derived.LaidSub
import Derived.Laws.Bits64b
import Derived.Deep.WholeRow
import Derived.StillTailTactics
import Derived.Lib.ConvBytes
namespace Go.Proofs.Ytlcegpjpgmpnbaa
open Go.RowKit

theorem ret_int {k : IntKind} {a b : Int} (h : a = b) : Ending.returned (.int k a) = .returned (.int k b) := by rw [h]
end Go.Proofs.Ytlcegpjpgmpnbaa
namespace Go.Proofs.Ytlcegpjpgmpnbaa
open Go.RowKit

theorem lt_cell {w : World} {a : Addr} {v : Value} (h : w.cell? a = some v) : a.block < w.heap.size := by
  rcases Nat.lt_or_ge a.block w.heap.size with h' | h'
  · exact h'
  · simp [World.cell?, Array.getElem?_eq_none h'] at h
theorem below_trans {w w1 w2 : World} (h : Below w.heap.size w w1) (k : Below w1.heap.size w1 w2) : Below w.heap.size w w2 := h.trans (k.mono h.size)
theorem below_cell {w w' : World} (h : Below w.heap.size w w') {a : Addr} {v : Value} (hc : w.cell? a = some v) : w'.cell? a = some v := by
  rw [h.cell (lt_cell hc)]; exact hc

section
variable {ops : Array Oper} {rest : List Oper} {o : Oper} {act : Act} {Q : Exit → Act → World → Prop}
end
end Go.Proofs.Ytlcegpjpgmpnbaa
namespace Go.Proofs.Ytlcegpjpgmpnbaa
open Go.ChangeShapes Go.WideShapes Go.ChangeAt Go.RowKit

/-- The slice at a reads as the bytes l. -/
def IsBytes (w : World) (a : Option Addr) (l : List UInt8) (cap : Nat) : Prop :=
  (a = none ∧ l = [] ∧ cap = 0) ∨ ∃ x, a = some x ∧ l.length ≤ cap ∧ cap ≤ maxLen ∧ ∀ j (hj : j < l.length), w.cell? (x.add j) = some (.int .u8 (l[j].toNat : Int))

end Go.Proofs.Ytlcegpjpgmpnbaa
namespace Go.Proofs.Ytlcegpjpgmpnbaa

section
variable {P : Program} {md : Region.Mode} {C : World → Prop} {l : List Oper} {o : Oper}

end

section
variable {P : Program} {md : Region.Mode} {ops : Array Oper} {Q : Exit → Act → World → Prop}
theorem count_set : ∀ (l : List Bool) (i : Nat), i < l.length → l.getD i true = false → (l.set i true).countP (!·) + 1 = l.countP (!·)
  | b :: l, 0, _, h => by
    have : b = false := h
    subst this
    simp
  | b :: l, i + 1, hi, h => by
    have := count_set l i (by simpa using hi) (by simpa using h)
    rw [List.set_cons_succ, List.countP_cons, List.countP_cons]
    omega
/-- AN INVARIANT OVER THE MARKS: whatever may come up keeps it; where nothing may come up it gives what is asked. -/
theorem wpAny_inv (J : Array Bool → Act → World → Prop) (hstep : ∀ m a w, m.size = ops.size → J m a w → ∀ i, i ∈ Region.ready md ops m → wpOp P ops Q i (J (m.setIfInBounds i true)) a w)
    (hdone : ∀ m a w, m.size = ops.size → J m a w → Region.ready md ops m = [] → Q .normal a w) :
    ∀ (f : Nat) (m : Array Bool) (a : Act) (w : World), m.size = ops.size → m.toList.countP (!·) ≤ f → J m a w → wpAny P md ops Q f m a w
  | 0, m, a, w, hs, hc, hJ => by
    have hr : Region.ready md ops m = [] := by
      rw [List.eq_nil_iff_forall_not_mem]
      intro i hi
      obtain ⟨h1, x, hx, _⟩ := mem_ready.1 hi
      have hlt : i < m.size := by rw [hs]; exact (Array.getElem?_eq_some_iff.1 hx).1
      have h2 : m.toList.getD i true = false := by simpa [List.getD_eq_getElem?_getD, hlt] using h1
      have := count_set m.toList i (by simpa using hlt) h2
      omega
    exact ⟨hr, hdone m a w hs hJ hr⟩
  | f + 1, m, a, w, hs, hc, hJ => by
    refine ⟨fun hr => hdone m a w hs hJ hr, fun i hi => ?_⟩
    refine wpOp_mono (fun a' w' hJ' => wpAny_inv J hstep hdone f _ a' w' (by simpa using hs) ?_ hJ') (hstep m a w hs hJ i hi)
    obtain ⟨h1, x, hx, _⟩ := mem_ready.1 hi
    have hlt : i < m.size := by rw [hs]; exact (Array.getElem?_eq_some_iff.1 hx).1
    have h2 : m.toList.getD i true = false := by simpa [List.getD_eq_getElem?_getD, hlt] using h1
    have := count_set m.toList i (by simpa using hlt) h2
    rw [Array.toList_setIfInBounds]
    omega
theorem wp_region_inv {id : Nat} {a : Act} {w : World} (hm : P.follows .mixedOrders = true) (J : Array Bool → Act → World → Prop)
    (hstep : ∀ m a w, m.size = ops.size → J m a w → ∀ i, i ∈ Region.ready .any ops m → wpOp P ops Q i (J (m.setIfInBounds i true)) a w)
    (hdone : ∀ m a w, m.size = ops.size → J m a w → Region.ready .any ops m = [] → Q .normal a w) (h0 : J (Array.replicate ops.size false) a { w with drawn := w.drawn + 1 }) : (Code.region id ops true).wp P Q a w := by
  refine wp_region_any hm (wpAny_inv J hstep hdone _ _ _ _ (by simp) ?_ h0)
  have := List.countP_le_length (p := (!·)) (l := (Array.replicate ops.size false).toList)
  simpa using this
end
end Go.Proofs.Ytlcegpjpgmpnbaa
namespace Go.Proofs.Ytlcegpjpgmpnbaa
open Go.RowKit

/-- What an operation leaves in its slot; whatever comes later keeps it. -/
structure Spec where
  p : Value → World → Prop
  mono : ∀ v w w', p v w → Below w.heap.size w w' → p v w'
def Spec.val (v : Value) : Spec := ⟨fun x _ => x = v, fun _ _ _ h _ => h⟩
def Spec.any : Spec := ⟨fun _ _ => True, fun _ _ _ h _ => h⟩

def Holds (ops : Array Oper) (S : List Spec) (a : Act) (w : World) (j : Nat) : Prop :=
  match ops[j]?, S[j]? with
  | some o, some s => (match o.dst with | some d => s.p (a.eval (.tmp d)) w | none => True)
  | _, _ => True
def isDst (ops : Array Oper) (k : Nat) : Bool := ops.toList.any fun o => o.dst == some k
def waitsFor (o : Oper) (j : Nat) : Bool := o.after.toList.any fun e => Region.binds .any e && e.on == j
/-- The slots are different ones, and within the frame. -/
def dstsOk (ops : Array Oper) (n : Nat) : Bool :=
  (List.range ops.size).all fun i => match (ops[i]?).bind (·.dst) with
    | some d => decide (d < n) && (List.range ops.size).all fun j => decide (i = j) || !((ops[j]?).bind (·.dst) == some d)
    | none => true
/-- The frame on the way: but for the operations' own slots it is the one before. -/
structure Fr (ops : Array Oper) (a0 a : Act) : Prop where
  defers : a.defers = a0.defers
  size : a.tmps.size = a0.tmps.size
  base : ∀ k, isDst ops k = false → a.eval (.tmp k) = a0.eval (.tmp k)
/-- One operation by itself. -/
def StepOK (P : Program) (Q : Exit → Act → World → Prop) (ops : Array Oper) (S : List Spec) (a0 : Act) (w0 : World) (o : Oper) (s : Spec) : Prop :=
  ∀ a w, Below w0.heap.size w0 w → Fr ops a0 a → (∀ j, waitsFor o j = true → Holds ops S a w j) →
    Region.wanted o (yielded ops a.tmps) = true ∧ o.wp P a w (fun a' w' => ∃ v, a' = a.put o.dst v ∧ Below w.heap.size w w' ∧ s.p v w') Q
def StepsOK (P : Program) (Q : Exit → Act → World → Prop) (ops : Array Oper) (S : List Spec) (a0 : Act) (w0 : World) : List Oper → List Spec → Prop
  | o :: os, s :: ss => StepOK P Q ops S a0 w0 o s ∧ StepsOK P Q ops S a0 w0 os ss
  | [], [] => True
  | _, _ => False

section
variable {P : Program} {Q : Exit → Act → World → Prop} {ops : Array Oper} {S : List Spec} {a0 : Act} {w0 : World}
theorem stepsOK_at : ∀ {os : List Oper} {ss : List Spec}, StepsOK P Q ops S a0 w0 os ss → ∀ (i : Nat) (o : Oper), os[i]? = some o → ∃ s, ss[i]? = some s ∧ StepOK P Q ops S a0 w0 o s
  | o :: os, s :: ss, h, 0, _, rfl => ⟨s, rfl, h.1⟩
  | o :: os, s :: ss, h, i + 1, o', ho => stepsOK_at h.2 i o' ho
  | [], _, _, i, _, ho => by simp at ho
theorem eval_put_same {a : Act} {d : Nat} {v : Value} (h : d < a.tmps.size) : (a.put (some d) v).eval (.tmp d) = v := by
  simp [Act.put, Act.eval, h]
theorem eval_put_other {a : Act} {d : Option Tmp} {k : Nat} {v : Value} (h : d ≠ some k) : (a.put d v).eval (.tmp k) = a.eval (.tmp k) := by
  cases d with
  | none => rfl
  | some d =>
    have hne : d ≠ k := fun e => h (by rw [e])
    simp [Act.put, Act.eval, Array.getElem?_setIfInBounds_ne hne]
theorem dsts_lt {n : Nat} (h : dstsOk ops n = true) {i : Nat} {o : Oper} {d : Nat} (ho : ops[i]? = some o) (hd : o.dst = some d) : d < n ∧ ∀ j o', ops[j]? = some o' → j ≠ i → o'.dst ≠ some d := by
  have hi : i < ops.size := (Array.getElem?_eq_some_iff.1 ho).1
  have h1 := List.all_eq_true.1 h i (List.mem_range.2 hi)
  rw [ho] at h1
  simp only [Option.bind_some, hd, Bool.and_eq_true, decide_eq_true_eq] at h1
  refine ⟨h1.1, fun j o' ho' hji hd' => ?_⟩
  have hj : j < ops.size := (Array.getElem?_eq_some_iff.1 ho').1
  have h2 := List.all_eq_true.1 h1.2 j (List.mem_range.2 hj)
  rw [ho'] at h2
  simp [hd'] at h2
  exact hji h2.symm
theorem holds_mono {a : Act} {w w' : World} {j : Nat} (h : Holds ops S a w j) (hb : Below w.heap.size w w') : Holds ops S a w' j := by
  unfold Holds at *
  split
  · rename_i o s ho hs
    rw [ho, hs] at h
    cases hd : o.dst with
    | none => trivial
    | some d => simp only [hd] at h; exact s.mono _ _ _ h hb
  · trivial
theorem wp_region_local {id : Nat} (S : List Spec) (hm : P.follows .mixedOrders = true) (hB : (List.range ops.size).all (fun i => match ops[i]? with | some x => x.after.all (fun e => decide (e.on < i)) | none => true) = true)
    (hd : dstsOk ops a0.tmps.size = true) (h : StepsOK P Q ops S a0 w0 ops.toList S)
    (hQ : ∀ a w, Below w0.heap.size w0 w → Fr ops a0 a → (∀ j, j < ops.size → Holds ops S a w j) → Q .normal a w) : (Code.region id ops true).wp P Q a0 w0 := by
  refine wp_region_inv hm (fun m a w => Below w0.heap.size w0 w ∧ Fr ops a0 a ∧ ∀ j, m.getD j false = true → Holds ops S a w j) ?_ ?_ ?_
  · rintro m a w hs ⟨hb, hf, hh⟩ i hi
    obtain ⟨h1, o, ho, hall⟩ := mem_ready.1 hi
    have hil : i < ops.size := (Array.getElem?_eq_some_iff.1 ho).1
    obtain ⟨s, hsi, hstep⟩ := stepsOK_at h i o (by simpa using ho)
    obtain ⟨hw, hwp⟩ := hstep a w hb hf fun j hj => by
      obtain ⟨e, he, h2⟩ := List.any_eq_true.1 hj
      simp only [Bool.and_eq_true, beq_iff_eq] at h2
      obtain ⟨h3, rfl⟩ := h2
      exact hh _ (hall e (Array.mem_toList_iff.1 he) h3)
    unfold wpOp
    simp only [ho]
    rw [if_pos hw]
    refine .inl (Oper.wp_mono ?_ hwp)
    rintro a' w' ⟨v, rfl, hb', hsp⟩
    refine ⟨hb.trans (hb'.mono hb.size), ⟨?_, ?_, fun k hk => ?_⟩, fun j hj => ?_⟩
    · have := hf.defers
      cases o.dst <;> simpa [Act.put] using this
    · have := hf.size
      cases o.dst <;> simpa [Act.put] using this
    · rw [eval_put_other, hf.base k hk]
      intro hk2
      have : isDst ops k = true := by
        unfold isDst
        exact List.any_eq_true.2 ⟨o, Array.mem_toList_iff.2 (Array.mem_of_getElem? ho), by rw [hk2]; simp⟩
      rw [hk] at this; cases this
    · by_cases hji : j = i
      · subst hji
        unfold Holds
        simp only [ho, hsi]
        cases hdo : o.dst with
        | none => trivial
        | some d =>
          show s.p ((a.put (some d) v).eval (.tmp d)) w'
          rw [eval_put_same]
          · exact hsp
          · rw [hf.size]; exact (dsts_lt hd ho hdo).1
      · have hj' : m.getD j false = true := by rw [getD_set_ne false (fun e => hji e.symm)] at hj; exact hj
        have h5 := holds_mono (hh j hj') hb'
        unfold Holds at *
        cases hoj : ops[j]? with
        | none => simp
        | some o' =>
          cases hsj : S[j]? with
          | none => simp
          | some s' =>
            simp only [hoj, hsj] at h5 ⊢
            cases hdo : o'.dst with
            | none => trivial
            | some d =>
              simp only [hdo] at h5 ⊢
              show s'.p ((a.put o.dst v).eval (.tmp d)) w'
              rw [eval_put_other]
              · exact h5
              · intro e
                exact (dsts_lt hd ho e).2 j o' hoj hji hdo
  · rintro m a w hs ⟨hb, hf, hh⟩ hr
    refine hQ a w hb hf fun j hj => hh j ?_
    induction j using Nat.strongRecOn with
    | _ j ih =>
      cases hmj : m.getD j false with
      | true => rfl
      | false =>
        exfalso
        have hoj : ops[j]? = some ops[j] := Array.getElem?_eq_getElem hj
        have hbk := List.all_eq_true.1 hB j (List.mem_range.2 hj)
        rw [hoj] at hbk
        simp only [Array.all_eq_true_iff_forall_mem, decide_eq_true_eq] at hbk
        have : j ∈ Region.ready .any ops m := mem_ready.2 ⟨by
          have hs' : j < m.size := by rw [hs]; exact hj
          simp [hs'] at hmj ⊢; exact hmj, ops[j], hoj, fun e he _ => ih _ (hbk e he) (by have := hbk e he; omega)⟩
        rw [hr] at this; cases this
  · refine ⟨(Below.refl _ _).drew, ⟨rfl, rfl, fun _ _ => rfl⟩, fun j hj => ?_⟩
    exfalso
    simp only [Array.getD_eq_getD_getElem?, Array.getElem?_replicate] at hj
    split at hj <;> simp at hj
end

/-- The frame, written out. -/
theorem act_eq {a a0 : Act} {n : Nat} (h : a.tmps.size = n) (hd : a.defers = a0.defers) : a = ⟨((List.range n).map fun k => a.eval (.tmp k)).toArray, a0.defers⟩ := by
  obtain ⟨t, d⟩ := a
  simp only at h hd
  subst h hd
  congr 1
  apply Array.ext
  · simp
  · intro i h1 h2
    simp [Act.eval, Array.getElem?_eq_getElem h1]

section
variable {P : Program} {Q : Exit → Act → World → Prop} {ops : Array Oper} {S : List Spec} {a : Act} {w : World} {o : Oper} {s : Spec}
theorem wanted_none (h : o.guard = none) : Region.wanted o (yielded ops a.tmps) = true := by unfold Region.wanted; rw [h]
theorem wanted_true {j d : Nat} (h : o.guard = some (j, true)) (hd : (ops[j]?).bind (·.dst) = some d) (hv : a.eval (.tmp d) = .bool true) : Region.wanted o (yielded ops a.tmps) = true := by
  have e : a.tmps[d]? = some (.bool true) := by
    unfold Act.eval at hv
    simp only [Array.getD_eq_getD_getElem?] at hv
    cases hq : a.tmps[d]? with
    | none => rw [hq] at hv; cases hv
    | some x => rw [hq] at hv; simp at hv; rw [hv]
  unfold Region.wanted yielded
  rw [h]
  simp [hd, e]
theorem loc_run {v : Value} {w' : World} (h : (execOp a.eval o).run P w = .ok (.value v) w') (hb : Below w.heap.size w w') (hs : s.p v w') : o.wp P a w (fun a' w' => ∃ v, a' = a.put o.dst v ∧ Below w.heap.size w w' ∧ s.p v w') Q := by
  unfold Oper.wp
  rw [h]
  exact ⟨v, rfl, hb, hs⟩
theorem loc_move {x : Operand} (ho : o.op = .move x) (hs : s.p (a.eval x) w) : o.wp P a w (fun a' w' => ∃ v, a' = a.put o.dst v ∧ Below w.heap.size w w' ∧ s.p v w') Q :=
  loc_run (by unfold execOp; rw [ho]; rfl) (Below.refl _ _) hs
theorem loc_assign {x : Operand} (ho : o.op = .assign x) (hs : s.p (a.eval x) w) : o.wp P a w (fun a' w' => ∃ v, a' = a.put o.dst v ∧ Below w.heap.size w w' ∧ s.p v w') Q :=
  loc_run (by unfold execOp; rw [ho]; rfl) (Below.refl _ _) hs
theorem loc_pick {c x y : Operand} (ho : o.op = .pick c x y) (hc : a.eval c = .bool true) (hs : s.p (a.eval x) w) : o.wp P a w (fun a' w' => ∃ v, a' = a.put o.dst v ∧ Below w.heap.size w w' ∧ s.p v w') Q :=
  loc_run (by unfold execOp; rw [ho]; simp only [hc]; rfl) (Below.refl _ _) hs
theorem loc_load {x : Operand} {t : TypeId} (ho : o.op = .load t x) {v : Value} (h : (Instr.loadAt t (a.eval x)).run P w = .ok v w) (hs : s.p v w) : o.wp P a w (fun a' w' => ∃ v, a' = a.put o.dst v ∧ Below w.heap.size w w' ∧ s.p v w') Q :=
  loc_run (v := v) (by unfold execOp; rw [ho]; simp only [Sem.run_bind, h, Result.andThen_ok, Sem.run_pure]) (Below.refl _ _) hs
theorem loc_call {f : FuncId} {args : List Operand} {ts : Array TypeId} (ho : o.op = .call { callee := .value (.func f), args := args.toArray, argTypes := ts })
    (hf : (P.funcs[f]?).map (fun fn => fn.name != "runtime.NumGoroutine" && fn.body.isSome) = some true) (h : Calls P f (args.map a.eval).toArray w fun e w' => ∃ v, e = .returned v ∧ Below w.heap.size w w' ∧ s.p v w') : o.wp P a w (fun a' w' => ∃ v, a' = a.put o.dst v ∧ Below w.heap.size w w' ∧ s.p v w') Q := by
  have hrun : (execOp a.eval o).run P w = .ok (.enter f (args.map a.eval).toArray) w := by
    unfold execOp; rw [ho]
    cases hfn : P.funcs[f]? with
    | none => rw [hfn] at hf; cases hf
    | some fn =>
      rw [hfn] at hf
      simp only [Option.map_some, Option.some.injEq, Bool.and_eq_true, bne_iff_ne, ne_eq] at hf
      have hb : fn.body ≠ none := fun e => by rw [e] at hf; exact absurd hf.2 (by simp)
      simp [resolve, Deferred.ofValue, invoke, callFunc, show a.eval (.func f) = .func (.func f) #[] #[] from rfl, hfn, hf.1, hb]
  unfold Oper.wp
  rw [hrun, Oper.upon_enter]
  refine h.mono ?_
  rintro e w' ⟨v, rfl, hb, hs⟩
  exact ⟨v, rfl, hb, hs⟩
end
section
variable {P : Program} {ops : Array Oper} {Q : Exit → Act → World → Prop} {a : Act} {w : World} {rest : List Oper}
theorem local_ret {fn : Func} {R : Ending → World → Prop} {t : Tmp} {v : Value} (h : fn.results = #[.tmp t]) (hd : a.defers = []) (hv : a.eval (.tmp t) = v) (hR : R (.returned v) w) : bodyPost P fn R .ret a w :=
  bodyPost_ret (results_tmp h _ _ _) hd (by rw [show a.tmps.getD t undef = v from hv]; exact hR)
end
end Go.Proofs.Ytlcegpjpgmpnbaa
namespace Go.Proofs.Ytlcegpjpgmpnbaa
open Go.ChangeShapes Go.WideShapes Go.ChangeAt Go.RowKit

theorem IsBytes.keep {w w' : World} {a : Option Addr} {l : List UInt8} {cap : Nat} (h : IsBytes w a l cap) (hb : Below w.heap.size w w') : IsBytes w' a l cap := by
  rcases h with h | ⟨x, h1, h2, h3, h4⟩
  · exact .inl h
  · exact .inr ⟨x, h1, h2, h3, fun j hj => below_cell hb (h4 j hj)⟩

section
variable {ops : Array Oper} {rest : List Oper} {o : Oper} {act : Act} {Q : Exit → Act → World → Prop}
end

end Go.Proofs.Ytlcegpjpgmpnbaa
namespace Go.Proofs.Ytlcegpjpgmpnbaa
open Go.RowKit

def BytesV (w : World) (v : Value) (l : List UInt8) : Prop := ∃ a c, v = .slice a l.length c ∧ IsBytes w a l c
theorem BytesV.keep {w w' : World} {v : Value} {l : List UInt8} (h : BytesV w v l) (hb : Below w.heap.size w w') : BytesV w' v l := by
  obtain ⟨a, c, h1, h2⟩ := h
  exact ⟨a, c, h1, h2.keep hb⟩
def Spec.bytes (l : List UInt8) : Spec := ⟨fun v w => BytesV w v l, fun _ _ _ h hb => h.keep hb⟩

section
variable {Q : Exit → Act → World → Prop} {a : Act} {w : World} {o : Oper} {s : Spec}
theorem loc_eql_int {x y : Operand} {t : TypeId} (ho : o.op = .binOp .eql 3 x y t) {n : Int} (hx : a.eval x = .int .i64 n) (hy : a.eval y = .int .i64 n) (hs : s.p (.bool true) w) :
    o.wp Try.prog a w (fun a' w' => ∃ v, a' = a.put o.dst v ∧ Below w.heap.size w w' ∧ s.p v w') Q :=
  loc_run (v := .bool true) (by
    unfold execOp
    simp [ho, hx, hy, eqGuard, binOp, Op.intCmp]) (Below.refl _ _) hs
end
end Go.Proofs.Ytlcegpjpgmpnbaa
namespace Go.Proofs.Ytlcegpjpgmpnbaa
open Go.RowKit

/-- .. with what stays known of the value alone. -/
structure SpecQ extends Spec where
  q : Value → Prop
  weak : ∀ v w, p v w → q v
def SpecQ.val (v : Value) : SpecQ := ⟨.val v, fun x => x = v, fun _ _ h => h⟩
section
variable {P : Program} {Q : Exit → Act → World → Prop} {ops : Array Oper} {S : List (Option SpecQ)} {a0 : Act} {w0 : World}
end

section
variable {P : Program} {Q : Exit → Act → World → Prop} {ops : Array Oper} {a : Act} {w : World} {o : Oper} {s : SpecQ}
end
end Go.Proofs.Ytlcegpjpgmpnbaa
namespace Go.Proofs.Ytlcegpjpgmpnbaa

/-- A fact that no tactic looks into (Hid is a definition, which some unfold). -/
structure Box (p : Prop) : Prop where
  out : p
/-- A word as an integer: of its bounds nothing is to be seen. -/
def vU (x : UInt32) : Int := (x.toNat : Int)
def vW (x : UInt32) : Value := .int .u32 (vU x)
structure St where
  (a b c d e f g h : UInt32)
def St.cells (s : St) : Array Value := #[vW s.a, vW s.b, vW s.c, vW s.d, vW s.e, vW s.f, vW s.g, vW s.h]
def kk : List UInt32 := [1116352408, 1899447441, 3049323471, 3921009573, 961987163, 1508970993, 2453635748, 2870763221, 3624381080, 310598401, 607225278, 1426881987, 1925078388, 2162078206, 2614888103, 3248222580, 3835390401, 4022224774, 264347078, 604807628, 770255983, 1249150122, 1555081692, 1996064986, 2554220882, 2821834349, 2952996808, 3210313671, 3336571891, 3584528711, 113926993, 338241895, 666307205, 773529912, 1294757372, 1396182291, 1695183700, 1986661051, 2177026350, 2456956037, 2730485921, 2820302411, 3259730800, 3345764771, 3516065817, 3600352804, 4094571909, 275423344, 430227734, 506948616, 659060556, 883997877, 958139571, 1322822218, 1537002063, 1747873779, 1955562222, 2024104815, 2227730452, 2361852424, 2428436474, 2756734187, 3204031479, 3329325298]
def St.add (s t : St) : St := ⟨s.a + t.a, s.b + t.b, s.c + t.c, s.d + t.d, s.e + t.e, s.f + t.f, s.g + t.g, s.h + t.h⟩

/-- Four bytes as a word, the first one the greatest. -/
def w4 (l : List UInt8) : UInt32 := l.foldl (fun x c => (x <<< 8) ||| c.toUInt32) 0
end Go.Proofs.Ytlcegpjpgmpnbaa
namespace Go.Proofs.Ytlcegpjpgmpnbaa
open Go.RowKit

theorem below_oneF (w : World) (o : Obj) : Below w.heap.size w (w.alloc o) := (Below.refl _ _).alloc (Nat.le_refl _) _
end Go.Proofs.Ytlcegpjpgmpnbaa
namespace Go.Proofs.Ytlcegpjpgmpnbaa
open Go.RowKit

theorem below_twoF {w w1 : World} (h : Below w.heap.size w w1) (o : Obj) : Below w.heap.size w (w1.alloc o) := below_trans h (below_oneF w1 o)

section
variable {ops : Array Oper} {rest : List Oper} {o : Oper} {act : Act} {Q : Exit → Act → World → Prop}
end
end Go.Proofs.Ytlcegpjpgmpnbaa
namespace Go.Proofs.Ytlcegpjpgmpnbaa
open Go.RowKit

section
variable {P : Program} {Q : Exit → Act → World → Prop} {ops : Array Oper} {a0 : Act} {w0 : World}
/-- The frame behind a region, out of the frame before it. -/
def putAll (a : Act) : List Oper → Act → Act
  | o :: os, b => putAll a os (match o.dst with | some d => b.put (some d) (a.eval (.tmp d)) | none => b)
  | [], b => b
theorem putAll_size (a : Act) : ∀ (l : List Oper) (b : Act), (putAll a l b).tmps.size = b.tmps.size
  | [], _ => rfl
  | o :: os, b => by
    unfold putAll
    rw [putAll_size a os]
    cases o.dst <;> simp [Act.put]
theorem putAll_defers (a : Act) : ∀ (l : List Oper) (b : Act), (putAll a l b).defers = b.defers
  | [], _ => rfl
  | o :: os, b => by
    unfold putAll
    rw [putAll_defers a os]
    cases o.dst <;> simp [Act.put]
theorem putAll_eval (a : Act) (k : Nat) : ∀ (l : List Oper) (b : Act), b.tmps.size = a.tmps.size → (b.eval (.tmp k) = a.eval (.tmp k) ∨ (l.any fun o => o.dst == some k) = true) → (putAll a l b).eval (.tmp k) = a.eval (.tmp k)
  | [], b, _, h => by
    rcases h with h | h
    · exact h
    · cases h
  | o :: os, b, hs, h => by
    unfold putAll
    refine putAll_eval a k os _ (by cases o.dst <;> simpa [Act.put] using hs) ?_
    cases hd : o.dst with
    | none =>
      rcases h with h | h
      · exact .inl h
      · simp [hd] at h; exact .inr (by simpa using h)
    | some d =>
      by_cases hdk : d = k
      · subst hdk
        by_cases hlt : d < b.tmps.size
        · exact .inl (eval_put_same hlt)
        · left
          have h1 : ¬ d < a.tmps.size := by rw [← hs]; exact hlt
          simp [Act.put, Act.eval, hlt, h1]
      · have e : (b.put (some d) (a.eval (.tmp d))).eval (.tmp k) = b.eval (.tmp k) := eval_put_other fun e => hdk (Option.some.inj e)
        rcases h with h | h
        · exact .inl (e.trans h)
        · simp [hd, hdk] at h; exact .inr (by simpa using h)
theorem fr_putAll {a : Act} (h : Fr ops a0 a) : a = putAll a ops.toList a0 := by
  have h1 := putAll_size a ops.toList a0
  have h2 := putAll_defers a ops.toList a0
  have h3 : ∀ k, (putAll a ops.toList a0).eval (.tmp k) = a.eval (.tmp k) := fun k => putAll_eval a k _ _ h.size.symm (by
    cases hk : isDst ops k with
    | true => exact .inr hk
    | false => exact .inl (h.base k hk).symm)
  generalize putAll a ops.toList a0 = p at *
  rw [act_eq (a := a) (a0 := a0) h.size h.defers, act_eq (a := p) (a0 := a0) h1 h2]
  congr 2
  exact List.map_congr_left fun k _ => (h3 k).symm
end
end Go.Proofs.Ytlcegpjpgmpnbaa
namespace Go.Proofs.Ytlcegpjpgmpnbaa
open Go.RowKit

section
variable {Q : Exit → Act → World → Prop} {a : Act} {w : World} {o : Oper} {s : Spec}
theorem loc_addF {x y : Operand} {t : TypeId} (ho : o.op = .binOp .add 3 x y t) {m k : Nat} (hx : a.eval x = .int .i64 m) (hy : a.eval y = .int .i64 k) (hn : m + k ≤ 9223372036854775807) (hs : s.p (.int .i64 ((m + k : Nat) : Int)) w) :
    o.wp Try.prog a w (fun a' w' => ∃ v, a' = a.put o.dst v ∧ Below w.heap.size w w' ∧ s.p v w') Q :=
  loc_run (v := .int .i64 ((m + k : Nat) : Int)) (by
    have e : IntKind.i64.wrap ((m : Int) + k) = ((m + k : Nat) : Int) := by
      simp only [IntKind.wrap, IntKind.bits, IntKind.signed]; simp; omega
    have h : (Op.intArith .add .i64 (m : Int) (k : Int)).run Try.prog w = .ok (.int .i64 ((m + k : Nat) : Int)) w := by
      unfold Op.intArith
      rw [← e]; rfl
    unfold execOp
    simp only [ho, hx, hy]
    simp [eqGuard, binOp, h, Result.andThen]) (Below.refl _ _) hs
end

end Go.Proofs.Ytlcegpjpgmpnbaa
namespace Go.Proofs.Ytlcegpjpgmpnbaa
open Go.RowKit

def IntsF (w : World) (a : Option Addr) (n : Nat) : Prop :=
  ∀ j, j < n → ∃ x z, a = some x ∧ w.cell? (x.add j) = some (.int .i64 z) ∧ -9223372036854775808 ≤ z ∧ z ≤ 9223372036854775807
theorem IntsF.keep {w w' : World} {a : Option Addr} {n : Nat} (h : IntsF w a n) (hb : Below w.heap.size w w') : IntsF w' a n := fun j hj => by
  obtain ⟨x, z, e, h1, h2⟩ := h j hj
  exact ⟨x, z, e, below_cell hb h1, h2⟩
/-- Block g is the source's variable: its numbers are the n at a, which lie elsewhere. -/
def Src (w : World) (g : Nat) (a : Option Addr) (n c : Nat) : Prop :=
  (∃ i : Nat, i ≤ n ∧ w.heap[g]? = some (.cells #[.slice a n c, .int .i64 i] 27 (0, 0))) ∧ n ≤ maxLen ∧ IntsF w a n ∧ ∀ x, a = some x → 0 < n → x.block ≠ g
theorem Src.lt {w : World} {g : Nat} {a : Option Addr} {n c : Nat} (h : Src w g a n c) : g < w.heap.size := by
  obtain ⟨⟨i, _, h⟩, _⟩ := h
  exact (Array.getElem?_eq_some_iff.1 h).1
theorem add_blockF (x : Addr) (j : Nat) : (x.add j).block = x.block := by unfold Addr.add; split <;> rfl
theorem IntsF.grown {w w' : World} {a : Option Addr} {n : Nat} {row : Option Nat} (h : IntsF w a n) (hg : w.grownBy w' row) (hne : ∀ x, a = some x → 0 < n → some x.block ≠ row) : IntsF w' a n := fun j hj => by
  obtain ⟨x, z, e, h1, h2⟩ := h j hj
  refine ⟨x, z, e, ?_, h2⟩
  have hlt := lt_cell h1
  rw [World.cell?_of_block (hg.block _ hlt (by rw [add_blockF]; exact hne x e (by omega)))]
  exact h1
theorem Src.grown {w w' : World} {g : Nat} {a : Option Addr} {n c : Nat} {row : Option Nat} (h : Src w g a n c) (hg : w.grownBy w' row) (hne : some g ≠ row) (hne2 : ∀ x, a = some x → 0 < n → some x.block ≠ row) : Src w' g a n c := by
  have hlt := h.lt
  obtain ⟨⟨i, hi, hr⟩, h2, h3, h4⟩ := h
  exact ⟨⟨i, hi, by rw [hg.block g hlt hne]; exact hr⟩, h2, h3.grown hg hne2, h4⟩
theorem Src.keep {w w' : World} {g : Nat} {a : Option Addr} {n c : Nat} (h : Src w g a n c) (hb : Below w.heap.size w w') : Src w' g a n c := by
  have hlt := h.lt
  obtain ⟨⟨i, hi, hr⟩, h2, h3, h4⟩ := h
  exact ⟨⟨i, hi, by rw [hb.block g hlt]; exact hr⟩, h2, h3.keep hb, h4⟩
theorem grownBy_trans {w w1 w2 : World} {row : Option Nat} (h : w.grownBy w1 row) (k : w1.grownBy w2 row) : w.grownBy w2 row :=
  ⟨k.os.trans h.os, k.tape.trans h.tape, k.output.trans h.output, Nat.le_trans h.size k.size, fun i hi hne => (k.block i (Nat.lt_of_lt_of_le hi h.size) hne).trans (h.block i hi hne)⟩
theorem grownBy_below {w w1 : World} {row : Option Nat} (h : Below w.heap.size w w1) : w.grownBy w1 row :=
  ⟨h.os, h.tape, h.output, h.size, fun i hi _ => h.block i hi⟩
/-- A row that is new is nobody's. -/
theorem grownBy_new {w w1 w2 : World} {row : Option Nat} {q : Option Nat} (h : w.grownBy w1 row) (k : w1.grownBy w2 q) (hq : ∀ i, q = some i → w.heap.size ≤ i) : w.grownBy w2 row :=
  ⟨k.os.trans h.os, k.tape.trans h.tape, k.output.trans h.output, Nat.le_trans h.size k.size, fun i hi hne => (k.block i (Nat.lt_of_lt_of_le hi h.size) (fun e => by have := hq i e.symm; omega)).trans (h.block i hi hne)⟩

def withI (z : Int) (n : Nat) : Int := (wrap64 (z.tmod n + n)).tmod n
theorem withI_range (z : Int) (n : Nat) (h0 : 0 < n) (hn : n ≤ 1000000000) : ∃ k : Nat, k < n ∧ withI z n = (k : Int) := by
  have h1 : z.tmod n < n := Int.tmod_lt_of_pos z (by omega)
  have h2 : -(n : Int) < z.tmod n := Int.lt_tmod_of_pos z (by omega)
  unfold withI
  generalize z.tmod n = y at *
  have e : wrap64 (y + n) = y + n := by simp only [wrap64]; omega
  rw [e, Int.tmod_eq_emod_of_nonneg (by omega)]
  exact ⟨((y + n) % n).toNat, by have := Int.emod_lt_of_pos (y + n) (show (0 : Int) < n by omega); have := Int.emod_nonneg (y + n) (show (n : Int) ≠ 0 by omega); omega, by have := Int.emod_nonneg (y + n) (show (n : Int) ≠ 0 by omega); omega⟩
theorem withinF (z : Int) (n : Nat) (w : World) (h0 : 0 < n) (hn : n ≤ 1000000000) :
    Calls Try.prog 9 #[.int .i64 z, .int .i64 n] w fun e w' => e = .returned (.int .i64 (withI z n)) ∧ w' = w := by
  go_enter Try.func9, Try.ntmps9
  go_wp2
  go_ret
  exact ⟨rfl, rfl⟩

set_option maxRecDepth 100000 in
set_option maxHeartbeats 2000000 in
theorem next_any (g m : Nat) (a : Option Addr) (n c : Nat) (w : World) (h : Src w g a n c) (h0 : 0 < m) (hm : m ≤ 1000000000) :
    Calls Try.prog 16 #[.pointer (some ⟨g, 0, none⟩), .int .i64 m] w fun e w' => ∃ k : Nat, k < m ∧ e = .returned (.int .i64 k) ∧ Src w' g a n c ∧ w.grownBy w' (some g) := by
  have H0 := Box.mk h
  obtain ⟨⟨i, hi, hr⟩, hn, h2, h3⟩ := h
  have HR := Box.mk hr
  have HI := Box.mk h2
  have HA := Box.mk h3
  have HN := Box.mk hn
  have hc0 : w.cell? ⟨g, 0, none⟩ = some (.slice a n c) := by rw [cell_of_row _ _ _ _ _ _ hr]; rfl
  have hc1 : w.cell? ⟨g, 1, none⟩ = some (.int .i64 i) := by rw [cell_of_row _ _ _ _ _ _ hr]; rfl
  unfold maxLen at hn
  clear hr h2 h3
  go_enter Try.func16, Try.ntmps16
  by_cases hlt : i < n
  · obtain ⟨x, z, rfl, hz, z0, z1⟩ := HI.out i hlt
    have hne := HA.out x rfl (by omega)
    have HNE := Box.mk hne
    clear hne
    have hd : decide (n ≤ i) = false := by simp; omega
    have HZ := Box.mk hz
    clear hz
    go_wp2_with fail
    go_quiet (fail)
    clear hd
    obtain ⟨W, hW⟩ : ∃ W, W = w.drewN nq := ⟨_, rfl⟩
    have HRW := Box.mk (show W.heap[g]? = some (.cells #[.slice (some x) n c, .int .i64 i] 27 (0, 0)) by rw [hW]; exact HR.out)
    rw [← hW]
    have hf := frozen_of_row W g 1 _ _ HRW.out
    have hc0 : W.cell? ⟨g, 0, none⟩ = some (.slice (some x) n c) := by rw [cell_of_row _ _ _ _ _ _ HRW.out]; rfl
    have hc1 : W.cell? ⟨g, 1, none⟩ = some (.int .i64 i) := by rw [cell_of_row _ _ _ _ _ _ HRW.out]; rfl
    have HGW := Box.mk (show w.grownBy W (some g) by rw [hW]; exact ⟨rfl, rfl, rfl, Nat.le_refl _, fun _ _ _ => rfl⟩)
    clear hW
    go_wp2_with fail
    obtain ⟨W2, hW2⟩ : ∃ W2, W2 = W.setCell ⟨g, 1, none⟩ (.int .i64 ((i : Int) + 1)) := ⟨_, rfl⟩
    have HR2 := Box.mk (show W2.heap[g]? = some (.cells #[.slice (some x) n c, .int .i64 ((i : Int) + 1)] 27 (0, 0)) by rw [hW2, heap_setCell_same _ _ _ _ _ _ HRW.out]; simp)
    have HG2 := Box.mk (show w.grownBy W2 (some g) from grownBy_trans HGW.out (by
      rw [hW2]
      exact ⟨rfl, rfl, rfl, by simp [World.setCell], fun k _ hne => heap_setCell_other W ⟨g, 1, none⟩ k _ (fun e => hne (by rw [e]))⟩))
    change Code.wp _ _ _ _ (W.setCell ⟨g, 1, none⟩ (.int .i64 ((i : Int) + 1)))
    rw [← hW2]
    clear hW2 hf hc0 hc1 HGW HRW
    have hc0 : W2.cell? ⟨g, 0, none⟩ = some (.slice (some x) n c) := by rw [cell_of_row _ _ _ _ _ _ HR2.out]; rfl
    have hc1 : W2.cell? ⟨g, 1, none⟩ = some (.int .i64 ((i : Int) + 1)) := by rw [cell_of_row _ _ _ _ _ _ HR2.out]; rfl
    have hz2 : W2.cell? (x.add i) = some (.int .i64 z) := by
      rw [World.cell?_of_block (HG2.out.block _ (lt_cell HZ.out) (by rw [add_blockF]; exact fun e => HNE.out (Option.some.inj e)))]
      exact HZ.out
    have HS := Box.mk (show Src W2 g (some x) n c from ⟨⟨i + 1, hlt, HR2.out⟩, HN.out, HI.out.grown HG2.out (fun y e h e2 => HA.out y e h (Option.some.inj e2)), HA.out⟩)
    obtain ⟨k, hk, hwk⟩ := withI_range z m h0 hm
    have HWK := Box.mk hwk
    clear hwk
    go_quiet ((go_at_call 9; exact Calls.quiet_of_same (withinF _ _ _ h0 hm)))
    go_wp2
    go_ret
    exact ⟨k, hk, ret_int HWK.out, HS.out.keep (below_drewN (Below.refl _ _) _), grownBy_trans HG2.out ⟨rfl, rfl, rfl, Nat.le_refl _, fun _ _ _ => rfl⟩⟩
  · have hd : decide (n ≤ i) = true := by simp; omega
    go_wp2_with fail
    go_quiet (fail)
    go_wp2
    go_ret
    exact ⟨0, h0, rfl, H0.out.keep (below_drewN (Below.refl _ _) _), ⟨rfl, rfl, rfl, Nat.le_refl _, fun _ _ _ => rfl⟩⟩

end Go.Proofs.Ytlcegpjpgmpnbaa
namespace Go.Proofs.Ytlcegpjpgmpnbaa
open Go.RowKit

/-- The slice at a reads as the numbers l. -/
def IsInts (w : World) (a : Option Addr) (l : List Int) (cap : Nat) : Prop :=
  (a = none ∧ l = [] ∧ cap = 0) ∨ ∃ x, a = some x ∧ l.length ≤ cap ∧ cap ≤ maxLen ∧ ∀ j (hj : j < l.length), w.cell? (x.add j) = some (.int .i64 l[j]) ∧ -9223372036854775808 ≤ l[j] ∧ l[j] ≤ 9223372036854775807

end Go.Proofs.Ytlcegpjpgmpnbaa
namespace Go.Proofs.Ytlcegpjpgmpnbaa
open Go.RowKit

/-- A plan. -/
structure Pl where
  ws : List Int
  ms : Int
  num : Int
  den : Int
  hold : Int
  win : Int
/-- The first k weights ascend. -/
def ascK (l : List Int) : Nat → Bool
  | 0 => true
  | k + 1 => ascK l k && (decide (1 ≤ l.getD k 0) && decide (l.getD k 0 ≤ 10000) && (decide (k = 0) || decide (l.getD (k - 1) 0 < l.getD k 0)))
theorem ascK_succ (l : List Int) (k : Nat) : ascK l (k + 1) = (ascK l k && (decide (1 ≤ l.getD k 0) && decide (l.getD k 0 ≤ 10000) && (decide (k = 0) || decide (l.getD (k - 1) 0 < l.getD k 0)))) := rfl
def Pl.nums (p : Pl) : Prop := 1 ≤ p.ws.length ∧ p.ws.length ≤ 8 ∧ 1 ≤ p.ms ∧ p.ms ≤ 1000000 ∧ 0 ≤ p.num ∧ p.num ≤ 1000000 ∧ 1 ≤ p.den ∧ p.den ≤ 1000000 ∧ 1 ≤ p.hold ∧ p.hold ≤ 100 ∧ 1 ≤ p.win ∧ p.win ≤ 1000000
instance (p : Pl) : Decidable p.nums := by unfold Pl.nums; infer_instance
def Pl.ok (p : Pl) : Bool := decide p.nums && ascK p.ws p.ws.length
def planE (p : Pl) : Int := if p.ok = true then 0 else 8
def PlV (a : Option Addr) (c : Nat) (p : Pl) : Value := .agg #[.slice a p.ws.length c, .int .i64 p.ms, .int .i64 p.num, .int .i64 p.den, .int .i64 p.hold, .int .i64 p.win]
def PlC (a : Option Addr) (c : Nat) (p : Pl) : Array Value := #[.slice a p.ws.length c, .int .i64 p.ms, .int .i64 p.num, .int .i64 p.den, .int .i64 p.hold, .int .i64 p.win]
theorem nums_cases (p : Pl) : Box (p.nums) ∧ decide ((1 : Int) ≤ p.ws.length) = true ∧ decide ((p.ws.length : Int) ≤ 8) = true ∧ decide (1 ≤ p.ms) = true ∧ decide (p.ms ≤ 1000000) = true ∧ decide (0 ≤ p.num) = true ∧ decide (p.num ≤ 1000000) = true ∧ decide (1 ≤ p.den) = true ∧ decide (p.den ≤ 1000000) = true ∧ decide (1 ≤ p.hold) = true ∧ decide (p.hold ≤ 100) = true ∧ decide (1 ≤ p.win) = true ∧ decide (p.win ≤ 1000000) = true
    ∨ Box (¬ p.nums) ∧ (decide ((1 : Int) ≤ p.ws.length) = false ∨ decide ((1 : Int) ≤ p.ws.length) = true ∧ (decide ((p.ws.length : Int) ≤ 8) = false ∨ decide ((p.ws.length : Int) ≤ 8) = true ∧ (decide (1 ≤ p.ms) = false ∨ decide (1 ≤ p.ms) = true ∧ (decide (p.ms ≤ 1000000) = false ∨ decide (p.ms ≤ 1000000) = true ∧ (decide (0 ≤ p.num) = false ∨ decide (0 ≤ p.num) = true ∧ (decide (p.num ≤ 1000000) = false ∨ decide (p.num ≤ 1000000) = true ∧ (decide (1 ≤ p.den) = false ∨ decide (1 ≤ p.den) = true ∧ (decide (p.den ≤ 1000000) = false ∨ decide (p.den ≤ 1000000) = true ∧ (decide (1 ≤ p.hold) = false ∨ decide (1 ≤ p.hold) = true ∧ (decide (p.hold ≤ 100) = false ∨ decide (p.hold ≤ 100) = true ∧ (decide (1 ≤ p.win) = false ∨ decide (1 ≤ p.win) = true ∧ (decide (p.win ≤ 1000000) = false)))))))))))) := by
  simp only [decide_eq_true_eq, decide_eq_false_iff_not]
  by_cases h : p.nums
  · left
    refine ⟨⟨h⟩, ?_⟩
    unfold Pl.nums at h
    omega
  · right
    refine ⟨⟨h⟩, ?_⟩
    unfold Pl.nums at h
    omega

theorem IsInts.keepP {w w' : World} {a : Option Addr} {l : List Int} {c : Nat} (h : IsInts w a l c) (hb : Below w.heap.size w w') : IsInts w' a l c := by
  rcases h with h | ⟨x, h1, h2, h3, h4⟩
  · exact .inl h
  · exact .inr ⟨x, h1, h2, h3, fun j hj => ⟨below_cell hb (h4 j hj).1, (h4 j hj).2⟩⟩
theorem IsInts.at {w : World} {a : Option Addr} {l : List Int} {c : Nat} (h : IsInts w a l c) {k : Nat} (hlt : k < l.length) : ∃ x, a = some x ∧ ∀ j, j < l.length → w.cell? (x.add j) = some (.int .i64 (l.getD j 0)) := by
  rcases h with ⟨_, h, _⟩ | ⟨x, h, _, _, hh⟩
  · rw [h] at hlt; simp at hlt
  · refine ⟨x, h, fun j hj => ?_⟩
    rw [(hh j hj).1, List.getD_eq_getElem?_getD, List.getElem?_eq_getElem hj]; rfl
set_option maxRecDepth 10000 in
set_option maxHeartbeats 4000000 in
theorem refPlan_any (p : Pl) (a : Option Addr) (c : Nat) (w : World) (h : IsInts w a p.ws c) :
    Calls Try.prog 10 #[PlV a c p] w fun e w' => e = .returned (.int .i64 (planE p)) ∧ Below w.heap.size w w' := by
  have hlen : p.ws.length ≤ 9223372036854775807 := by
    rcases h with ⟨_, e, _⟩ | ⟨x, _, h1, h2, _⟩
    · rw [e]; simp
    · unfold maxLen at h2; omega
  have HI := Box.mk h
  have HN := Box.mk (nums_cases p)
  have HE := Box.mk (show planE p = if p.ok = true then 0 else 8 from rfl)
  have HK := Box.mk (show p.ok = (decide p.nums && ascK p.ws p.ws.length) from rfl)
  clear h
  unfold PlV
  generalize planE p = r at *
  obtain ⟨nb, hnb⟩ : ∃ b, b = decide p.nums := ⟨_, rfl⟩
  have HNB := Box.mk hnb
  rw [← hnb] at HK
  clear hnb
  obtain ⟨W, hW⟩ : ∃ W, W = w.alloc (.cells (PlC a c p) 24 (0, 0)) := ⟨_, rfl⟩
  have HB := Box.mk (show Below w.heap.size w W by rw [hW]; exact below_oneF w _)
  have HI := Box.mk (HI.out.keepP HB.out)
  have c0 : W.cell? ⟨w.heap.size, 0, none⟩ = some (.slice a p.ws.length c) := by rw [hW, World.cell?_alloc_new]; rfl
  have c1 : W.cell? ⟨w.heap.size, 1, none⟩ = some (.int .i64 p.ms) := by rw [hW, World.cell?_alloc_new]; rfl
  have c2 : W.cell? ⟨w.heap.size, 2, none⟩ = some (.int .i64 p.num) := by rw [hW, World.cell?_alloc_new]; rfl
  have c3 : W.cell? ⟨w.heap.size, 3, none⟩ = some (.int .i64 p.den) := by rw [hW, World.cell?_alloc_new]; rfl
  have c4 : W.cell? ⟨w.heap.size, 4, none⟩ = some (.int .i64 p.hold) := by rw [hW, World.cell?_alloc_new]; rfl
  have c5 : W.cell? ⟨w.heap.size, 5, none⟩ = some (.int .i64 p.win) := by rw [hW, World.cell?_alloc_new]; rfl
  go_enter Try.func10, Try.ntmps10
  go_upto_region 1 with fail
  change Code.wp _ _ _ _ (w.alloc (.cells (PlC a c p) 24 (0, 0)))
  rw [← hW]
  clear hW
  have HGB := Box.mk (show ∀ W2, Below W.heap.size W W2 → Below w.heap.size w W2 from fun W2 h => below_trans HB.out h)
  go_cut [3] (fun v wx => v = .bool nb ∧ wx = W)
  case first =>
    have fin : ∀ {b b' : Bool} {wx : World}, wx = W → b' = nb → b = b' → Value.bool b = .bool nb ∧ wx = W := fun e h hb => ⟨by rw [hb, h], e⟩
    rcases HN.out with ⟨hb, h1, h2, h3, h4, h5, h6, h7, h8, h9, h10, h11, h12⟩ | ⟨hb, h1 | ⟨h1, h2 | ⟨h2, h3 | ⟨h3, h4 | ⟨h4, h5 | ⟨h5, h6 | ⟨h6, h7 | ⟨h7, h8 | ⟨h8, h9 | ⟨h9, h10 | ⟨h10, h11 | ⟨h11, h12⟩⟩⟩⟩⟩⟩⟩⟩⟩⟩⟩⟩
    · have HX := Box.mk (HNB.out.trans (decide_eq_true hb.out))
      clear hb HN HK HI
      go_wp2_with fail
      go_meet
      exact fin rfl HX.out.symm rfl
    all_goals
      have HX := Box.mk (HNB.out.trans (decide_eq_false hb.out))
      clear hb HN HK HI
      go_wp2_with fail
      go_meet
      exact fin rfl HX.out.symm rfl
  case rest =>
    obtain ⟨rfl, rfl⟩ := hcut
    have HC0 := Box.mk c0
    clear c0 c1 c2 c3 c4 c5 HN HNB
    go_wp2_with fail
    go_loopw [3, 4] (fun ov iv wr => ∃ (k : Nat) (b : Bool), k ≤ p.ws.length ∧ ov = .bool b ∧ iv = .int .i64 k ∧ Box (b = (nb && ascK p.ws k)) ∧ Box (Below wc.heap.size wc wr)) (fun _ iv _ => p.ws.length - (intOf iv).toNat)
    case atStart => exact ⟨0, nb, Nat.zero_le _, rfl, rfl, ⟨by rw [show ascK p.ws 0 = true from rfl, Bool.and_true]⟩, ⟨Below.refl _ _⟩⟩
    case round =>
      obtain ⟨k, b, hk, rfl, rfl, HQ, HW⟩ := hrel
      have c0 := below_cell HW.out HC0.out
      by_cases hlt : k < p.ws.length
      · obtain ⟨x, rfl, hc⟩ := (HI.out.keepP HW.out).at hlt
        have hck := hc k hlt
        have HS := Box.mk (ascK_succ p.ws k)
        have HCC := Box.mk hc
        clear hc HI HC0
        generalize hv : p.ws.getD k 0 = v at *
        clear hv
        cases b
        · have HN := Box.mk (show false = (nb && ascK p.ws (k + 1)) by rw [HS.out, ← Bool.and_assoc, ← HQ.out, Bool.false_and])
          clear hck
          go_wp2_with fail
          go_quiet (fail)
          go_wp2
          go_roundw
          case rel => exact ⟨k + 1, false, by omega, by go_num, by go_num, HN, ⟨below_drewN HW.out _⟩⟩
          case measure => simp [intOf]; omega
        · have HT := Box.mk HQ.out
          have HNX : ∀ {d : Bool}, (decide (1 ≤ v) && decide (v ≤ 10000) && (decide (k = 0) || decide (p.ws.getD (k - 1) 0 < v))) = d → Box (d = (nb && ascK p.ws (k + 1))) := fun {d} hd => ⟨by rw [HS.out, ← Bool.and_assoc, ← HT.out, Bool.true_and, hd]⟩
          clear HQ HT HS
          by_cases h1 : 1 ≤ v
          · by_cases h2 : v ≤ 10000
            · by_cases h3 : k = 0
              · have H3 := Box.mk h3
                have d1 := decide_eq_true h1
                have d2 := decide_eq_true h2
                have dz : ((k : Int) == 0) = true := by rw [h3]; rfl
                have HN := HNX (d := true) (by rw [d1, d2, decide_eq_true h3]; rfl)
                clear HNX HCC h3
                go_wp2_with fail
                go_quiet (fail)
                go_wp2
                go_roundw
                case rel => exact ⟨k + 1, true, by omega, by go_num, by go_num, HN, ⟨below_drewN HW.out _⟩⟩
                case measure => simp [intOf]; omega
              · have hcj := HCC.out (k - 1) (by omega)
                generalize hv2 : p.ws.getD (k - 1) 0 = v2 at *
                clear hv2
                have hk1 : 1 ≤ k := by omega
                have d1 := decide_eq_true h1
                have d2 := decide_eq_true h2
                have dz : ((k : Int) == 0) = false := by rw [beq_eq_false_iff_ne]; omega
                by_cases h4 : v2 < v
                · have HN := HNX (d := true) (by rw [d1, d2, decide_eq_true h4, Bool.or_true]; rfl)
                  have d4 : decide (v2 < v) = true := decide_eq_true h4
                  clear HNX HCC h3
                  go_wp2_with fail
                  go_quiet (fail)
                  go_wp2
                  go_roundw
                  case rel => exact ⟨k + 1, true, by omega, by go_num, by go_num, HN, ⟨below_drewN HW.out _⟩⟩
                  case measure => simp [intOf]; omega
                · have HN := HNX (d := false) (by rw [decide_eq_false h3, decide_eq_false h4]; simp)
                  have d4 := decide_eq_false h4
                  clear HNX HCC h3
                  go_wp2_with fail
                  go_quiet (fail)
                  go_wp2
                  go_roundw
                  case rel => exact ⟨k + 1, false, by omega, by go_num, by go_num, HN, ⟨below_drewN HW.out _⟩⟩
                  case measure => simp [intOf]; omega
            · have HN := HNX (d := false) (by rw [decide_eq_false h2, Bool.and_false]; rfl)
              have d1 := decide_eq_true h1
              have d2 := decide_eq_false h2
              clear HNX HCC
              go_wp2_with fail
              go_quiet (fail)
              go_wp2
              go_roundw
              case rel => exact ⟨k + 1, false, by omega, by go_num, by go_num, HN, ⟨below_drewN HW.out _⟩⟩
              case measure => simp [intOf]; omega
          · have HN := HNX (d := false) (by rw [decide_eq_false h1]; rfl)
            have d1 := decide_eq_false h1
            clear HNX HCC
            go_wp2_with fail
            go_quiet (fail)
            go_wp2
            go_roundw
            case rel => exact ⟨k + 1, false, by omega, by go_num, by go_num, HN, ⟨below_drewN HW.out _⟩⟩
            case measure => simp [intOf]; omega
      · have HD := Box.mk (show b = p.ok by rw [HK.out, HQ.out, show k = p.ws.length by omega])
        clear HQ HK HI HC0
        cases b
        · have HX := Box.mk (show (8 : Int) = r by rw [HE.out, ← HD.out]; rfl)
          clear HE HD
          go_wp2_with fail
          go_ret
          exact ⟨ret_int HX.out, HGB.out _ HW.out⟩
        · have HX := Box.mk (show (0 : Int) = r by rw [HE.out, ← HD.out]; rfl)
          clear HE HD
          go_wp2_with fail
          go_ret
          exact ⟨ret_int HX.out, HGB.out _ HW.out⟩
end Go.Proofs.Ytlcegpjpgmpnbaa
namespace Go.Proofs.Ytlcegpjpgmpnbaa
open Go.RowKit

/-- Block g is a variable with these cells. -/
def VarA (w : World) (g : Nat) (cs : Array Value) (t : TypeId) : Prop := w.heap[g]? = some (.cells cs t (0, 0))
theorem VarA.lt {w : World} {g : Nat} {cs : Array Value} {t : TypeId} (h : VarA w g cs t) : g < w.heap.size := (Array.getElem?_eq_some_iff.1 h).1
theorem VarA.keep {w w' : World} {g : Nat} {cs : Array Value} {t : TypeId} (h : VarA w g cs t) (hb : Below w.heap.size w w') : VarA w' g cs t := by
  have := h.lt
  unfold VarA at *
  rw [hb.block g this]; exact h
theorem VarA.cell {w : World} {g i : Nat} {cs : Array Value} {t : TypeId} {v : Value} (h : VarA w g cs t) (hv : cs[i]? = some v) : w.cell? ⟨g, i, none⟩ = some v := by
  rw [cell_of_row _ _ _ _ _ _ h]; exact hv
theorem VarA.frozen {w : World} {g i : Nat} {cs : Array Value} {t : TypeId} (h : VarA w g cs t) : w.frozen? ⟨g, i, none⟩ = false := by
  unfold VarA at h; simp [World.frozen?, h]
theorem VarA.set {w : World} {g i : Nat} {cs : Array Value} {t : TypeId} {v : Value} (h : VarA w g cs t) : VarA (w.setCell ⟨g, i, none⟩ v) g (cs.setIfInBounds i v) t := by
  unfold VarA; rw [heap_setCell_same _ _ _ _ _ _ h]
theorem VarA.other {w : World} {g : Nat} {cs : Array Value} {t : TypeId} {x : Addr} {v : Value} (h : VarA w g cs t) (hne : g ≠ x.block) : VarA (w.setCell x v) g cs t := by
  unfold VarA; rw [heap_setCell_other _ _ _ _ hne]; exact h
theorem VarA.new (w : World) (cs : Array Value) (t : TypeId) : VarA (w.alloc (.cells cs t)) w.heap.size cs t := heap_alloc_new _ _
theorem VarA.below {w : World} {g : Nat} {cs : Array Value} {t : TypeId} (h : VarA w g cs t) (o : Obj) : VarA (w.alloc o) g cs t := h.keep (below_oneF _ _)

theorem VarA.row_other {w : World} {g j : Nat} {cs u : Array Value} {t : TypeId} (h : VarA w g cs t) (hne : g ≠ j) : VarA (w.setRow j u) g cs t := by
  unfold VarA at *
  rw [setRow_other _ _ _ _ hne]; exact h
theorem VarA.row {w : World} {g : Nat} {cs : Array Value} {t : TypeId} (h : VarA w g cs t) : ∀ (j : Nat) (v : Value), cs[j]? = some v → w.cell? ((⟨g, 0, none⟩ : Addr).add j) = some v := fun j v hv => by
  rw [Addr.add_lit, Nat.zero_add]; exact h.cell hv

theorem refPlan_eq {p : Pl} {a : Option Addr} {c : Nat} {r : Int} (w : World) (h : IsInts w a p.ws c) (hr : planE p = r) :
    Calls Try.prog 10 #[PlV a c p] w fun e w' => e = .returned (.int .i64 r) ∧ Below w.heap.size w w' := by
  subst hr; exact refPlan_any p a c w h
theorem planE_ok {p : Pl} (h : p.ok = true) : planE p = 0 := by unfold planE; rw [if_pos h]
theorem planE_no {p : Pl} (h : p.ok = false) : planE p = 8 := by unfold planE; rw [h]; rfl

def stageW (p : Pl) (s : Int) : Int := if p.ok = true ∧ 0 ≤ s ∧ s < p.ws.length then p.ws.getD s.toNat 0 else 0
theorem stageW_no {p : Pl} (s : Int) (h : ¬ (p.ok = true ∧ 0 ≤ s ∧ s < p.ws.length)) : stageW p s = 0 := by unfold stageW; rw [if_neg h]

set_option maxHeartbeats 2000000 in
theorem refStageWeight_any (p : Pl) (a : Option Addr) (c : Nat) (s : Int) (w : World) (h : IsInts w a p.ws c) :
    Calls Try.prog 13 #[PlV a c p, .int .i64 s] w fun e w' => e = .returned (.int .i64 (stageW p s)) ∧ Below w.heap.size w w' := by
  obtain ⟨r, hr⟩ : ∃ r, r = stageW p s := ⟨_, rfl⟩
  have HR := Box.mk hr
  rw [← hr]
  clear hr
  obtain ⟨W, hW⟩ : ∃ W, W = w.alloc (.cells (PlC a c p) 24) := ⟨_, rfl⟩
  have HB := Box.mk (show Below w.heap.size w W by rw [hW]; exact below_oneF w _)
  have HV := Box.mk (show VarA W w.heap.size (PlC a c p) 24 by rw [hW]; exact VarA.new _ _ _)
  have HI := Box.mk (h.keepP HB.out)
  clear h
  unfold PlV
  go_enter Try.func13, Try.ntmps13
  go_wp2_with fail
  change Calls _ _ #[PlV a c p] (w.alloc (.cells (PlC a c p) 24)) _
  rw [← hW]
  clear hW
  cases hk : p.ok
  · have HX := Box.mk (show (0 : Int) = r by rw [HR.out, stageW_no s (by rw [hk]; simp)])
    refine (refPlan_eq W HI.out (planE_no hk)).mono ?_
    rintro e w1 ⟨rfl, hb⟩
    have HB1 := Box.mk (below_trans HB.out hb)
    clear hb HR hk
    go_wp2_with fail
    go_ret
    exact ⟨ret_int HX.out, HB1.out⟩
  · refine (refPlan_eq W HI.out (planE_ok hk)).mono ?_
    rintro e w1 ⟨rfl, hb⟩
    have HB1 := Box.mk (below_trans HB.out hb)
    have HV1 := Box.mk (HV.out.keep hb)
    have HI1 := Box.mk (HI.out.keepP hb)
    have c0 := HV1.out.cell (i := 0) (v := .slice a p.ws.length c) rfl
    clear hb HV HI HB
    by_cases h0 : s < 0
    · have HX := Box.mk (show (0 : Int) = r by rw [HR.out, stageW_no s (by omega)])
      have d0 := decide_eq_true h0
      clear HR
      go_wp2_with fail
      go_ret
      exact ⟨ret_int HX.out, HB1.out⟩
    · by_cases h1 : s < p.ws.length
      · obtain ⟨k, rfl⟩ : ∃ k : Nat, s = k := ⟨s.toNat, by omega⟩
        have hk' : k < p.ws.length := by omega
        obtain ⟨x, rfl, hc⟩ := HI1.out.at hk'
        have hck := hc k hk'
        have HX := Box.mk (show p.ws.getD k 0 = r by rw [HR.out]; unfold stageW; rw [if_pos ⟨hk, by omega, h1⟩]; rfl)
        have d0 : decide ((k : Int) < 0) = false := decide_eq_false h0
        have d1 : decide ((p.ws.length : Int) ≤ k) = false := decide_eq_false (by omega)
        generalize p.ws.getD k 0 = v at *
        clear HR hc h1 h0 hk
        go_wp2_with fail
        go_ret
        exact ⟨ret_int HX.out, HB1.out⟩
      · have HX := Box.mk (show (0 : Int) = r by rw [HR.out, stageW_no s (by omega)])
        have d0 : decide (s < 0) = false := decide_eq_false h0
        have d1 : decide ((p.ws.length : Int) ≤ s) = true := decide_eq_true (by omega)
        clear HR hk
        go_wp2_with fail
        go_ret
        exact ⟨ret_int HX.out, HB1.out⟩

/-- A window. -/
structure Wn where
  tot : Int
  err : Int
  age : Int
def Wn.cells (v : Wn) : Array Value := #[.int .i64 v.tot, .int .i64 v.err, .int .i64 v.age]
def Wn.fits (v : Wn) : Prop := 0 ≤ v.tot ∧ v.tot ≤ 1000000000 ∧ 0 ≤ v.err ∧ v.err ≤ 1000000000
instance (v : Wn) : Decidable v.fits := by unfold Wn.fits; infer_instance
def verdV (p : Pl) (v : Wn) : Int := if p.ok = true ∧ v.fits then (if v.tot < p.ms then 1 else if p.num * v.tot < v.err * p.den then 3 else 2) else 0
theorem verdV_no {p : Pl} {v : Wn} (h : ¬ (p.ok = true ∧ v.fits)) : verdV p v = 0 := by unfold verdV; rw [if_neg h]
theorem verdV_yes {p : Pl} {v : Wn} (h1 : p.ok = true) (h2 : v.fits) : verdV p v = if v.tot < p.ms then 1 else if p.num * v.tot < v.err * p.den then 3 else 2 := by unfold verdV; rw [if_pos ⟨h1, h2⟩]
theorem Pl.ok_nums {p : Pl} (h : p.ok = true) : p.nums := by
  unfold Pl.ok at h
  rw [Bool.and_eq_true] at h
  exact of_decide_eq_true h.1
theorem mul_small {x y : Int} (hx0 : 0 ≤ x) (hx : x ≤ 1000000000) (hy0 : 0 ≤ y) (hy : y ≤ 1000000) : 0 ≤ x * y ∧ x * y ≤ 1000000000000000 := by
  refine ⟨Int.mul_nonneg hx0 hy0, ?_⟩
  have h1 : x * y ≤ 1000000000 * y := Int.mul_le_mul_of_nonneg_right hx hy0
  omega

set_option maxHeartbeats 4000000 in
theorem refVerdict_any (p : Pl) (a : Option Addr) (c : Nat) (v : Wn) (w : World) (h : IsInts w a p.ws c) :
    Calls Try.prog 15 #[PlV a c p, .agg v.cells] w fun e w' => e = .returned (.int .i64 (verdV p v)) ∧ Below w.heap.size w w' := by
  obtain ⟨r, hr⟩ : ∃ r, r = verdV p v := ⟨_, rfl⟩
  have HR := Box.mk hr
  rw [← hr]
  clear hr
  obtain ⟨tot, err, age⟩ := v
  unfold Wn.cells
  obtain ⟨W, hW⟩ : ∃ W, W = (w.alloc (.cells (PlC a c p) 24)).alloc (.cells #[.int .i64 tot, .int .i64 err, .int .i64 age] 37) := ⟨_, rfl⟩
  have HB := Box.mk (show Below w.heap.size w W by rw [hW]; exact below_twoF (below_oneF w _) _)
  have HV := Box.mk (show VarA W w.heap.size (PlC a c p) 24 by rw [hW]; exact (VarA.new _ _ _).below _)
  have HU := Box.mk (show VarA W (w.heap.size + 1) #[.int .i64 tot, .int .i64 err, .int .i64 age] 37 by rw [hW]; have := VarA.new (w.alloc (.cells (PlC a c p) 24)) #[.int .i64 tot, .int .i64 err, .int .i64 age] 37; rw [World.size_alloc] at this; exact this)
  have HI := Box.mk (h.keepP HB.out)
  clear h
  unfold PlV
  go_enter Try.func15, Try.ntmps15
  go_wp2_with fail
  change Calls _ _ #[PlV a c p] ((w.alloc (.cells (PlC a c p) 24)).alloc (.cells #[.int .i64 tot, .int .i64 err, .int .i64 age] 37)) _
  rw [← hW]
  clear hW
  cases hk : p.ok
  · have HX := Box.mk (show (0 : Int) = r by rw [HR.out, verdV_no (by rw [hk]; simp)])
    refine (refPlan_eq W HI.out (planE_no hk)).mono ?_
    rintro e w1 ⟨rfl, hb⟩
    have HB1 := Box.mk (below_trans HB.out hb)
    clear hb HR hk
    go_wp2_with fail
    go_ret
    exact ⟨ret_int HX.out, HB1.out⟩
  · refine (refPlan_eq W HI.out (planE_ok hk)).mono ?_
    rintro e w1 ⟨rfl, hb⟩
    have HB1 := Box.mk (below_trans HB.out hb)
    have HV1 := Box.mk (HV.out.keep hb)
    have HU1 := Box.mk (HU.out.keep hb)
    have c1 := HV1.out.cell (i := 1) (v := .int .i64 p.ms) rfl
    have c2 := HV1.out.cell (i := 2) (v := .int .i64 p.num) rfl
    have c3 := HV1.out.cell (i := 3) (v := .int .i64 p.den) rfl
    have u0 := HU1.out.cell (i := 0) (v := .int .i64 tot) rfl
    have u1 := HU1.out.cell (i := 1) (v := .int .i64 err) rfl
    have HNUM := Box.mk (Pl.ok_nums hk)
    have HK := Box.mk hk
    clear hb HV HI HB HU hk
    have hcase : decide (tot < 0) = true ∧ Box (¬ Wn.fits ⟨tot, err, age⟩) ∨ decide (tot < 0) = false ∧ (decide (1000000000 < tot) = true ∧ Box (¬ Wn.fits ⟨tot, err, age⟩) ∨ decide (1000000000 < tot) = false ∧ (decide (err < 0) = true ∧ Box (¬ Wn.fits ⟨tot, err, age⟩) ∨ decide (err < 0) = false ∧ (decide (1000000000 < err) = true ∧ Box (¬ Wn.fits ⟨tot, err, age⟩) ∨ decide (1000000000 < err) = false ∧ Box (Wn.fits ⟨tot, err, age⟩)))) := by
      simp only [decide_eq_true_eq, decide_eq_false_iff_not]
      by_cases h1 : tot < 0
      · exact .inl ⟨h1, ⟨fun h => by unfold Wn.fits at h; simp only at h; omega⟩⟩
      · refine .inr ⟨h1, ?_⟩
        by_cases h2 : 1000000000 < tot
        · exact .inl ⟨h2, ⟨fun h => by unfold Wn.fits at h; simp only at h; omega⟩⟩
        · refine .inr ⟨h2, ?_⟩
          by_cases h3 : err < 0
          · exact .inl ⟨h3, ⟨fun h => by unfold Wn.fits at h; simp only at h; omega⟩⟩
          · refine .inr ⟨h3, ?_⟩
            by_cases h4 : 1000000000 < err
            · exact .inl ⟨h4, ⟨fun h => by unfold Wn.fits at h; simp only at h; omega⟩⟩
            · exact .inr ⟨h4, ⟨by unfold Wn.fits; simp only; omega⟩⟩
    rcases hcase with ⟨d1, HF⟩ | ⟨d1, ⟨d2, HF⟩ | ⟨d2, ⟨d3, HF⟩ | ⟨d3, ⟨d4, HF⟩ | ⟨d4, HF⟩⟩⟩⟩
    all_goals try
      have HX := Box.mk (show (0 : Int) = r by rw [HR.out, verdV_no (fun h => HF.out h.2)])
      clear HR HF c1 c2 c3
      go_wp2_with fail
      go_ret
      exact ⟨ret_int HX.out, HB1.out⟩
    have HE := Box.mk (HR.out.trans (verdV_yes HK.out HF.out))
    have HM1 := Box.mk (mul_small HF.out.2.2.1 HF.out.2.2.2 (show 0 ≤ p.den from by have := HNUM.out; unfold Pl.nums at this; omega) (show p.den ≤ 1000000 from by have := HNUM.out; unfold Pl.nums at this; omega))
    have HM2 := Box.mk (mul_small HF.out.1 HF.out.2.1 (show 0 ≤ p.num from by have := HNUM.out; unfold Pl.nums at this; omega) (show p.num ≤ 1000000 from by have := HNUM.out; unfold Pl.nums at this; omega))
    by_cases h5 : tot < p.ms
    · have HX := Box.mk (show (1 : Int) = r by rw [HE.out, if_pos h5])
      clear HR HF HE HM1 HM2
      go_wp2_with fail
      go_ret
      exact ⟨ret_int HX.out, HB1.out⟩
    · have w1e : wrap64 (err * p.den) = err * p.den := by have := HM1.out; simp only at this; simp only [wrap64]; omega
      have w2e : wrap64 (p.num * tot) = p.num * tot := by have := HM2.out; simp only at this; rw [Int.mul_comm] at this; simp only [wrap64]; omega
      by_cases h6 : p.num * tot < err * p.den
      · have HX := Box.mk (show (3 : Int) = r by rw [HE.out, if_neg h5, if_pos h6])
        have d6 := decide_eq_true h6
        clear HR HF HE HM1 HM2
        go_wp2_with fail
        go_ret
        exact ⟨ret_int HX.out, HB1.out⟩
      · have HX := Box.mk (show (2 : Int) = r by rw [HE.out, if_neg h5, if_neg h6])
        have d6 := decide_eq_false h6
        clear HR HF HE HM1 HM2
        go_wp2_with fail
        go_ret
        exact ⟨ret_int HX.out, HB1.out⟩
end Go.Proofs.Ytlcegpjpgmpnbaa
namespace Go.Proofs.Ytlcegpjpgmpnbaa
open Go.RowKit

theorem cell_same {w w' : World} {p : Addr} (h : w'.heap[p.block]? = w.heap[p.block]?) : w'.cell? p = w.cell? p := by
  unfold World.cell?
  rw [h]
theorem add_block (x : Addr) (j : Nat) : (x.add j).block = x.block := by unfold Addr.add; split <;> rfl
theorem IsBytes.same {w w' : World} {a : Option Addr} {l : List UInt8} {c : Nat} (h : IsBytes w a l c) (hs : ∀ x, a = some x → l ≠ [] → w'.heap[x.block]? = w.heap[x.block]?) : IsBytes w' a l c := by
  rcases h with h | ⟨x, h1, h2, h3, h4⟩
  · exact .inl h
  · refine .inr ⟨x, h1, h2, h3, fun j hj => ?_⟩
    have e : w'.heap[(x.add j).block]? = w.heap[(x.add j).block]? := by
      rw [add_block]
      exact hs x h1 (fun e => by rw [e] at hj; exact absurd hj (Nat.not_lt_zero _))
    rw [cell_same e]
    exact h4 j hj
theorem IsBytes.lt {w : World} {x : Addr} {l : List UInt8} {c : Nat} (h : IsBytes w (some x) l c) (hl : l ≠ []) : x.block < w.heap.size := by
  rcases h with ⟨h, _⟩ | ⟨y, h1, h2, h3, h4⟩
  · cases h
  · obtain rfl := Option.some.inj h1
    have h0 : 0 < l.length := List.length_pos_iff.2 hl
    have := h4 0 h0
    have h5 := World.block_lt_of_cell? w _ this
    rw [add_block] at h5; exact h5
section
variable {ops : Array Oper} {rest : List Oper} {o : Oper} {act : Act} {Q : Exit → Act → World → Prop}
end
end Go.Proofs.Ytlcegpjpgmpnbaa
namespace Go.Proofs.Ytlcegpjpgmpnbaa
open Go.RowKit

theorem ret_rowQ {P : Program} {fn : Func} {R : Ending → World → Prop} {a : Act} {w : World} {p : Tmp} {ty t : TypeId} {g : Nat} {cs : Array Value} {fr : Nat × Nat} {d : TypeDesc}
    (h : fn.results = #[.cell p ty]) (hd : a.defers = []) (hp : a.tmps.getD p undef = .pointer (some ⟨g, 0, none⟩)) (hg : w.heap[g]? = some (.cells cs t fr))
    (hu : P.underlying ty = some d) (hs : (match d with | .struct _ | .array _ _ => true | _ => false) = true) (hi : (P.info? ty).map (·.size) = some cs.size) (hR : R (.returned (.agg cs)) w) : bodyPost P fn R .ret a w :=
  bodyPost_ret (results_cell_row h _ _ g t cs fr d hp hg hu hs hi) hd hR
end Go.Proofs.Ytlcegpjpgmpnbaa
namespace Go.Proofs.Ytlcegpjpgmpnbaa
open Go.RowKit

theorem Src.low {w : World} {g : Nat} {a : Option Addr} {n c : Nat} (h : Src w g a n c) : ∀ x, a = some x → 0 < n → x.block < w.heap.size := fun x e h0 => by
  obtain ⟨y, z, e2, hc, _⟩ := h.2.2.1 0 h0
  rw [e] at e2
  obtain rfl := Option.some.inj e2
  have := lt_cell hc
  rw [add_blockF] at this; exact this
theorem Src.other {w w' : World} {g q : Nat} {a : Option Addr} {n c : Nat} (h : Src w g a n c) (hg : w.grownBy w' (some q)) (hq : g ≠ q) (hx : ∀ x, a = some x → 0 < n → x.block ≠ q) : Src w' g a n c :=
  h.grown hg (fun e => hq (Option.some.inj e)) (fun x e h0 e2 => hx x e h0 (Option.some.inj e2))
end Go.Proofs.Ytlcegpjpgmpnbaa
namespace Go.Proofs.Ytlcegpjpgmpnbaa
open Go.RowKit

theorem IntsF.alloc {w : World} {a : Option Addr} {n : Nat} (h : IntsF w a n) (o : Obj) : IntsF (w.alloc o) a n := h.keep (below_oneF w o)
theorem src_box {w : World} {a : Option Addr} {n c : Nat} (h : IntsF w a n) (hn : n ≤ maxLen) : Src (w.alloc (.cells #[.slice a n c, .int .i64 0] 27)) w.heap.size a n c := by
  refine ⟨⟨0, Nat.zero_le _, heap_alloc_new _ _⟩, hn, h.alloc _, fun x e h0 => ?_⟩
  obtain ⟨y, z, e2, hc, _⟩ := h 0 h0
  rw [e] at e2
  obtain rfl := Option.some.inj e2
  have := lt_cell hc
  rw [add_blockF] at this
  omega
theorem below_box {w w1 w2 : World} (h : Below w.heap.size w w1) (hg : w1.grownBy w2 (some w.heap.size)) : Below w.heap.size w w2 :=
  h.grown hg h.size fun k e => by have := Option.some.inj e; omega

end Go.Proofs.Ytlcegpjpgmpnbaa
namespace Go.Proofs.Ytlcegpjpgmpnbaa
open Go.RowKit

def i64P (n : Int) : Prop := -9223372036854775808 ≤ n ∧ n ≤ 9223372036854775807
theorem isInts_one (w : World) (n : Int) (hn : i64P n) (t : TypeId) : IsInts (w.alloc (.cells #[.int .i64 n] t)) (some ⟨w.heap.size, 0, none⟩) [n] 1 := by
  refine .inr ⟨_, rfl, Nat.le_refl _, by decide, fun j hj => ?_⟩
  have hj' : j < 1 := hj
  rw [Addr.add_lit, Nat.zero_add, World.cell?_alloc_new]
  match j, hj' with
  | 0, _ => exact ⟨rfl, hn⟩
def Wn.rng (v : Wn) : Prop := i64P v.tot ∧ i64P v.err ∧ i64P v.age
theorem sizeWn : (Try.prog.info? 37).map (·.size) = some 3 := by kernel_rfl

end Go.Proofs.Ytlcegpjpgmpnbaa
namespace Go.Proofs.Ytlcegpjpgmpnbaa
open Go.RowKit

section
variable {ops : Array Oper} {rest : List Oper} {o : Oper} {act : Act} {Q : Exit → Act → World → Prop}
end

def intsZ (l : List Int) : List Value := l.map (.int .i64 ·)
theorem intsZ_len (l : List Int) : (intsZ l).length = l.length := by unfold intsZ; simp
theorem intsZ_app (a b : List Int) : intsZ (a ++ b) = intsZ a ++ intsZ b := by unfold intsZ; simp
theorem Try.info3Z : (Try.prog.info? 3).map (fun i => (i.zero, i.size, i.bytes)) = some (some (.int .i64 0), 1, 8) := by kernel_rfl
/-- v is a slice with the numbers l in a block of its own, at B or beyond. -/
def OwnZ (B : Nat) (w : World) (v : Value) (l : List Int) : Prop := w.ownsRow B 3 1 v l.length (intsZ l)
theorem OwnZ.start (B : Nat) (w : World) : OwnZ B w (.slice none 0 0) [] := World.ownsRow_nil _ _ _ _
theorem OwnZ.lt {B : Nat} {w : World} {v : Value} {l : List Int} (h : OwnZ B w v l) {k : Nat} (hk : v.ownBlock = some k) : B ≤ k ∧ k < w.heap.size := World.ownsRow.lt h k hk
theorem OwnZ.same {B : Nat} {w w' : World} {v : Value} {l : List Int} (h : OwnZ B w v l) (hs : ∀ k, v.ownBlock = some k → w'.heap[k]? = w.heap[k]?) : OwnZ B w' v l := by
  obtain ⟨h1, h2⟩ := h
  refine ⟨h1, ?_⟩
  rcases h2 with h2 | ⟨g, cap, cur, hv, hg, hc, r⟩
  · exact .inl h2
  · exact .inr ⟨g, cap, cur, hv, hg, by rw [hs g (by rw [hv]; rfl)]; exact hc, r⟩
theorem OwnZ.keep {B : Nat} {w w' : World} {v : Value} {l : List Int} (h : OwnZ B w v l) (hb : Below w.heap.size w w') : OwnZ B w' v l :=
  h.same fun k hk => hb.block k (h.lt hk).2
theorem OwnZ.grown {B : Nat} {w w' : World} {v : Value} {l : List Int} {row : Option Nat} (h : OwnZ B w v l) (hg : w.grownBy w' row) (hne : ∀ k, v.ownBlock = some k → some k ≠ row) : OwnZ B w' v l :=
  h.same fun k hk => hg.block k (h.lt hk).2 (hne k hk)
theorem OwnZ.shape {B : Nat} {w : World} {v : Value} {l : List Int} (h : OwnZ B w v l) (hr : ∀ z ∈ l, -9223372036854775808 ≤ z ∧ z ≤ 9223372036854775807) : ∃ a cap, v = .slice a l.length cap ∧ IsInts w a l cap ∧ ∀ x, a = some x → B ≤ x.block := by
  obtain ⟨h1, h2⟩ := h
  rcases h2 with ⟨rfl, h2⟩ | ⟨g, cap, cur, rfl, hg, hc, hcap, hm, hsz, ht⟩
  · have : l = [] := List.eq_nil_of_length_eq_zero h2
    subst this
    exact ⟨none, 0, rfl, .inl ⟨rfl, rfl, rfl⟩, fun x e => by cases e⟩
  · refine ⟨_, cap, rfl, .inr ⟨_, rfl, hcap, hm, fun j hj => ⟨?_, hr _ (List.getElem_mem hj)⟩⟩, fun x e => by rw [← Option.some.inj e]; exact hg⟩
    have hu : (intsZ l)[j]? = some (.int .i64 l[j]) := by unfold intsZ; simp [hj]
    have e := congrArg (fun x => x[j]?) ht
    have hlt : j < l.length * 1 := by omega
    rw [hu, List.getElem?_take_of_lt hlt] at e
    rw [Addr.add_lit]
    simp only [World.cell?, hc, Nat.zero_add]
    simpa using e
section
variable {ops : Array Oper} {rest : List Oper} {o : Oper} {act : Act} {Q : Exit → Act → World → Prop}
theorem wpList_append_ownz (w : World) (hgd : o.guard = none) (s x : Operand) (ho : o.op = .call { callee := .builtin .append, args := #[s, x], argTypes := #[22, 22] })
    {B : Nat} {v : Value} {l : List Int} (hs : act.eval s = v) (h : OwnZ B w v l) {b c : Nat} (hx : act.eval x = .slice (some ⟨b, 0, none⟩) 1 c) {y : Int} (hy : w.cell? ⟨b, 0, none⟩ = some (.int .i64 y))
    (hn : l.length + 1 ≤ 4398046511104) (hB : B ≤ w.heap.size)
    (K : ∀ v' w', OwnZ B w' v' (l ++ [y]) → w.grownBy w' v.ownBlock → (v'.ownBlock = v.ownBlock ∨ v'.ownBlock = some w.heap.size) → wpList Try.prog ops Q rest (act.put o.dst v') w') : wpList Try.prog ops Q (o :: rest) act w := by
  obtain ⟨i0, hi, hz0, hz1, hz2⟩ := info_parts Try.info3Z
  refine wpList_append_lies w hgd s x 22 ho B 3 i0 _ 1 8 Try.underlying22 hi hz0 hz1 hz2 rfl (by decide) v l.length (intsZ l) hs h ⟨b, 0, none⟩ 1 c [.int .i64 y] hx rfl ?_ ?_ (by decide) (by unfold maxLen; omega) (by omega) hB w.heap.size rfl ?_
  · intro j u hj
    match j, hj with
    | 0, hj => simp at hj; subst hj; rw [Addr.add_lit]; exact hy
    | j + 1, hj => simp at hj
  · intro u hu; simp at hu; rcases hu with rfl; rfl
  · intro g cap w' hown hgrow hg hlt
    refine K _ w' ?_ hgrow (hg.elim (fun e => .inl (by rw [e]; rfl)) fun e => .inr (by rw [e]; rfl))
    unfold OwnZ
    rw [List.length_append, intsZ_app]; exact hown
end
end Go.Proofs.Ytlcegpjpgmpnbaa
namespace Go.Proofs.Ytlcegpjpgmpnbaa
open Go.RowKit
set_option linter.unusedSimpArgs false

theorem beq_i_yes {a b : Int} (h : a = b) : (a == b) = true := by rw [beq_iff_eq]; exact h
theorem beq_i_no {a b : Int} (h : ¬ a = b) : (a == b) = false := by rw [beq_eq_false_iff_ne]; exact h
end Go.Proofs.Ytlcegpjpgmpnbaa
namespace Go.Proofs.Ytlcegpjpgmpnbaa
open Go.RowKit
set_option linter.unusedSimpArgs false

theorem grownBy_setRow (w : World) (g : Nat) (cs : Array Value) : w.grownBy (w.setRow g cs) (some g) :=
  ⟨rfl, rfl, rfl, by simp [World.setRow], fun i _ hne => setRow_other w g i cs (fun e => hne (by rw [e]))⟩
theorem grownBy_cellP (w : World) (p : Addr) (v : Value) : w.grownBy (w.setCell p v) (some p.block) :=
  ⟨rfl, rfl, rfl, by simp [World.setCell], fun i _ hne => heap_setCell_other w p i v (fun e => hne (by rw [e]))⟩
theorem VarA.grown {w w' : World} {g : Nat} {cs : Array Value} {t : TypeId} {row : Option Nat} (h : VarA w g cs t) (hg : w.grownBy w' row) (hne : some g ≠ row) : VarA w' g cs t := by
  have := h.lt
  unfold VarA at *
  rw [hg.block g this hne]; exact h

end Go.Proofs.Ytlcegpjpgmpnbaa
namespace Go.Proofs.Ytlcegpjpgmpnbaa
open Go.RowKit
set_option linter.unusedSimpArgs false

theorem ascK_app (l : List Int) (x : Int) : ∀ k, k ≤ l.length → ascK (l ++ [x]) k = ascK l k
  | 0, _ => rfl
  | k + 1, h => by
    rw [ascK_succ, ascK_succ, ascK_app l x k (by omega)]
    have e1 : (l ++ [x]).getD k 0 = l.getD k 0 := by
      rw [List.getD_eq_getElem?_getD, List.getD_eq_getElem?_getD, List.getElem?_append_left (by omega)]
    have e2 : (l ++ [x]).getD (k - 1) 0 = l.getD (k - 1) 0 := by
      rw [List.getD_eq_getElem?_getD, List.getD_eq_getElem?_getD, List.getElem?_append_left (by omega)]
    rw [e1, e2]
def lastW (l : List Int) : Int := l.getD (l.length - 1) 0
theorem lastW_snoc (l : List Int) (x : Int) : lastW (l ++ [x]) = x := by
  unfold lastW
  rw [List.length_append, List.getD_eq_getElem?_getD]
  simp
theorem asc_snoc {l : List Int} {x : Int} (h : ascK l l.length = true) (h1 : lastW l < x) (h2 : 1 ≤ x) (h3 : x ≤ 10000) : ascK (l ++ [x]) (l ++ [x]).length = true := by
  rw [List.length_append, List.length_singleton, ascK_succ, ascK_app l x l.length (Nat.le_refl _), h]
  have e1 : (l ++ [x]).getD l.length 0 = x := by rw [List.getD_eq_getElem?_getD]; simp
  rw [e1, decide_eq_true h2, decide_eq_true h3]
  by_cases h0 : l.length = 0
  · rw [decide_eq_true h0]; rfl
  · have e2 : (l ++ [x]).getD (l.length - 1) 0 = lastW l := by
      unfold lastW
      rw [List.getD_eq_getElem?_getD, List.getD_eq_getElem?_getD, List.getElem?_append_left (by omega)]
    rw [e2, decide_eq_true h1, Bool.or_true]; rfl
/-- Small numbers. -/
def Pl.small (p : Pl) : Prop := p.ws.length ≤ 3 ∧ (1 ≤ p.ms ∧ p.ms ≤ 3) ∧ (0 ≤ p.num ∧ p.num ≤ 2) ∧ (1 ≤ p.den ∧ p.den ≤ 4) ∧ (1 ≤ p.hold ∧ p.hold ≤ 3) ∧ (1 ≤ p.win ∧ p.win ≤ 4)
theorem sizePlan : (Try.prog.info? 24).map (·.size) = some 6 := by kernel_rfl
theorem onePl (a : Option Addr) (n c : Nat) (x y z u v : Int) : (#[.slice a n c, .int .i64 x, .int .i64 y, .int .i64 z, .int .i64 u, .int .i64 v] : Array Value).all (·.oneCell') = true := by simp [Value.oneCell']

set_option maxRecDepth 100000 in
set_option maxHeartbeats 8000000 in
theorem srcPlan_any (g : Nat) (a : Option Addr) (n c : Nat) (w : World) (h : Src w g a n c) :
    Calls Try.prog 7 #[.pointer (some ⟨g, 0, none⟩)] w fun e w' => ∃ (p : Pl) (a' : Option Addr) (c' : Nat), e = .returned (PlV a' c' p) ∧ p.ok = true ∧ p.small ∧ IsInts w' a' p.ws c' ∧ (∀ x, a' = some x → w.heap.size ≤ x.block) ∧ Src w' g a n c ∧ w.grownBy w' (some g) := by
  have hgl := h.lt
  have HLOW := Box.mk h.low
  obtain ⟨W, hW⟩ : ∃ W, W = w.alloc (.cells #[.slice none 0 0, .int .i64 0, .int .i64 0, .int .i64 0, .int .i64 0, .int .i64 0] 24) := ⟨_, rfl⟩
  have HG := Box.mk (show w.grownBy W (some g) by rw [hW]; exact grownBy_below (below_oneF w _))
  have HU := Box.mk (show VarA W w.heap.size #[.slice none 0 0, .int .i64 0, .int .i64 0, .int .i64 0, .int .i64 0, .int .i64 0] 24 by rw [hW]; exact VarA.new _ _ _)
  have HS := Box.mk (show Src W g a n c by rw [hW]; exact h.keep (below_oneF w _))
  clear h
  go_enter Try.func7, Try.ntmps7
  go_wp2_with fail
  change Calls _ _ _ (w.alloc (.cells #[.slice none 0 0, .int .i64 0, .int .i64 0, .int .i64 0, .int .i64 0, .int .i64 0] 24)) _
  rw [← hW]
  clear hW
  refine (next_any g 3 a n c W HS.out (by decide) (by decide)).mono ?_
  rintro e w1 ⟨k1, hk1, rfl, hs1, hg1⟩
  have HG1 := Box.mk (grownBy_trans HG.out hg1)
  have HS1 := Box.mk hs1
  have HU1 := Box.mk (HU.out.grown hg1 (fun e => by have := Option.some.inj e; omega))
  clear hs1 hg1 HG HS HU
  go_wp2_with fail
  refine (next_any g 3 a n c w1 HS1.out (by decide) (by decide)).mono ?_
  rintro e w2 ⟨k2, hk2, rfl, hs2, hg2⟩
  have HG2 := Box.mk (grownBy_trans HG1.out hg2)
  have HS2 := Box.mk hs2
  have HU2 := Box.mk (HU1.out.grown hg2 (fun e => by have := Option.some.inj e; omega))
  clear hs2 hg2 HG1 HS1 HU1
  go_wp2_with fail
  refine (next_any g 4 a n c w2 HS2.out (by decide) (by decide)).mono ?_
  rintro e w3 ⟨k3, hk3, rfl, hs3, hg3⟩
  have HG3 := Box.mk (grownBy_trans HG2.out hg3)
  have HS3 := Box.mk hs3
  have HU3 := Box.mk (HU2.out.grown hg3 (fun e => by have := Option.some.inj e; omega))
  clear hs3 hg3 HG2 HS2 HU2
  go_wp2_with fail
  refine (next_any g 3 a n c w3 HS3.out (by decide) (by decide)).mono ?_
  rintro e w4 ⟨k4, hk4, rfl, hs4, hg4⟩
  have HG4 := Box.mk (grownBy_trans HG3.out hg4)
  have HS4 := Box.mk hs4
  have HU4 := Box.mk (HU3.out.grown hg4 (fun e => by have := Option.some.inj e; omega))
  clear hs4 hg4 HG3 HS3 HU3
  go_wp2_with fail
  refine (next_any g 4 a n c w4 HS4.out (by decide) (by decide)).mono ?_
  rintro e w5 ⟨k5, hk5, rfl, hs5, hg5⟩
  have HG5 := Box.mk (grownBy_trans HG4.out hg5)
  have HS5 := Box.mk hs5
  have HU5 := Box.mk (HU4.out.grown hg5 (fun e => by have := Option.some.inj e; omega))
  clear hs5 hg5 HG4 HS4 HU4
  obtain ⟨ms, hms⟩ : ∃ x : Int, 1 + (k1 : Int) = x := ⟨_, rfl⟩
  obtain ⟨den, hden⟩ : ∃ x : Int, 1 + (k3 : Int) = x := ⟨_, rfl⟩
  obtain ⟨hold, hhold⟩ : ∃ x : Int, 1 + (k4 : Int) = x := ⟨_, rfl⟩
  obtain ⟨win, hwin⟩ : ∃ x : Int, 1 + (k5 : Int) = x := ⟨_, rfl⟩
  obtain ⟨num, hnum⟩ : ∃ x : Int, (k2 : Int) = x := ⟨_, rfl⟩
  have HN := Box.mk (show (1 ≤ ms ∧ ms ≤ 3) ∧ (0 ≤ num ∧ num ≤ 2) ∧ (1 ≤ den ∧ den ≤ 4) ∧ (1 ≤ hold ∧ hold ≤ 3) ∧ (1 ≤ win ∧ win ≤ 4) by omega)
  go_upto_region 2 with fail
  clear hms hden hhold hwin hnum
  obtain ⟨W6, hW6⟩ : ∃ W6, W6 = w5.alloc (.cells #[.slice none 0 0, .int .i64 ms, .int .i64 num, .int .i64 den, .int .i64 hold, .int .i64 win] 24) := ⟨_, rfl⟩
  have HB6 := Box.mk (show Below w5.heap.size w5 W6 by rw [hW6]; exact below_oneF w5 _)
  have HV6 := Box.mk (show VarA W6 w5.heap.size #[.slice none 0 0, .int .i64 ms, .int .i64 num, .int .i64 den, .int .i64 hold, .int .i64 win] 24 by rw [hW6]; exact VarA.new _ _ _)
  have HU6 := Box.mk (HU5.out.keep HB6.out)
  have HS6 := Box.mk (HS5.out.keep HB6.out)
  have HG6 := Box.mk (grownBy_trans HG5.out (grownBy_below HB6.out))
  have hsz : w.heap.size < w5.heap.size := HU5.out.lt
  change Code.wp _ _ _ _ (w5.alloc (.cells #[.slice none 0 0, .int .i64 ms, .int .i64 num, .int .i64 den, .int .i64 hold, .int .i64 win] 24))
  rw [← hW6]
  clear hW6 HB6 HU5 HS5 HG5
  generalize hgp : w5.heap.size = gp at *
  clear hgp
  go_wp2_with fail
  refine (next_any g 3 a n c W6 HS6.out (by decide) (by decide)).mono ?_
  rintro e w7 ⟨k6, hk6, rfl, hs7, hg7⟩
  have HG7 := Box.mk (grownBy_trans HG6.out hg7)
  have HS7 := Box.mk hs7
  have HU7 := Box.mk (HU6.out.grown hg7 (fun e => by have := Option.some.inj e; omega))
  have HV7 := Box.mk (HV6.out.grown hg7 (fun e => by have := Option.some.inj e; omega))
  clear hs7 hg7 HG6 HS6 HU6 HV6
  go_wp2_with fail
  go_loopw [4, 5] (fun wv iv wr => ∃ (j : Nat) (ws : List Int) (v : Value) (z : Int), j ≤ 3 ∧ (j = 0 → 1 ≤ ws.length) ∧ iv = .int .i64 j ∧ wv = .int .i64 z ∧ ws.length + j ≤ 3 ∧ 0 ≤ z ∧ z ≤ 3300 * (ws.length : Int) ∧ Box (z = lastW ws ∧ VarA wr gp #[v, .int .i64 ms, .int .i64 num, .int .i64 den, .int .i64 hold, .int .i64 win] 24 ∧ OwnZ (gp + 1) wr v ws ∧ ascK ws ws.length = true ∧ (∀ x ∈ ws, 1 ≤ x ∧ x ≤ 10000) ∧ Src wr g a n c ∧ VarA wr w.heap.size #[.slice none 0 0, .int .i64 0, .int .i64 0, .int .i64 0, .int .i64 0, .int .i64 0] 24 ∧ w.grownBy wr (some g))) (fun _ iv _ => (intOf iv).toNat)
  case atStart => exact ⟨k6 + 1, [], .slice none 0 0, 0, by omega, by omega, by go_num, rfl, by simp; omega, by decide, by decide, ⟨rfl, HV7.out, OwnZ.start _ _, rfl, by simp, HS7.out, HU7.out, HG7.out⟩⟩
  case round =>
    clear HG7 HS7 HU7 HV7
    obtain ⟨j, ws, v, z, hj, hj0, rfl, rfl, hwl, hz0, hz1, HM⟩ := hrel
    by_cases hpos : 0 < j
    · go_wp2_with fail
      refine (next_any g 3300 a n c wr HM.out.2.2.2.2.2.1 (by decide) (by decide)).mono ?_
      rintro e w2 ⟨k, hk, rfl, hs2, hg2⟩
      have HS2 := Box.mk hs2
      have hlg := HM.out.2.2.2.2.2.2.1.lt
      have hlp := HM.out.2.1.lt
      have HV2 := Box.mk (HM.out.2.1.grown hg2 (fun e => by have := Option.some.inj e; omega))
      have HO2 := Box.mk (HM.out.2.2.1.grown hg2 (fun q e e2 => by have := (HM.out.2.2.1.lt e).1; have := Option.some.inj e2; omega))
      have HU2 := Box.mk (HM.out.2.2.2.2.2.2.1.grown hg2 (fun e => by have := Option.some.inj e; omega))
      have HG2 := Box.mk (grownBy_trans HM.out.2.2.2.2.2.2.2 hg2)
      obtain ⟨y, hy⟩ : ∃ y : Int, z + 1 + (k : Int) = y := ⟨_, rfl⟩
      have hy1 : z < y ∧ 1 ≤ y ∧ y ≤ 3300 * ((ws.length : Int) + 1) ∧ y ≤ 9900 := by omega
      have HASC := Box.mk (show ascK (ws ++ [y]) (ws ++ [y]).length = true ∧ (∀ x ∈ ws ++ [y], 1 ≤ x ∧ x ≤ 10000) from ⟨asc_snoc HM.out.2.2.2.1 (by rw [← HM.out.1]; exact hy1.1) hy1.2.1 (by omega), fun x hx => by
        rcases List.mem_append.1 hx with h1 | h1
        · exact HM.out.2.2.2.2.1 x h1
        · simp at h1; rw [h1]; omega⟩)
      have hsz2 : gp < w2.heap.size := HV2.out.lt
      have v0 := HV2.out.cell (i := 0) (v := v) rfl
      clear hs2 hg2 HM
      go_wp2_with (at_builtin; refine wpList_append_ownz _ rfl _ _ rfl rfl (HO2.out.keep ((Below.refl _ _).alloc (Nat.le_refl _) _)) rfl (y := y) ?c1 (by omega) (by simp; omega) ?c3)
      case c1 => simp
      case c3 =>
        intro v' w4 hown hgrow hob
        obtain ⟨ws', hws⟩ : ∃ x, x = ws ++ [y] := ⟨_, rfl⟩
        have hl' : ws'.length = ws.length + 1 := by rw [hws]; simp
        have hl3 : ws'.length + (j - 1) ≤ 3 ∧ 1 ≤ ws'.length := by omega
        have hy2 : y ≤ 3300 * (ws'.length : Int) := by have := hy1.2.2.1; rw [hl']; push_cast; omega
        have HL' := Box.mk (show y = lastW ws' ∧ ascK ws' ws'.length = true ∧ (∀ x ∈ ws', 1 ≤ x ∧ x ≤ 10000) from ⟨by rw [hws, lastW_snoc], by rw [hws]; exact HASC.out.1, by rw [hws]; exact HASC.out.2⟩)
        rw [← hws] at hown
        have HO4 := Box.mk hown
        obtain ⟨ad, cp, hv', -, -⟩ := hown.shape (fun x hx => by have := HL'.out.2.2 x hx; omega)
        subst hv'
        clear hws hl'
        have hgrow2 : w2.grownBy w4 v.ownBlock := ⟨hgrow.os, hgrow.tape, hgrow.output, Nat.le_trans (by simp) hgrow.size, fun k hk hne => by
          rw [hgrow.block k (by simp; omega) hne]
          exact (below_oneF w2 _).block k hk⟩
        have HS4 := Box.mk (HS2.out.grown hgrow2 (fun e => by have := (HO2.out.lt e.symm).1; omega) (fun x e h0 e2 => by have := (HO2.out.lt e2.symm).1; have := HLOW.out x e h0; omega))
        have HV4 := Box.mk (HV2.out.grown hgrow2 (fun e => by have := (HO2.out.lt e.symm).1; omega))
        have HU4 := Box.mk (HU2.out.grown hgrow2 (fun e => by have := (HO2.out.lt e.symm).1; omega))
        have HG4 := Box.mk (grownBy_new HG2.out hgrow2 (fun i e => by have := (HO2.out.lt e).1; omega))
        have e0 := HV4.out.cell (i := 0) (v := v) rfl
        have hf := HV4.out.frozen (i := 0)
        clear hown hgrow hgrow2 hob HO2 HS2 HU2 HG2 HV2 v0
        have HV5 := Box.mk (show VarA (w4.setCell ⟨gp, 0, none⟩ (.slice ad ws'.length cp)) gp #[.slice ad ws'.length cp, .int .i64 ms, .int .i64 num, .int .i64 den, .int .i64 hold, .int .i64 win] 24 from HV4.out.set)
        have HO5 := Box.mk (show OwnZ (gp + 1) (w4.setCell ⟨gp, 0, none⟩ (.slice ad ws'.length cp)) (.slice ad ws'.length cp) ws' from HO4.out.grown (grownBy_cellP w4 ⟨gp, 0, none⟩ _) (fun q e e2 => by have := (HO4.out.lt e).1; have := Option.some.inj e2; simp only at this; omega))
        have HS5 := Box.mk (show Src (w4.setCell ⟨gp, 0, none⟩ (.slice ad ws'.length cp)) g a n c from HS4.out.grown (grownBy_cellP w4 ⟨gp, 0, none⟩ _) (fun e => by have := Option.some.inj e; simp only at this; omega) (fun x e h0 e2 => by have := HLOW.out x e h0; have := Option.some.inj e2; simp only at this; omega))
        have HU5 := Box.mk (show VarA (w4.setCell ⟨gp, 0, none⟩ (.slice ad ws'.length cp)) w.heap.size #[.slice none 0 0, .int .i64 0, .int .i64 0, .int .i64 0, .int .i64 0, .int .i64 0] 24 from HU4.out.other (by show w.heap.size ≠ gp; omega))
        have HG5 := Box.mk (show w.grownBy (w4.setCell ⟨gp, 0, none⟩ (.slice ad ws'.length cp)) (some g) from grownBy_new HG4.out (grownBy_cellP w4 ⟨gp, 0, none⟩ _) (fun i e => by have := Option.some.inj e; simp only at this; omega))
        clear HV4 HO4 HS4 HU4 HG4 HASC
        go_wp2_with fail
        go_roundw
        case rel => exact ⟨j - 1, ws', _, y, by omega, fun _ => hl3.2, by go_num, rfl, hl3.1, by omega, hy2, ⟨HL'.out.1, HV5.out, HO5.out, HL'.out.2.1, HL'.out.2.2, HS5.out, HU5.out, HG5.out⟩⟩
        case measure => simp [intOf]; omega
    · obtain rfl : j = 0 := by omega
      have hw1 := hj0 rfl
      obtain ⟨ad, cp, hv, hin, had⟩ := HM.out.2.2.1.shape (fun x hx => by have := HM.out.2.2.2.2.1 x hx; omega)
      subst hv
      have HIN := Box.mk (And.intro hin had)
      clear hin had
      have e0 := HM.out.2.1.cell (i := 0) (v := .slice ad ws.length cp) rfl
      have e1 := HM.out.2.1.cell (i := 1) (v := .int .i64 ms) rfl
      have e2 := HM.out.2.1.cell (i := 2) (v := .int .i64 num) rfl
      have e3 := HM.out.2.1.cell (i := 3) (v := .int .i64 den) rfl
      have e4 := HM.out.2.1.cell (i := 4) (v := .int .i64 hold) rfl
      have e5 := HM.out.2.1.cell (i := 5) (v := .int .i64 win) rfl
      have hsr := HM.out.2.2.2.2.2.2.1.lt
      go_wp2_with (refine wpList_store_row rfl 24 _ _ rfl w.heap.size #[.slice ad ws.length cp, .int .i64 ms, .int .i64 num, .int .i64 den, .int .i64 hold, .int .i64 win] rfl rfl 24 _ HM.out.2.2.2.2.2.2.1 sizePlan rfl (onePl ..) ?_)
      (try simp only [Exit.inBlock, Exit.then])
      have hfin : IsInts (wr.setRow w.heap.size #[.slice ad ws.length cp, .int .i64 ms, .int .i64 num, .int .i64 den, .int .i64 hold, .int .i64 win]) ad ws cp := by
        rcases HIN.out.1 with h | ⟨x, h1, h2, h3, h4⟩
        · exact .inl h
        · exact .inr ⟨x, h1, h2, h3, fun i hi => ⟨by rw [cell_setRow_other _ _ _ _ (by rw [add_blockF]; have := HIN.out.2 x h1; omega)]; exact (h4 i hi).1, (h4 i hi).2⟩⟩
      refine ret_rowQ (cs := #[.slice ad ws.length cp, .int .i64 ms, .int .i64 num, .int .i64 den, .int .i64 hold, .int .i64 win]) rfl rfl rfl (setRow_heap _ _ _ _ _ _ HM.out.2.2.2.2.2.2.1) Try.underlying24 rfl sizePlan ⟨⟨ws, ms, num, den, hold, win⟩, ad, cp, rfl, ?_, ?_, hfin, fun x e => by have := HIN.out.2 x e; omega, ?_, ?_⟩
      · unfold Pl.ok
        rw [HM.out.2.2.2.1, Bool.and_true]
        refine decide_eq_true ?_
        have := HN.out
        unfold Pl.nums
        simp only
        omega
      · have := HN.out
        unfold Pl.small
        simp only
        omega
      · exact HM.out.2.2.2.2.2.1.grown (grownBy_setRow _ _ _) (fun e => by have := Option.some.inj e; omega) (fun x e h0 e2 => by have := HLOW.out x e h0; have := Option.some.inj e2; omega)
      · exact grownBy_new HM.out.2.2.2.2.2.2.2 (grownBy_setRow _ _ _) (fun i e => by have := Option.some.inj e; omega)
end Go.Proofs.Ytlcegpjpgmpnbaa
