/- A region that draws its order, by what each operation leaves: one fact an operation, whatever the order. -/
import Derived.Test.YtcniajbfgfikjaaDoorDigQ
import Derived.Below
import Derived.Tactics
namespace Go.Proofs.YtcniajbfgfikjaaDoor
open Go.RowKit

/-- What an operation leaves in its slot; whatever comes later keeps it. -/
structure Spec where
  p : Value → World → Prop
  mono : ∀ v w w', p v w → Below w.heap.size w w' → p v w'
def Spec.val (v : Value) : Spec := ⟨fun x _ => x = v, fun _ _ _ h _ => h⟩
def Spec.any : Spec := ⟨fun _ _ => True, fun _ _ _ h _ => h⟩

def Holds (ops : Array Oper) (S : List Spec) (a : Act) (w : World) (j : Nat) : Prop :=
  match ops[j]?, S[j]? with
  | some o, some s => (match o.dst with | some d => s.p (a.eval (.tmp d)) w | none => True)
  | _, _ => True
def isDst (ops : Array Oper) (k : Nat) : Bool := ops.toList.any fun o => o.dst == some k
def waitsFor (o : Oper) (j : Nat) : Bool := o.after.toList.any fun e => Region.binds .any e && e.on == j
/-- The slots are different ones, and within the frame. -/
def dstsOk (ops : Array Oper) (n : Nat) : Bool :=
  (List.range ops.size).all fun i => match (ops[i]?).bind (·.dst) with
    | some d => decide (d < n) && (List.range ops.size).all fun j => decide (i = j) || !((ops[j]?).bind (·.dst) == some d)
    | none => true
/-- The frame on the way: but for the operations' own slots it is the one before. -/
structure Fr (ops : Array Oper) (a0 a : Act) : Prop where
  defers : a.defers = a0.defers
  size : a.tmps.size = a0.tmps.size
  base : ∀ k, isDst ops k = false → a.eval (.tmp k) = a0.eval (.tmp k)
/-- One operation by itself. -/
def StepOK (P : Program) (Q : Exit → Act → World → Prop) (ops : Array Oper) (S : List Spec) (a0 : Act) (w0 : World) (o : Oper) (s : Spec) : Prop :=
  ∀ a w, Below w0.heap.size w0 w → Fr ops a0 a → (∀ j, waitsFor o j = true → Holds ops S a w j) →
    Region.wanted o (yielded ops a.tmps) = true ∧ o.wp P a w (fun a' w' => ∃ v, a' = a.put o.dst v ∧ Below w.heap.size w w' ∧ s.p v w') Q
def StepsOK (P : Program) (Q : Exit → Act → World → Prop) (ops : Array Oper) (S : List Spec) (a0 : Act) (w0 : World) : List Oper → List Spec → Prop
  | o :: os, s :: ss => StepOK P Q ops S a0 w0 o s ∧ StepsOK P Q ops S a0 w0 os ss
  | [], [] => True
  | _, _ => False

section
variable {P : Program} {Q : Exit → Act → World → Prop} {ops : Array Oper} {S : List Spec} {a0 : Act} {w0 : World}
theorem stepsOK_at : ∀ {os : List Oper} {ss : List Spec}, StepsOK P Q ops S a0 w0 os ss → ∀ (i : Nat) (o : Oper), os[i]? = some o → ∃ s, ss[i]? = some s ∧ StepOK P Q ops S a0 w0 o s
  | o :: os, s :: ss, h, 0, _, rfl => ⟨s, rfl, h.1⟩
  | o :: os, s :: ss, h, i + 1, o', ho => stepsOK_at h.2 i o' ho
  | [], _, _, i, _, ho => by simp at ho
theorem eval_put_same {a : Act} {d : Nat} {v : Value} (h : d < a.tmps.size) : (a.put (some d) v).eval (.tmp d) = v := by
  simp [Act.put, Act.eval, h]
theorem eval_put_other {a : Act} {d : Option Tmp} {k : Nat} {v : Value} (h : d ≠ some k) : (a.put d v).eval (.tmp k) = a.eval (.tmp k) := by
  cases d with
  | none => rfl
  | some d =>
    have hne : d ≠ k := fun e => h (by rw [e])
    simp [Act.put, Act.eval, Array.getElem?_setIfInBounds_ne hne]
theorem dsts_lt {n : Nat} (h : dstsOk ops n = true) {i : Nat} {o : Oper} {d : Nat} (ho : ops[i]? = some o) (hd : o.dst = some d) : d < n ∧ ∀ j o', ops[j]? = some o' → j ≠ i → o'.dst ≠ some d := by
  have hi : i < ops.size := (Array.getElem?_eq_some_iff.1 ho).1
  have h1 := List.all_eq_true.1 h i (List.mem_range.2 hi)
  rw [ho] at h1
  simp only [Option.bind_some, hd, Bool.and_eq_true, decide_eq_true_eq] at h1
  refine ⟨h1.1, fun j o' ho' hji hd' => ?_⟩
  have hj : j < ops.size := (Array.getElem?_eq_some_iff.1 ho').1
  have h2 := List.all_eq_true.1 h1.2 j (List.mem_range.2 hj)
  rw [ho'] at h2
  simp [hd'] at h2
  exact hji h2.symm
theorem holds_mono {a : Act} {w w' : World} {j : Nat} (h : Holds ops S a w j) (hb : Below w.heap.size w w') : Holds ops S a w' j := by
  unfold Holds at *
  split
  · rename_i o s ho hs
    rw [ho, hs] at h
    cases hd : o.dst with
    | none => trivial
    | some d => simp only [hd] at h; exact s.mono _ _ _ h hb
  · trivial
theorem wp_region_local {id : Nat} (S : List Spec) (hm : P.follows .mixedOrders = true) (hB : (List.range ops.size).all (fun i => match ops[i]? with | some x => x.after.all (fun e => decide (e.on < i)) | none => true) = true)
    (hd : dstsOk ops a0.tmps.size = true) (h : StepsOK P Q ops S a0 w0 ops.toList S)
    (hQ : ∀ a w, Below w0.heap.size w0 w → Fr ops a0 a → (∀ j, j < ops.size → Holds ops S a w j) → Q .normal a w) : (Code.region id ops true).wp P Q a0 w0 := by
  refine wp_region_inv hm (fun m a w => Below w0.heap.size w0 w ∧ Fr ops a0 a ∧ ∀ j, m.getD j false = true → Holds ops S a w j) ?_ ?_ ?_
  · rintro m a w hs ⟨hb, hf, hh⟩ i hi
    obtain ⟨h1, o, ho, hall⟩ := mem_ready.1 hi
    have hil : i < ops.size := (Array.getElem?_eq_some_iff.1 ho).1
    obtain ⟨s, hsi, hstep⟩ := stepsOK_at h i o (by simpa using ho)
    obtain ⟨hw, hwp⟩ := hstep a w hb hf fun j hj => by
      obtain ⟨e, he, h2⟩ := List.any_eq_true.1 hj
      simp only [Bool.and_eq_true, beq_iff_eq] at h2
      obtain ⟨h3, rfl⟩ := h2
      exact hh _ (hall e (Array.mem_toList_iff.1 he) h3)
    unfold wpOp
    simp only [ho]
    rw [if_pos hw]
    refine .inl (Oper.wp_mono ?_ hwp)
    rintro a' w' ⟨v, rfl, hb', hsp⟩
    refine ⟨hb.trans (hb'.mono hb.size), ⟨?_, ?_, fun k hk => ?_⟩, fun j hj => ?_⟩
    · have := hf.defers
      cases o.dst <;> simpa [Act.put] using this
    · have := hf.size
      cases o.dst <;> simpa [Act.put] using this
    · rw [eval_put_other, hf.base k hk]
      intro hk2
      have : isDst ops k = true := by
        unfold isDst
        exact List.any_eq_true.2 ⟨o, Array.mem_toList_iff.2 (Array.mem_of_getElem? ho), by rw [hk2]; simp⟩
      rw [hk] at this; cases this
    · by_cases hji : j = i
      · subst hji
        unfold Holds
        simp only [ho, hsi]
        cases hdo : o.dst with
        | none => trivial
        | some d =>
          show s.p ((a.put (some d) v).eval (.tmp d)) w'
          rw [eval_put_same]
          · exact hsp
          · rw [hf.size]; exact (dsts_lt hd ho hdo).1
      · have hj' : m.getD j false = true := by rw [getD_set_ne false (fun e => hji e.symm)] at hj; exact hj
        have h5 := holds_mono (hh j hj') hb'
        unfold Holds at *
        cases hoj : ops[j]? with
        | none => simp
        | some o' =>
          cases hsj : S[j]? with
          | none => simp
          | some s' =>
            simp only [hoj, hsj] at h5 ⊢
            cases hdo : o'.dst with
            | none => trivial
            | some d =>
              simp only [hdo] at h5 ⊢
              show s'.p ((a.put o.dst v).eval (.tmp d)) w'
              rw [eval_put_other]
              · exact h5
              · intro e
                exact (dsts_lt hd ho e).2 j o' hoj hji hdo
  · rintro m a w hs ⟨hb, hf, hh⟩ hr
    refine hQ a w hb hf fun j hj => hh j ?_
    induction j using Nat.strongRecOn with
    | _ j ih =>
      cases hmj : m.getD j false with
      | true => rfl
      | false =>
        exfalso
        have hoj : ops[j]? = some ops[j] := Array.getElem?_eq_getElem hj
        have hbk := List.all_eq_true.1 hB j (List.mem_range.2 hj)
        rw [hoj] at hbk
        simp only [Array.all_eq_true_iff_forall_mem, decide_eq_true_eq] at hbk
        have : j ∈ Region.ready .any ops m := mem_ready.2 ⟨by
          have hs' : j < m.size := by rw [hs]; exact hj
          simp [hs'] at hmj ⊢; exact hmj, ops[j], hoj, fun e he _ => ih _ (hbk e he) (by have := hbk e he; omega)⟩
        rw [hr] at this; cases this
  · refine ⟨(Below.refl _ _).drew, ⟨rfl, rfl, fun _ _ => rfl⟩, fun j hj => ?_⟩
    exfalso
    simp only [Array.getD_eq_getD_getElem?, Array.getElem?_replicate] at hj
    split at hj <;> simp at hj
end

/-- The frame, written out. -/
theorem act_eq {a a0 : Act} {n : Nat} (h : a.tmps.size = n) (hd : a.defers = a0.defers) : a = ⟨((List.range n).map fun k => a.eval (.tmp k)).toArray, a0.defers⟩ := by
  obtain ⟨t, d⟩ := a
  simp only at h hd
  subst h hd
  congr 1
  apply Array.ext
  · simp
  · intro i h1 h2
    simp [Act.eval, Array.getElem?_eq_getElem h1]

section
variable {P : Program} {Q : Exit → Act → World → Prop} {ops : Array Oper} {S : List Spec} {a : Act} {w : World} {o : Oper} {s : Spec}
theorem wanted_none (h : o.guard = none) : Region.wanted o (yielded ops a.tmps) = true := by unfold Region.wanted; rw [h]
theorem wanted_true {j d : Nat} (h : o.guard = some (j, true)) (hd : (ops[j]?).bind (·.dst) = some d) (hv : a.eval (.tmp d) = .bool true) : Region.wanted o (yielded ops a.tmps) = true := by
  have e : a.tmps[d]? = some (.bool true) := by
    unfold Act.eval at hv
    simp only [Array.getD_eq_getD_getElem?] at hv
    cases hq : a.tmps[d]? with
    | none => rw [hq] at hv; cases hv
    | some x => rw [hq] at hv; simp at hv; rw [hv]
  unfold Region.wanted yielded
  rw [h]
  simp [hd, e]
def LocK (o : Oper) (a : Act) (w : World) (s : Spec) : Act → World → Prop := fun a' w' => ∃ v, a' = a.put o.dst v ∧ Below w.heap.size w w' ∧ s.p v w'
theorem loc_run {v : Value} {w' : World} (h : (execOp a.eval o).run P w = .ok (.value v) w') (hb : Below w.heap.size w w') (hs : s.p v w') : o.wp P a w (fun a' w' => ∃ v, a' = a.put o.dst v ∧ Below w.heap.size w w' ∧ s.p v w') Q := by
  unfold Oper.wp
  rw [h]
  exact ⟨v, rfl, hb, hs⟩
theorem loc_move {x : Operand} (ho : o.op = .move x) (hs : s.p (a.eval x) w) : o.wp P a w (fun a' w' => ∃ v, a' = a.put o.dst v ∧ Below w.heap.size w w' ∧ s.p v w') Q :=
  loc_run (by unfold execOp; rw [ho]; rfl) (Below.refl _ _) hs
theorem loc_assign {x : Operand} (ho : o.op = .assign x) (hs : s.p (a.eval x) w) : o.wp P a w (fun a' w' => ∃ v, a' = a.put o.dst v ∧ Below w.heap.size w w' ∧ s.p v w') Q :=
  loc_run (by unfold execOp; rw [ho]; rfl) (Below.refl _ _) hs
theorem loc_pick {c x y : Operand} (ho : o.op = .pick c x y) (hc : a.eval c = .bool true) (hs : s.p (a.eval x) w) : o.wp P a w (fun a' w' => ∃ v, a' = a.put o.dst v ∧ Below w.heap.size w w' ∧ s.p v w') Q :=
  loc_run (by unfold execOp; rw [ho]; simp only [hc]; rfl) (Below.refl _ _) hs
theorem loc_convert {x : Operand} {t1 t2 : TypeId} (ho : o.op = .convert t1 t2 x) {v : Value} (h : (convert t1 t2 (a.eval x)).run P w = .ok v w) (hs : s.p v w) : o.wp P a w (fun a' w' => ∃ v, a' = a.put o.dst v ∧ Below w.heap.size w w' ∧ s.p v w') Q :=
  loc_run (v := v) (by unfold execOp; rw [ho]; simp only [Sem.run_bind, h, Result.andThen_ok, Sem.run_pure]) (Below.refl _ _) hs
theorem loc_load {x : Operand} {t : TypeId} (ho : o.op = .load t x) {v : Value} (h : (Instr.loadAt t (a.eval x)).run P w = .ok v w) (hs : s.p v w) : o.wp P a w (fun a' w' => ∃ v, a' = a.put o.dst v ∧ Below w.heap.size w w' ∧ s.p v w') Q :=
  loc_run (v := v) (by unfold execOp; rw [ho]; simp only [Sem.run_bind, h, Result.andThen_ok, Sem.run_pure]) (Below.refl _ _) hs
theorem loc_call {f : FuncId} {args : List Operand} {ts : Array TypeId} (ho : o.op = .call { callee := .value (.func f), args := args.toArray, argTypes := ts })
    (hf : (P.funcs[f]?).map (fun fn => fn.name != "runtime.NumGoroutine" && fn.body.isSome) = some true) (h : Calls P f (args.map a.eval).toArray w fun e w' => ∃ v, e = .returned v ∧ Below w.heap.size w w' ∧ s.p v w') : o.wp P a w (fun a' w' => ∃ v, a' = a.put o.dst v ∧ Below w.heap.size w w' ∧ s.p v w') Q := by
  have hrun : (execOp a.eval o).run P w = .ok (.enter f (args.map a.eval).toArray) w := by
    unfold execOp; rw [ho]
    cases hfn : P.funcs[f]? with
    | none => rw [hfn] at hf; cases hf
    | some fn =>
      rw [hfn] at hf
      simp only [Option.map_some, Option.some.injEq, Bool.and_eq_true, bne_iff_ne, ne_eq] at hf
      have hb : fn.body ≠ none := fun e => by rw [e] at hf; exact absurd hf.2 (by simp)
      simp [resolve, Deferred.ofValue, invoke, callFunc, show a.eval (.func f) = .func (.func f) #[] #[] from rfl, hfn, hf.1, hb]
  unfold Oper.wp
  rw [hrun, Oper.upon_enter]
  refine h.mono ?_
  rintro e w' ⟨v, rfl, hb, hs⟩
  exact ⟨v, rfl, hb, hs⟩
end
section
variable {P : Program} {ops : Array Oper} {Q : Exit → Act → World → Prop} {a : Act} {w : World} {rest : List Oper}
theorem local_ret {fn : Func} {R : Ending → World → Prop} {t : Tmp} {v : Value} (h : fn.results = #[.tmp t]) (hd : a.defers = []) (hv : a.eval (.tmp t) = v) (hR : R (.returned v) w) : bodyPost P fn R .ret a w :=
  bodyPost_ret (results_tmp h _ _ _) hd (by rw [show a.tmps.getD t undef = v from hv]; exact hR)
/-- An operation whose guard says yes, without its guard. -/
theorem wpList_unguard {dst : Option Tmp} {op : Op} {ty : TypeId} {pos : String} {after : Array Edge} {g : Option (Nat × Bool)} (hw : Region.wanted ⟨dst, op, ty, pos, after, g⟩ (yielded ops a.tmps) = true)
    (h : wpList P ops Q (⟨dst, op, ty, pos, after, none⟩ :: rest) a w) : wpList P ops Q (⟨dst, op, ty, pos, after, g⟩ :: rest) a w := by
  unfold wpList at h ⊢
  rw [if_pos hw]
  rw [if_pos (by simp [Region.wanted])] at h
  exact h
end
end Go.Proofs.YtcniajbfgfikjaaDoor
