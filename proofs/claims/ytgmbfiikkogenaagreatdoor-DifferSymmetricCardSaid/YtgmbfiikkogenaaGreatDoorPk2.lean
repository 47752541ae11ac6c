/- A region that draws its order, by what each operation leaves: one fact an operation, whatever the order. Appending a slice of bytes that came in to a slice of the call's own; the law HashWrite at open arguments; what the bound on the arguments gives. More of a region's single operations: comparisons, lengths, slices of slices that are built. A region that draws its order and stores once, by what each operation leaves. SHA-256 in plain words, over words of 32 bits; how the arithmetic of the translated code is spelt at them. Fields: Valid of package field and of its reference; a field's line. A set of names in a map: setOf, and whether a field's name is in it. Slices of fields in memory: read, appended to, opened among the arguments. Values, Has and Without, in the reference. Values, Without and Has of package field. Has of package field (a closure), Elements, SameFields. With: appends of whole slices of fields, slices.Grow and slices.Concat. slices.Concat, With of package field and of its reference, SameFields. SHA-256 of a text that comes in pieces, in plain words. Format, by the library's Builder and in the reference. A region that draws its order, whose one store comes behind all else: the rest goes on from there. Parse of package field: the index of a colon, strings.Cut. -/
import Derived.Test.YtgmbfiikkogenaaGreatDoorPk1
import Derived.Deep.Quiet
import Derived.Deep.QuietTactic
import Derived.Tactics
import Derived.KernelRfl
import Derived.Below
import Derived.Test.YtgmbfiikkogenaaGreatDoorRows
import Derived.WalkKit
import Derived.WalkSpells
import Derived.WalkLawsBesides
import Derived.BigQuiet
import Derived.Lib.Bytealg
import Derived.Lib.IndexLaws
import Derived.Lib.Hide
import Derived.ProofKit
import Derived.OpenShut
import Derived.Laws.IdiomStrings
import Derived.Lib.Strings
import Derived.Laws.Bits64
import Derived.Deep.AppendLies
import Derived.SliceStrings
import Derived.Lib.SlBytesConst
import Derived.Maps.AppendAt
import Derived.Laws.AppendOwnNone
import Derived.Great.BuildSlice
import Derived.Laws.Rows
import Derived.Laws.BitsAllLaws
import Derived.Laws.Shifts
import Derived.Lib.SlTrimSet
import Derived.Lib.IndexBytes
import Derived.Lib.Split
import Derived.Shelf.SlGeneric
import Derived.Shelf.Strings.SlTrimAscii
import Derived.Shelf.Strings.SplitShaped
import Derived.Shelf.LaysM
import Derived.Shelf.Strings.BuilderK
import Derived.Shelf.Strconv.Itoa4
import Derived.Shelf.Strings.Builder2
import Derived.Shelf.SlLaysF0
import Derived.Shelf.SlLaysM
import Derived.Shelf.SlLaysN
import Derived.Ground.SlsfProg
import Derived.Ground.SlgmProg
import Derived.Ground.SlgnProg
import Derived.Test.YtgmbfiikkogenaaGreatDoorProg
import Derived.Lib.SplitLaws
import Derived.WalkSmall
import Derived.Maps.OwnOps
import Derived.Maps.OwnSet
import Derived.Deep.SlicePairs
import Derived.Lib.AppendZerosOnto
import Derived.Lib.AppendStr
import Derived.Laws.CopyOwn
import Derived.OwnWalk
namespace Go.Proofs.YtgmbfiikkogenaaGreatDoor
open Go.RowKit

/-- What an operation leaves in its slot; whatever comes later keeps it. -/
structure Spec where
  p : Value → World → Prop
  mono : ∀ v w w', p v w → Below w.heap.size w w' → p v w'
def Spec.val (v : Value) : Spec := ⟨fun x _ => x = v, fun _ _ _ h _ => h⟩
def Spec.any : Spec := ⟨fun _ _ => True, fun _ _ _ h _ => h⟩

def Holds (ops : Array Oper) (S : List Spec) (a : Act) (w : World) (j : Nat) : Prop :=
  match ops[j]?, S[j]? with
  | some o, some s => (match o.dst with | some d => s.p (a.eval (.tmp d)) w | none => True)
  | _, _ => True
def isDst (ops : Array Oper) (k : Nat) : Bool := ops.toList.any fun o => o.dst == some k
def waitsFor (o : Oper) (j : Nat) : Bool := o.after.toList.any fun e => Region.binds .any e && e.on == j
/-- The slots are different ones, and within the frame. -/
def dstsOk (ops : Array Oper) (n : Nat) : Bool :=
  (List.range ops.size).all fun i => match (ops[i]?).bind (·.dst) with
    | some d => decide (d < n) && (List.range ops.size).all fun j => decide (i = j) || !((ops[j]?).bind (·.dst) == some d)
    | none => true
/-- The frame on the way: but for the operations' own slots it is the one before. -/
structure Fr (ops : Array Oper) (a0 a : Act) : Prop where
  defers : a.defers = a0.defers
  size : a.tmps.size = a0.tmps.size
  base : ∀ k, isDst ops k = false → a.eval (.tmp k) = a0.eval (.tmp k)
/-- One operation by itself. -/
def StepOK (P : Program) (Q : Exit → Act → World → Prop) (ops : Array Oper) (S : List Spec) (a0 : Act) (w0 : World) (o : Oper) (s : Spec) : Prop :=
  ∀ a w, Below w0.heap.size w0 w → Fr ops a0 a → (∀ j, waitsFor o j = true → Holds ops S a w j) →
    Region.wanted o (yielded ops a.tmps) = true ∧ o.wp P a w (fun a' w' => ∃ v, a' = a.put o.dst v ∧ Below w.heap.size w w' ∧ s.p v w') Q
def StepsOK (P : Program) (Q : Exit → Act → World → Prop) (ops : Array Oper) (S : List Spec) (a0 : Act) (w0 : World) : List Oper → List Spec → Prop
  | o :: os, s :: ss => StepOK P Q ops S a0 w0 o s ∧ StepsOK P Q ops S a0 w0 os ss
  | [], [] => True
  | _, _ => False

section
variable {P : Program} {Q : Exit → Act → World → Prop} {ops : Array Oper} {S : List Spec} {a0 : Act} {w0 : World}
theorem stepsOK_at : ∀ {os : List Oper} {ss : List Spec}, StepsOK P Q ops S a0 w0 os ss → ∀ (i : Nat) (o : Oper), os[i]? = some o → ∃ s, ss[i]? = some s ∧ StepOK P Q ops S a0 w0 o s
  | o :: os, s :: ss, h, 0, _, rfl => ⟨s, rfl, h.1⟩
  | o :: os, s :: ss, h, i + 1, o', ho => stepsOK_at h.2 i o' ho
  | [], _, _, i, _, ho => by simp at ho
theorem eval_put_same {a : Act} {d : Nat} {v : Value} (h : d < a.tmps.size) : (a.put (some d) v).eval (.tmp d) = v := by
  simp [Act.put, Act.eval, h]
theorem eval_put_other {a : Act} {d : Option Tmp} {k : Nat} {v : Value} (h : d ≠ some k) : (a.put d v).eval (.tmp k) = a.eval (.tmp k) := by
  cases d with
  | none => rfl
  | some d =>
    have hne : d ≠ k := fun e => h (by rw [e])
    simp [Act.put, Act.eval, Array.getElem?_setIfInBounds_ne hne]
theorem dsts_lt {n : Nat} (h : dstsOk ops n = true) {i : Nat} {o : Oper} {d : Nat} (ho : ops[i]? = some o) (hd : o.dst = some d) : d < n ∧ ∀ j o', ops[j]? = some o' → j ≠ i → o'.dst ≠ some d := by
  have hi : i < ops.size := (Array.getElem?_eq_some_iff.1 ho).1
  have h1 := List.all_eq_true.1 h i (List.mem_range.2 hi)
  rw [ho] at h1
  simp only [Option.bind_some, hd, Bool.and_eq_true, decide_eq_true_eq] at h1
  refine ⟨h1.1, fun j o' ho' hji hd' => ?_⟩
  have hj : j < ops.size := (Array.getElem?_eq_some_iff.1 ho').1
  have h2 := List.all_eq_true.1 h1.2 j (List.mem_range.2 hj)
  rw [ho'] at h2
  simp [hd'] at h2
  exact hji h2.symm
theorem holds_mono {a : Act} {w w' : World} {j : Nat} (h : Holds ops S a w j) (hb : Below w.heap.size w w') : Holds ops S a w' j := by
  unfold Holds at *
  split
  · rename_i o s ho hs
    rw [ho, hs] at h
    cases hd : o.dst with
    | none => trivial
    | some d => simp only [hd] at h; exact s.mono _ _ _ h hb
  · trivial
theorem wp_region_local {id : Nat} (S : List Spec) (hm : P.follows .mixedOrders = true) (hB : (List.range ops.size).all (fun i => match ops[i]? with | some x => x.after.all (fun e => decide (e.on < i)) | none => true) = true)
    (hd : dstsOk ops a0.tmps.size = true) (h : StepsOK P Q ops S a0 w0 ops.toList S)
    (hQ : ∀ a w, Below w0.heap.size w0 w → Fr ops a0 a → (∀ j, j < ops.size → Holds ops S a w j) → Q .normal a w) : (Code.region id ops true).wp P Q a0 w0 := by
  refine wp_region_inv hm (fun m a w => Below w0.heap.size w0 w ∧ Fr ops a0 a ∧ ∀ j, m.getD j false = true → Holds ops S a w j) ?_ ?_ ?_
  · rintro m a w hs ⟨hb, hf, hh⟩ i hi
    obtain ⟨h1, o, ho, hall⟩ := mem_ready.1 hi
    have hil : i < ops.size := (Array.getElem?_eq_some_iff.1 ho).1
    obtain ⟨s, hsi, hstep⟩ := stepsOK_at h i o (by simpa using ho)
    obtain ⟨hw, hwp⟩ := hstep a w hb hf fun j hj => by
      obtain ⟨e, he, h2⟩ := List.any_eq_true.1 hj
      simp only [Bool.and_eq_true, beq_iff_eq] at h2
      obtain ⟨h3, rfl⟩ := h2
      exact hh _ (hall e (Array.mem_toList_iff.1 he) h3)
    unfold wpOp
    simp only [ho]
    rw [if_pos hw]
    refine .inl (Oper.wp_mono ?_ hwp)
    rintro a' w' ⟨v, rfl, hb', hsp⟩
    refine ⟨hb.trans (hb'.mono hb.size), ⟨?_, ?_, fun k hk => ?_⟩, fun j hj => ?_⟩
    · have := hf.defers
      cases o.dst <;> simpa [Act.put] using this
    · have := hf.size
      cases o.dst <;> simpa [Act.put] using this
    · rw [eval_put_other, hf.base k hk]
      intro hk2
      have : isDst ops k = true := by
        unfold isDst
        exact List.any_eq_true.2 ⟨o, Array.mem_toList_iff.2 (Array.mem_of_getElem? ho), by rw [hk2]; simp⟩
      rw [hk] at this; cases this
    · by_cases hji : j = i
      · subst hji
        unfold Holds
        simp only [ho, hsi]
        cases hdo : o.dst with
        | none => trivial
        | some d =>
          show s.p ((a.put (some d) v).eval (.tmp d)) w'
          rw [eval_put_same]
          · exact hsp
          · rw [hf.size]; exact (dsts_lt hd ho hdo).1
      · have hj' : m.getD j false = true := by rw [getD_set_ne false (fun e => hji e.symm)] at hj; exact hj
        have h5 := holds_mono (hh j hj') hb'
        unfold Holds at *
        cases hoj : ops[j]? with
        | none => simp
        | some o' =>
          cases hsj : S[j]? with
          | none => simp
          | some s' =>
            simp only [hoj, hsj] at h5 ⊢
            cases hdo : o'.dst with
            | none => trivial
            | some d =>
              simp only [hdo] at h5 ⊢
              show s'.p ((a.put o.dst v).eval (.tmp d)) w'
              rw [eval_put_other]
              · exact h5
              · intro e
                exact (dsts_lt hd ho e).2 j o' hoj hji hdo
  · rintro m a w hs ⟨hb, hf, hh⟩ hr
    refine hQ a w hb hf fun j hj => hh j ?_
    induction j using Nat.strongRecOn with
    | _ j ih =>
      cases hmj : m.getD j false with
      | true => rfl
      | false =>
        exfalso
        have hoj : ops[j]? = some ops[j] := Array.getElem?_eq_getElem hj
        have hbk := List.all_eq_true.1 hB j (List.mem_range.2 hj)
        rw [hoj] at hbk
        simp only [Array.all_eq_true_iff_forall_mem, decide_eq_true_eq] at hbk
        have : j ∈ Region.ready .any ops m := mem_ready.2 ⟨by
          have hs' : j < m.size := by rw [hs]; exact hj
          simp [hs'] at hmj ⊢; exact hmj, ops[j], hoj, fun e he _ => ih _ (hbk e he) (by have := hbk e he; omega)⟩
        rw [hr] at this; cases this
  · refine ⟨(Below.refl _ _).drew, ⟨rfl, rfl, fun _ _ => rfl⟩, fun j hj => ?_⟩
    exfalso
    simp only [Array.getD_eq_getD_getElem?, Array.getElem?_replicate] at hj
    split at hj <;> simp at hj
end

/-- The frame, written out. -/
theorem act_eq {a a0 : Act} {n : Nat} (h : a.tmps.size = n) (hd : a.defers = a0.defers) : a = ⟨((List.range n).map fun k => a.eval (.tmp k)).toArray, a0.defers⟩ := by
  obtain ⟨t, d⟩ := a
  simp only at h hd
  subst h hd
  congr 1
  apply Array.ext
  · simp
  · intro i h1 h2
    simp [Act.eval, Array.getElem?_eq_getElem h1]

section
variable {P : Program} {Q : Exit → Act → World → Prop} {ops : Array Oper} {S : List Spec} {a : Act} {w : World} {o : Oper} {s : Spec}
theorem wanted_none (h : o.guard = none) : Region.wanted o (yielded ops a.tmps) = true := by unfold Region.wanted; rw [h]
theorem wanted_true {j d : Nat} (h : o.guard = some (j, true)) (hd : (ops[j]?).bind (·.dst) = some d) (hv : a.eval (.tmp d) = .bool true) : Region.wanted o (yielded ops a.tmps) = true := by
  have e : a.tmps[d]? = some (.bool true) := by
    unfold Act.eval at hv
    simp only [Array.getD_eq_getD_getElem?] at hv
    cases hq : a.tmps[d]? with
    | none => rw [hq] at hv; cases hv
    | some x => rw [hq] at hv; simp at hv; rw [hv]
  unfold Region.wanted yielded
  rw [h]
  simp [hd, e]
theorem loc_run {v : Value} {w' : World} (h : (execOp a.eval o).run P w = .ok (.value v) w') (hb : Below w.heap.size w w') (hs : s.p v w') : o.wp P a w (fun a' w' => ∃ v, a' = a.put o.dst v ∧ Below w.heap.size w w' ∧ s.p v w') Q := by
  unfold Oper.wp
  rw [h]
  exact ⟨v, rfl, hb, hs⟩
theorem loc_move {x : Operand} (ho : o.op = .move x) (hs : s.p (a.eval x) w) : o.wp P a w (fun a' w' => ∃ v, a' = a.put o.dst v ∧ Below w.heap.size w w' ∧ s.p v w') Q :=
  loc_run (by unfold execOp; rw [ho]; rfl) (Below.refl _ _) hs
theorem loc_assign {x : Operand} (ho : o.op = .assign x) (hs : s.p (a.eval x) w) : o.wp P a w (fun a' w' => ∃ v, a' = a.put o.dst v ∧ Below w.heap.size w w' ∧ s.p v w') Q :=
  loc_run (by unfold execOp; rw [ho]; rfl) (Below.refl _ _) hs
theorem loc_pick {c x y : Operand} (ho : o.op = .pick c x y) (hc : a.eval c = .bool true) (hs : s.p (a.eval x) w) : o.wp P a w (fun a' w' => ∃ v, a' = a.put o.dst v ∧ Below w.heap.size w w' ∧ s.p v w') Q :=
  loc_run (by unfold execOp; rw [ho]; simp only [hc]; rfl) (Below.refl _ _) hs
theorem loc_load {x : Operand} {t : TypeId} (ho : o.op = .load t x) {v : Value} (h : (Instr.loadAt t (a.eval x)).run P w = .ok v w) (hs : s.p v w) : o.wp P a w (fun a' w' => ∃ v, a' = a.put o.dst v ∧ Below w.heap.size w w' ∧ s.p v w') Q :=
  loc_run (v := v) (by unfold execOp; rw [ho]; simp only [Sem.run_bind, h, Result.andThen_ok, Sem.run_pure]) (Below.refl _ _) hs
theorem loc_call {f : FuncId} {args : List Operand} {ts : Array TypeId} (ho : o.op = .call { callee := .value (.func f), args := args.toArray, argTypes := ts })
    (hf : (P.funcs[f]?).map (fun fn => fn.name != "runtime.NumGoroutine" && fn.body.isSome) = some true) (h : Calls P f (args.map a.eval).toArray w fun e w' => ∃ v, e = .returned v ∧ Below w.heap.size w w' ∧ s.p v w') : o.wp P a w (fun a' w' => ∃ v, a' = a.put o.dst v ∧ Below w.heap.size w w' ∧ s.p v w') Q := by
  have hrun : (execOp a.eval o).run P w = .ok (.enter f (args.map a.eval).toArray) w := by
    unfold execOp; rw [ho]
    cases hfn : P.funcs[f]? with
    | none => rw [hfn] at hf; cases hf
    | some fn =>
      rw [hfn] at hf
      simp only [Option.map_some, Option.some.injEq, Bool.and_eq_true, bne_iff_ne, ne_eq] at hf
      have hb : fn.body ≠ none := fun e => by rw [e] at hf; exact absurd hf.2 (by simp)
      simp [resolve, Deferred.ofValue, invoke, callFunc, show a.eval (.func f) = .func (.func f) #[] #[] from rfl, hfn, hf.1, hb]
  unfold Oper.wp
  rw [hrun, Oper.upon_enter]
  refine h.mono ?_
  rintro e w' ⟨v, rfl, hb, hs⟩
  exact ⟨v, rfl, hb, hs⟩
end
section
variable {P : Program} {ops : Array Oper} {Q : Exit → Act → World → Prop} {a : Act} {w : World} {rest : List Oper}
theorem local_ret {fn : Func} {R : Ending → World → Prop} {t : Tmp} {v : Value} (h : fn.results = #[.tmp t]) (hd : a.defers = []) (hv : a.eval (.tmp t) = v) (hR : R (.returned v) w) : bodyPost P fn R .ret a w :=
  bodyPost_ret (results_tmp h _ _ _) hd (by rw [show a.tmps.getD t undef = v from hv]; exact hR)
end
end Go.Proofs.YtgmbfiikkogenaaGreatDoor
namespace Go.Proofs.YtgmbfiikkogenaaGreatDoor
open Go.ChangeShapes Go.WideShapes Go.ChangeAt Go.RowKit

theorem IsBytes.keep {w w' : World} {a : Option Addr} {l : List UInt8} {cap : Nat} (h : IsBytes w a l cap) (hb : Below w.heap.size w w') : IsBytes w' a l cap := by
  rcases h with h | ⟨x, h1, h2, h3, h4⟩
  · exact .inl h
  · exact .inr ⟨x, h1, h2, h3, fun j hj => below_cell hb (h4 j hj)⟩

/-- A new slice that is empty and not nil. -/
theorem AccB.empty (w : World) : AccB w (w.alloc (.cells #[] 5)) (.slice (some ⟨w.heap.size, 0, none⟩) 0 0) [] := by
  refine ⟨⟨rfl, .inr ⟨w.heap.size, 0, #[], rfl, Nat.le_refl _, ?_, Nat.le_refl _, Nat.zero_le _, rfl, rfl⟩⟩, (Below.refl _ _).alloc (Nat.le_refl _) _⟩
  show (w.heap.push _)[w.heap.size]? = _
  simp

section
variable {ops : Array Oper} {rest : List Oper} {o : Oper} {act : Act} {Q : Exit → Act → World → Prop}
/-- APPEND of a slice of bytes that is read to a slice of the call's own. -/
theorem wpList_append_accs (w : World) (hgd : o.guard = none) (s x : Operand) (ho : o.op = .call { callee := .builtin .append, args := #[s, x], argTypes := #[24, 24] })
    {w0 : World} {v : Value} {l : List UInt8} (hs : act.eval s = v) (h : AccB w0 w v l) {a : Option Addr} {r : List UInt8} {c : Nat} (hx : act.eval x = .slice a r.length c) (hr : IsBytes w a r c)
    (hn : l.length + r.length ≤ 140737488355328)
    (K : ∀ v' w', AccB w0 w' v' (l ++ r) → wpList Tryz.prog ops Q rest (act.put o.dst v') w') : wpList Tryz.prog ops Q (o :: rest) act w := by
  obtain ⟨i0, hi, hz0, hz1, hz2⟩ := info_parts Tryz.info5
  rcases hr with ⟨rfl, rfl, rfl⟩ | ⟨ad, rfl, hr1, hr2, hr3⟩
  · refine wpList_append_own_none hgd s x 24 ho w0.heap.size 5 i0 1 Tryz.underlying24 hi v l.length (bytesV l) hs h.1 hx (K _ _ ?_)
    rw [List.append_nil]; exact h
  · refine wpList_append_own_at w hgd s x 24 ho w0.heap.size 5 i0 (.int .u8 0) 1 1 Tryz.underlying24 hi hz0 hz1 hz2 rfl (by decide) v l.length (bytesV l) hs h.1 ad r.length c (bytesV r) hx (by rw [bytesV_len, Nat.mul_one]) ?_ ?_ (by unfold maxLen; omega) (by omega) h.2.size ?_
    · intro j u hj
      unfold bytesV at hj
      rw [List.getElem?_map] at hj
      obtain ⟨c', hc', rfl⟩ := Option.map_eq_some_iff.1 hj
      obtain ⟨hlt, rfl⟩ := List.getElem?_eq_some_iff.1 hc'
      exact hr3 j hlt
    · intro u hu
      unfold bytesV at hu
      obtain ⟨c', _, rfl⟩ := List.mem_map.1 hu
      rfl
    · intro v' w' hown hgrow _ _
      refine K v' w' ⟨?_, h.2.grown hgrow h.2.size fun k hk => (World.ownsRow.lt h.1 k hk).1⟩
      rw [List.length_append]
      have e : bytesV (l ++ r) = bytesV l ++ bytesV r := by unfold bytesV; rw [List.map_append]
      rw [e]; exact hown
end

theorem bulk_one {H : Type} (d : DataW H) : 1 ≤ Rows.uptoBulk d := by
  cases d with
  | lit l => cases l <;> simp [Rows.uptoBulk]
  | nil => simp [Rows.uptoBulk]
  | ptr d => simp [Rows.uptoBulk]
  | slice elems spare => simp [Rows.uptoBulk]
  | agg parts => simp [Rows.uptoBulk]
  | iface t d => simp [Rows.uptoBulk]
  | map entries => simp [Rows.uptoBulk]
  | held h => simp [Rows.uptoBulk]
theorem bulk_length {H : Type} : ∀ l : List (DataW H), l.length ≤ Rows.uptoBulkAll l
  | [] => Nat.zero_le _
  | x :: r => by have := bulk_one x; have := bulk_length r; simp only [Rows.uptoBulkAll, List.length_cons]; omega

/-- A slice of bytes among the arguments, and its bulk. -/
theorem open_bytes_bulk {H : Type} {enc : TypeId × Value → H} {W : World} {a : Option Addr} {len cap : Nat} {d : DataW H} {ps : List MemPlace} {base : Nat}
    (h : DataW.Trod enc Tryz.prog W base (fun _ => true) true 24 (.slice a len cap) d ps) : ∃ l : List UInt8, len = l.length ∧ IsBytes W a l cap ∧ l.length ≤ Rows.uptoBulk d := by
  obtain ⟨l, hl, hb⟩ := open_bytes h
  refine ⟨l, hl, hb, ?_⟩
  obtain ⟨fuel, hf⟩ := h
  rcases open_ints Tryz.underlying24 Tryz.underlying5 (by kernel_rfl) hf with ⟨hcs, _⟩ | ⟨x, n, c, zs, hcs, _, hn, hm, hz, hx, _, _⟩
  · simp [Value.cells] at hcs
    omega
  · simp [Value.cells] at hcs
    obtain ⟨rfl, rfl, rfl⟩ := hcs
    have hz' : zs.length = cap := by simpa using hz
    have h1 := bulk_length (lits (H := H) .u8 (zs.take len))
    have h2 : (lits (H := H) .u8 (zs.take len)).length = len := by simp [lits]; omega
    have e := congrArg Prod.fst hx
    simp only at e
    rw [e]
    simp only [Rows.uptoBulk]
    omega
end Go.Proofs.YtgmbfiikkogenaaGreatDoor
namespace Go.Proofs.YtgmbfiikkogenaaGreatDoor
open Go.RowKit

def BytesV (w : World) (v : Value) (l : List UInt8) : Prop := ∃ a c, v = .slice a l.length c ∧ IsBytes w a l c
theorem BytesV.keep {w w' : World} {v : Value} {l : List UInt8} (h : BytesV w v l) (hb : Below w.heap.size w w') : BytesV w' v l := by
  obtain ⟨a, c, h1, h2⟩ := h
  exact ⟨a, c, h1, h2.keep hb⟩
theorem AccB.bytesV {w0 w : World} {v : Value} {l : List UInt8} (h : AccB w0 w v l) : BytesV w v l := h.shape
def Spec.bytes (l : List UInt8) : Spec := ⟨fun v w => BytesV w v l, fun _ _ _ h hb => h.keep hb⟩

section
variable {Q : Exit → Act → World → Prop} {a : Act} {w : World} {o : Oper} {s : Spec}
theorem loc_len {x : Operand} (ho : o.op = .call { callee := .builtin .len, args := #[x], argTypes := #[24] }) {ad : Option Addr} {n c : Nat} (hx : a.eval x = .slice ad n c) (hs : s.p (.int .i64 n) w) :
    o.wp Tryz.prog a w (fun a' w' => ∃ v, a' = a.put o.dst v ∧ Below w.heap.size w w' ∧ s.p v w') Q :=
  loc_run (v := .int .i64 n) (by
    unfold execOp
    simp [ho, hx, resolve, invoke, builtin, Builtin.len_, run_underlying Tryz.underlying24]
    try rfl) (Below.refl _ _) hs
end
end Go.Proofs.YtgmbfiikkogenaaGreatDoor
namespace Go.Proofs.YtgmbfiikkogenaaGreatDoor
open Go.RowKit

/-- .. with what stays known of the value alone. -/
structure SpecQ extends Spec where
  q : Value → Prop
  weak : ∀ v w, p v w → q v
def SpecQ.val (v : Value) : SpecQ := ⟨.val v, fun x => x = v, fun _ _ h => h⟩
def SpecQ.of (s : Spec) : SpecQ := ⟨s, fun _ => True, fun _ _ _ => trivial⟩

def specAt (S : List (Option SpecQ)) : List Spec := S.map fun | some s => s.toSpec | none => .any
def StepsS (P : Program) (Q : Exit → Act → World → Prop) (ops : Array Oper) (S : List (Option SpecQ)) (a0 : Act) (w0 : World) : List Oper → List (Option SpecQ) → Prop
  | o :: os, some s :: ss => StepOK P Q ops (specAt S) a0 w0 o s.toSpec ∧ StepsS P Q ops S a0 w0 os ss
  | _ :: os, none :: ss => StepsS P Q ops S a0 w0 os ss
  | [], [] => True
  | _, _ => False
/-- Whatever is not among the late ones is waited for by the store. -/
def lateB (ops : Array Oper) (st : Nat) (late : List Nat) : Bool :=
  (List.range ops.size).all fun i => decide (i = st) || late.contains i || (match ops[st]? with | some o => waitsFor o i | none => false)
section
variable {P : Program} {Q : Exit → Act → World → Prop} {ops : Array Oper} {S : List (Option SpecQ)} {a0 : Act} {w0 : World}
theorem stepsS_at : ∀ {os : List Oper} {ss : List (Option SpecQ)}, StepsS P Q ops S a0 w0 os ss → ∀ (i : Nat) (o : Oper), os[i]? = some o → ∃ s, ss[i]? = some s ∧ ∀ s', s = some s' → StepOK P Q ops (specAt S) a0 w0 o s'.toSpec
  | o :: os, some s :: ss, h, 0, _, rfl => ⟨some s, rfl, fun s' e => by obtain rfl := Option.some.inj e; exact h.1⟩
  | o :: os, some s :: ss, h, i + 1, o', ho => stepsS_at (os := os) (ss := ss) h.2 i o' ho
  | o :: os, none :: ss, h, 0, _, rfl => ⟨none, rfl, fun s' e => by cases e⟩
  | o :: os, none :: ss, h, i + 1, o', ho => stepsS_at (os := os) (ss := ss) h i o' ho
  | [], _, _, i, _, ho => by simp at ho
theorem specAt_get {j : Nat} {s : SpecQ} (h : S[j]? = some (some s)) : (specAt S)[j]? = some s.toSpec := by unfold specAt; rw [List.getElem?_map, h]; rfl
theorem fr_put {a : Act} {o : Oper} {i : Nat} (ho : ops[i]? = some o) (hf : Fr ops a0 a) (v : Value) : Fr ops a0 (a.put o.dst v) := by
  refine ⟨?_, ?_, fun k hk => ?_⟩
  · have := hf.defers
    cases o.dst <;> simpa [Act.put] using this
  · have := hf.size
    cases o.dst <;> simpa [Act.put] using this
  · rw [eval_put_other, hf.base k hk]
    intro hk2
    have : isDst ops k = true := by
      unfold isDst
      exact List.any_eq_true.2 ⟨o, Array.mem_toList_iff.2 (Array.mem_of_getElem? ho), by rw [hk2]; simp⟩
    rw [hk] at this; cases this
theorem holds_put {a : Act} {o : Oper} {i j : Nat} {w : World} {T : List Spec} (hd : dstsOk ops a0.tmps.size = true) (ho : ops[i]? = some o) (hji : j ≠ i) {v : Value} (h : Holds ops T a w j) : Holds ops T (a.put o.dst v) w j := by
  unfold Holds at *
  cases hoj : ops[j]? with
  | none => simp
  | some o' =>
    cases hsj : T[j]? with
    | none => simp
    | some s' =>
      simp only [hoj, hsj] at h ⊢
      cases hdo : o'.dst with
      | none => trivial
      | some d =>
        simp only [hdo] at h ⊢
        show s'.p ((a.put o.dst v).eval (.tmp d)) w
        rw [eval_put_other]
        · exact h
        · intro e
          exact (dsts_lt hd ho e).2 j o' hoj hji hdo
end

section
variable {P : Program} {Q : Exit → Act → World → Prop} {ops : Array Oper} {a : Act} {w : World} {o : Oper} {s : SpecQ}
end
end Go.Proofs.YtgmbfiikkogenaaGreatDoor
namespace Go.Proofs.YtgmbfiikkogenaaGreatDoor

/-- A fact that no tactic looks into (Hid is a definition, which some unfold). -/
structure Box (p : Prop) : Prop where
  out : p
/-- A word as an integer: of its bounds nothing is to be seen. -/
def vU (x : UInt32) : Int := (x.toNat : Int)
def vW (x : UInt32) : Value := .int .u32 (vU x)
theorem vU_xor (x y : UInt32) : bits .xor .u32 (vU x) (vU y) = vU (x ^^^ y) := by
  unfold vU; rw [u32_xor_nat _ _ x.toNat_lt y.toNat_lt, UInt32.toNat_xor]
theorem vU_and (x y : UInt32) : bits .and .u32 (vU x) (vU y) = vU (x &&& y) := by
  unfold vU; rw [u32_and_nat _ _ x.toNat_lt y.toNat_lt, UInt32.toNat_and]
theorem vU_or (x y : UInt32) : bits .or .u32 (vU x) (vU y) = vU (x ||| y) := by
  unfold vU; rw [u32_or_nat _ _ x.toNat_lt y.toNat_lt, UInt32.toNat_or]
theorem vU_add (x y : UInt32) : IntKind.u32.wrap (vU x + vU y) = vU (x + y) := by
  unfold vU; rw [IntKind.wrap_u32', UInt32.toNat_add]; omega
theorem vU_shr (x : UInt32) (n : Nat) (hn : n < 32) : vU x / ((2 ^ n : Nat) : Int) = vU (x >>> UInt32.ofNat n) := by
  unfold vU
  rw [UInt32.toNat_shiftRight, UInt32.toNat_ofNat', Nat.mod_eq_of_lt (show n < 2 ^ 32 by omega), Nat.mod_eq_of_lt hn, Nat.shiftRight_eq_div_pow]
  norm_cast
theorem vU_shl (x : UInt32) (n : Nat) (hn : n < 32) : IntKind.u32.wrap (vU x * ((2 ^ n : Nat) : Int)) = vU (x <<< UInt32.ofNat n) := by
  unfold vU
  rw [IntKind.wrap_u32', UInt32.toNat_shiftLeft, UInt32.toNat_ofNat', Nat.mod_eq_of_lt (show n < 2 ^ 32 by omega), Nat.mod_eq_of_lt hn, Nat.shiftLeft_eq]
  generalize (2 : Nat) ^ n = p
  rw [show (2 : Nat) ^ 32 = 4294967296 by decide, Int.natCast_emod, Int.natCast_mul]
  rfl

theorem vU_shr' (x : UInt32) (n : Nat) (hn : n < 32) : vU x / (2 : Int) ^ n = vU (x >>> UInt32.ofNat n) := by
  rw [← vU_shr x n hn]; norm_cast
theorem vU_shl' (x : UInt32) (n : Nat) (hn : n < 32) : vU x * (2 : Int) ^ n % 4294967296 = vU (x <<< UInt32.ofNat n) := by
  have e : (2 : Int) ^ n = ((2 ^ n : Nat) : Int) := by norm_cast
  rw [← vU_shl x n hn, IntKind.wrap_u32', e]
theorem vU_add' (x y : UInt32) : (vU x + vU y) % 4294967296 = vU (x + y) := by rw [← vU_add, IntKind.wrap_u32']

def rotr (x : UInt32) (n : Nat) : UInt32 := x >>> UInt32.ofNat n ||| x <<< UInt32.ofNat (32 - n)
def sum3 (x : UInt32) (i j k : Nat) : UInt32 := rotr x i ^^^ rotr x j ^^^ rotr x k
def chS (e f g : UInt32) : UInt32 := (e &&& f) ^^^ (~~~e &&& g)
def majS (a b c : UInt32) : UInt32 := (a &&& b) ^^^ (a &&& c) ^^^ (b &&& c)
def sg0 (x : UInt32) : UInt32 := rotr x 7 ^^^ rotr x 18 ^^^ (x >>> 3)
def sg1 (x : UInt32) : UInt32 := rotr x 17 ^^^ rotr x 19 ^^^ (x >>> 10)

structure St where
  (a b c d e f g h : UInt32)
def St.cells (s : St) : Array Value := #[vW s.a, vW s.b, vW s.c, vW s.d, vW s.e, vW s.f, vW s.g, vW s.h]
def kk : List UInt32 := [1116352408, 1899447441, 3049323471, 3921009573, 961987163, 1508970993, 2453635748, 2870763221, 3624381080, 310598401, 607225278, 1426881987, 1925078388, 2162078206, 2614888103, 3248222580, 3835390401, 4022224774, 264347078, 604807628, 770255983, 1249150122, 1555081692, 1996064986, 2554220882, 2821834349, 2952996808, 3210313671, 3336571891, 3584528711, 113926993, 338241895, 666307205, 773529912, 1294757372, 1396182291, 1695183700, 1986661051, 2177026350, 2456956037, 2730485921, 2820302411, 3259730800, 3345764771, 3516065817, 3600352804, 4094571909, 275423344, 430227734, 506948616, 659060556, 883997877, 958139571, 1322822218, 1537002063, 1747873779, 1955562222, 2024104815, 2227730452, 2361852424, 2428436474, 2756734187, 3204031479, 3329325298]
def initS : St := ⟨1779033703, 3144134277, 1013904242, 2773480762, 1359893119, 2600822924, 528734635, 1541459225⟩
def t1S (s : St) (k w : UInt32) : UInt32 := s.h + sum3 s.e 6 11 25 + chS s.e s.f s.g + k + w
def t2S (s : St) : UInt32 := sum3 s.a 2 13 22 + majS s.a s.b s.c
def rnd (s : St) (k w : UInt32) : St := ⟨t1S s k w + t2S s, s.a, s.b, s.c, s.d + t1S s k w, s.e, s.f, s.g⟩
/-- i rounds, over the constants K and the words W. -/
def rnds (K W : List UInt32) (s : St) : Nat → St
  | 0 => s
  | i + 1 => rnd (rnds K W s i) (K.getD i 0) (W.getD i 0)
def St.add (s t : St) : St := ⟨s.a + t.a, s.b + t.b, s.c + t.c, s.d + t.d, s.e + t.e, s.f + t.f, s.g + t.g, s.h + t.h⟩

/-- Four bytes as a word, the first one the greatest. -/
def w4 (l : List UInt8) : UInt32 := l.foldl (fun x c => (x <<< 8) ||| c.toUInt32) 0
/-- The next word of a schedule. -/
def nextW (l : List UInt32) : UInt32 :=
  l.getD (l.length - 16) 0 + l.getD (l.length - 7) 0 + sg0 (l.getD (l.length - 15) 0) + sg1 (l.getD (l.length - 2) 0)
def sch16 (b : List UInt8) : List UInt32 := (List.range 16).map fun i => w4 ((b.drop (4 * i)).take 4)
def schN (l : List UInt32) : Nat → List UInt32
  | 0 => l
  | n + 1 => schN l n ++ [nextW (schN l n)]
def sched (b : List UInt8) : List UInt32 := schN (sch16 b) 48
theorem schN_len (l : List UInt32) : ∀ n, (schN l n).length = l.length + n
  | 0 => rfl
  | n + 1 => by rw [schN, List.length_append, schN_len l n]; rfl
theorem sch16_len (b : List UInt8) : (sch16 b).length = 16 := by unfold sch16; simp
def blockS (s : St) (b : List UInt8) : St := s.add (rnds kk (sched b) s 64)
/-- The state after the first n blocks. -/
def fullB (s : St) (l : List UInt8) : Nat → St
  | 0 => s
  | n + 1 => blockS (fullB s l n) ((l.drop (64 * n)).take 64)
/-- The state after all whole blocks, and the bytes that are left. -/
def stS (l : List UInt8) : St := fullB initS l (l.length / 64)
def tailS (l : List UInt8) : List UInt8 := l.drop (64 * (l.length / 64))
end Go.Proofs.YtgmbfiikkogenaaGreatDoor
namespace Go.Proofs.YtgmbfiikkogenaaGreatDoor
open Go.RowKit

theorem below_oneF (w : World) (o : Obj) : Below w.heap.size w (w.alloc o) := (Below.refl _ _).alloc (Nat.le_refl _) _
/-- Whether a field is valid. -/
def fldB (n v : ByteArray) : Bool := tokS n && valS v
theorem fldB_val {n v : ByteArray} (h : tokS n = true) : fldB n v = valS v := by unfold fldB; rw [h]; rfl

end Go.Proofs.YtgmbfiikkogenaaGreatDoor
namespace Go.Proofs.YtgmbfiikkogenaaGreatDoor
open Go.RowKit
open Go.Maps (Keyed string_keyed)

theorem keyedF : Keyed Tryz.prog 9 := string_keyed Tryz.underlying9
theorem zeroBF (w : World) : (zeroValue 4).run Tryz.prog w = .ok (.bool false) w := by kernel_rfl
/-- Whether a string is among these. -/
def inS (s : ByteArray) (S : List ByteArray) : Bool := S.any fun x => x.toList == s.toList
/-- Block b is a map of at most n entries, which has just the strings S, all with true. -/
def SetIn (w : World) (b n : Nat) (S : List ByteArray) : Prop :=
  ∃ D : DataW Unit, w.ownsMap Tryz.prog 9 (plainElem Tryz.prog 4) b n D ∧ ∀ s : ByteArray, D.atKey (.string s.data.toList) (.lit (.bool false)) = .lit (.bool (inS s S))
theorem SetIn.keep {w w' : World} {b n : Nat} {S : List ByteArray} (h : SetIn w b n S) (hb : Below w.heap.size w w') : SetIn w' b n S := by
  obtain ⟨D, h1, h2⟩ := h
  have hlt := h1.lt
  obtain ⟨es, clock, hbk, F, hs, hD⟩ := h1
  exact ⟨D, ⟨es, clock, by rw [hb.block b hlt]; exact hbk, F, hs, hD⟩, h2⟩
theorem SetIn.lt {w : World} {b n : Nat} {S : List ByteArray} (h : SetIn w b n S) : b < w.heap.size := by
  obtain ⟨D, h1, _⟩ := h; exact h1.lt
theorem SetIn.made (w : World) : SetIn (w.alloc (.map #[] 0)) w.heap.size 0 [] :=
  ⟨.map [], World.ownsMap_made _ _ _ _, fun s => by simp [DataW.atKey, inS]⟩

section
variable {ops : Array Oper} {rest : List Oper} {o : Oper} {act : Act} {Q : Exit → Act → World → Prop}
set_option maxRecDepth 100000 in
theorem SetIn.run {w : World} {b n : Nat} {S : List ByteArray} (h : SetIn w b n S) (s : ByteArray) (hs : s.size ≤ maxLen) :
    (Instr.lookup 118 (.map (some b)) (.string s) false).run Tryz.prog w = .ok (.bool (inS s S)) w := by
  obtain ⟨D, h1, h2⟩ := h
  obtain ⟨v, ps, hrun, hv⟩ := h1.lookup (t := 118) (e := 4) keyedF Tryz.underlying118 (zeroBF w) (plainElem_bool Tryz.underlying4 false) (key := .string s) (kl := .string s.data.toList) (WideMaps.keyOf_string_mk Tryz.underlying9 hs)
  rw [h2 s] at hv
  have : v = .bool (inS s S) := by
    unfold plainElem at hv
    rw [Tryz.underlying4] at hv
    generalize inS s S = r at *
    cases v <;> simp at hv
    rw [hv.1]
  rw [hrun, this]
theorem wpList_update_set (w : World) (hg : o.guard = none) (m x : Operand) (hop : o.op = Op.mapUpdate 118 m x (.const (.bool true))) {b n : Nat} {S : List ByteArray} {s : ByteArray}
    (hm : act.eval m = .map (some b)) (hS : SetIn w b n S) (hn : n < maxLen) (hx : act.eval x = .string s) (hs : s.size ≤ maxLen)
    (hK : ∀ w', SetIn w' b (n + 1) (S ++ [s]) → w.grownBy w' (some b) → wpList Tryz.prog ops Q rest (act.put o.dst undef) w') : wpList Tryz.prog ops Q (o :: rest) act w := by
  obtain ⟨D, h1, h2⟩ := hS
  refine wpList_mapUpdate_own w hg m x (.const (.bool true)) 118 hop 9 4 keyedF Tryz.underlying118 _ b n D hm h1 hn (.string s) (.bool true) (.string s.data.toList) hx rfl (WideMaps.keyOf_string_mk Tryz.underlying9 hs)
    (.lit (.bool true)) [] (plainElem_bool Tryz.underlying4 true) ?_
  intro w' h3 h4
  refine hK w' ⟨_, h3, fun s' => ?_⟩ h4
  by_cases he : s' = s
  · subst he
    rw [Maps.atKey_put_same (h1.isMap) (show WideAt.IsKeyLit (.string s'.data.toList) from trivial)]
    simp [inS]
  · rw [Maps.atKey_put_other (fun e => he (ba_ext (by injection e)))]
    rw [h2 s']
    have : (s.toList == s'.toList) = false := by rw [toList_eq]; simp; exact fun e => he e.symm
    simp [inS, this]
end

theorem lowS_sizeF (s : ByteArray) : (lowS s).size = s.size := by
  show (lowS s).data.size = s.data.size
  simp [lowS]
def RetSet (w : World) (S : List ByteArray) (e : Ending) (w' : World) : Prop :=
  ∃ b n, e = .returned (.map (some b)) ∧ SetIn w' b n S ∧ Below w.heap.size w w'

set_option maxRecDepth 100000 in
set_option maxHeartbeats 1000000 in
theorem setOf_any (l : List ByteArray) (a : Option Addr) (cap : Nat) (w : World) (h : StrsIn w a l) (hz : ∀ s ∈ l, s.size ≤ maxLen) (hl : l.length ≤ 140737488355328) :
    Calls Tryz.prog 77 #[.slice a l.length cap] w (RetSet w (l.map lowS)) := by
  have H0 := Box.mk h
  have HZ := Box.mk hz
  clear h hz
  have hmm := @run_makeMap Tryz.prog
  go_enter Tryz.func77, Tryz.ntmps77
  go_wp2_with fail
  obtain ⟨W, hW⟩ : ∃ W, W = w.alloc (.map #[] 0) := ⟨_, rfl⟩
  have HS := Box.mk (SetIn.made w)
  have HB := Box.mk (below_oneF w (.map #[] 0))
  rw [← hW] at HS HB ⊢
  clear hW
  generalize hb : w.heap.size = b at HS ⊢
  have HBS := Box.mk hb
  clear hb
  go_loopw [9] (fun iv wr => ∃ k : Nat, k ≤ l.length ∧ iv = .int .i64 k ∧ Box (SetIn wr b k ((l.take k).map lowS) ∧ Below w.heap.size w wr)) (fun iv _ => l.length - (intOf iv).toNat)
  case atStart => exact ⟨0, Nat.zero_le _, rfl, ⟨by simpa using HS.out, HB.out⟩⟩
  case round =>
    clear HS HB
    obtain ⟨k, hk, rfl, HM⟩ := hrel
    by_cases hlt : k < l.length
    · obtain ⟨x, rfl, hx⟩ := (H0.out.keep HM.out.2) k hlt
      have HT := Box.mk (show (l.take (k + 1)).map lowS = (l.take k).map lowS ++ [lowS l[k]] by rw [List.take_succ_eq_append_getElem hlt, List.map_append]; rfl)
      have HSZ := Box.mk (HZ.out _ (List.getElem_mem hlt))
      generalize l[k] = s at *
      go_wp2_with fail
      refine (lower_any s _ HSZ.out).mono ?_
      rintro e w1 ⟨rfl, hb1⟩
      have HS1 := Box.mk (HM.out.1.keep hb1)
      have HB1 := Box.mk (below_trans HM.out.2 hb1)
      have HLZ := Box.mk (show (lowS s).size ≤ maxLen by rw [lowS_sizeF]; exact HSZ.out)
      clear hb1
      go_wp2_with (at_mapUpdate; refine wpList_update_set _ rfl _ _ rfl rfl HS1.out (by unfold maxLen; omega) rfl HLZ.out ?c1)
      case c1 =>
        intro w2 hs2 hg2
        have HM2 := Box.mk (show SetIn w2 b (k + 1) ((l.take (k + 1)).map lowS) ∧ Below w.heap.size w w2 from ⟨by rw [HT.out, List.map_take]; exact hs2, HB1.out.grown hg2 HB1.out.size (fun j hj => by injection hj with hj; have := HBS.out; omega)⟩)
        clear hs2 hg2 HS1 HB1 HT
        go_wp2_with fail
        go_roundw
        case rel => exact ⟨k + 1, by omega, by go_num, HM2⟩
        case measure => simp [intOf]; omega
    · have HE := Box.mk (show SetIn wr b k (l.map lowS) by have := HM.out.1; rw [List.take_of_length_le (by omega)] at this; exact this)
      go_wp2_with fail
      go_ret
      exact ⟨b, k, rfl, HE.out, HM.out.2⟩

set_option maxHeartbeats 1000000 in
theorem hdrIn_any (n v : ByteArray) (b m : Nat) (S : List ByteArray) (w : World) (h : SetIn w b m S) (hn : n.size ≤ maxLen) :
    Calls Tryz.prog 78 #[.agg #[.string n, .string v], .map (some b)] w fun e w' => e = .returned (.bool (inS (lowS n) S)) ∧ Below w.heap.size w w' := by
  have H0 := Box.mk (h.keep (below_oneF w (.cells #[.string n, .string v] 121)))
  clear h
  go_enter Tryz.func78, Tryz.ntmps78
  go_wp2_with fail
  refine (lower_any n _ hn).mono ?_
  rintro e w1 ⟨rfl, hb⟩
  have hrun := (H0.out.keep hb).run (lowS n) (by rw [lowS_sizeF]; exact hn)
  have HB := Box.mk (below_trans (below_oneF w (.cells #[.string n, .string v] 121)) hb)
  clear hb
  generalize hr : inS (lowS n) S = r at *
  have HR := Box.mk hr
  clear hr
  go_wp2_with fail
  go_ret
  exact ⟨ret_bool HR.out.symm, HB.out⟩
end Go.Proofs.YtgmbfiikkogenaaGreatDoor
namespace Go.Proofs.YtgmbfiikkogenaaGreatDoor
open Go.ChangeShapes Go.WideShapes Go.ChangeAt Go.RowKit

abbrev Fld := ByteArray × ByteArray
/-- The cells of fields. -/
def cellsF (l : List Fld) : List Value := l.flatMap fun f => [.string f.1, .string f.2]
theorem cellsF_len (l : List Fld) : (cellsF l).length = l.length * 2 := by
  induction l with
  | nil => rfl
  | cons a t ih =>
    have : cellsF (a :: t) = .string a.1 :: .string a.2 :: cellsF t := rfl
    rw [this]; simp only [List.length_cons, ih]; omega
theorem cellsF_app (a b : List Fld) : cellsF (a ++ b) = cellsF a ++ cellsF b := by unfold cellsF; rw [List.flatMap_append]
theorem cellsF_get : ∀ (l : List Fld) (j : Nat) (hj : j < l.length), (cellsF l)[j * 2]? = some (.string l[j].1) ∧ (cellsF l)[j * 2 + 1]? = some (.string l[j].2)
  | a :: t, 0, _ => ⟨rfl, rfl⟩
  | a :: t, j + 1, hj => by
    have ih := cellsF_get t j (by simpa using hj)
    have e : cellsF (a :: t) = .string a.1 :: .string a.2 :: cellsF t := rfl
    rw [e, show (j + 1) * 2 = j * 2 + 1 + 1 by omega, show j * 2 + 1 + 1 + 1 = (j * 2 + 1) + 1 + 1 by omega]
    simpa using ih
theorem cellsF_one (l : List Fld) : ∀ u ∈ cellsF l, u.oneCell' = true := by
  intro u hu
  unfold cellsF at hu
  obtain ⟨f, _, hf⟩ := List.mem_flatMap.1 hu
  simp at hf
  rcases hf with rfl | rfl <;> rfl

theorem cell_next {w : World} {x : Addr} {i : Nat} {v : Value} (h : w.cell? (x.add (i + 1)) = some v) : w.cell? ⟨(x.add i).block, (x.add i).off + 1, none⟩ = some v := by
  rw [← Go.Deep.add_add] at h
  rw [← h]; rfl
/-- The slice at a holds the fields l. -/
def FldsIn (w : World) (a : Option Addr) (l : List Fld) : Prop :=
  ∀ j (hj : j < l.length), ∃ x, a = some x ∧ w.cell? (x.add (j * 2)) = some (.string l[j].1) ∧ w.cell? (x.add (j * 2 + 1)) = some (.string l[j].2)
theorem FldsIn.keep {w w' : World} {a : Option Addr} {l : List Fld} (h : FldsIn w a l) (hb : Below w.heap.size w w') : FldsIn w' a l := fun j hj => by
  obtain ⟨x, e, h1, h2⟩ := h j hj
  exact ⟨x, e, below_cell hb h1, below_cell hb h2⟩
theorem FldsIn.nil (w : World) (a : Option Addr) : FldsIn w a [] := fun _ hj => absurd hj (Nat.not_lt_zero _)
theorem FldsIn.take {w : World} {a : Option Addr} {l : List Fld} (h : FldsIn w a l) (k : Nat) : FldsIn w a (l.take k) := fun j hj => by
  have hj' : j < l.length := by rw [List.length_take] at hj; omega
  obtain ⟨x, e, h1, h2⟩ := h j hj'
  exact ⟨x, e, by rw [List.getElem_take]; exact h1, by rw [List.getElem_take]; exact h2⟩
theorem FldsIn.cells {w : World} {x : Addr} {l : List Fld} (h : FldsIn w (some x) l) : ∀ j u, (cellsF l)[j]? = some u → w.cell? (x.add j) = some u := fun j u hj => by
  have hlt : j < l.length * 2 := by rw [← cellsF_len]; exact (List.getElem?_eq_some_iff.1 hj).1
  have hk : j / 2 < l.length := by omega
  obtain ⟨y, e, h1, h2⟩ := h (j / 2) hk
  obtain rfl := Option.some.inj e
  obtain ⟨g1, g2⟩ := cellsF_get l (j / 2) hk
  rcases Nat.mod_two_eq_zero_or_one j with hm | hm
  · have : j / 2 * 2 = j := by omega
    rw [this] at h1 g1
    rw [hj] at g1; rw [h1, ← g1]
  · have : j / 2 * 2 + 1 = j := by omega
    rw [this] at h2 g2
    rw [hj] at g2; rw [h2, ← g2]
theorem FldsIn.of_cells {w : World} {x : Addr} {l : List Fld} (h : ∀ j u, (cellsF l)[j]? = some u → w.cell? (x.add j) = some u) : FldsIn w (some x) l := fun j hj =>
  ⟨x, rfl, h _ _ (cellsF_get l j hj).1, h _ _ (cellsF_get l j hj).2⟩

theorem run_loadF (w : World) (p : Addr) (n v : ByteArray) (h0 : w.cell? p = some (.string n)) (h1 : w.cell? (p.add 1) = some (.string v)) :
    (Instr.loadAt 46 (.pointer (some p))).run Tryz.prog w = .ok (.agg #[.string n, .string v]) w := by
  have hl : (loadCells p 2).run Tryz.prog w = .ok #[.string n, .string v] w :=
    run_loadCells_list (P := Tryz.prog) w p [.string n, .string v] (fun j u hj => by
      match j, hj with
      | 0, hj => simp at hj; subst hj; rw [show p.add 0 = p by unfold Addr.add; split <;> simp_all]; exact h0
      | 1, hj => simp at hj; subst hj; exact h1
      | j + 2, hj => simp at hj)
  have hagg : (isAgg 46).run Tryz.prog w = .ok true w := by
    unfold isAgg
    rw [Sem.run_bind, run_underlying Tryz.underlying46 w]; rfl
  have hs : ((Tryz.prog.info? 46).map (·.size)) = some 2 := by kernel_rfl
  cases hq : Tryz.prog.info? 46 with
  | none => rw [hq] at hs; cases hs
  | some i =>
    have hs' : i.size = 2 := by rw [hq] at hs; simpa using hs
    simp [Instr.loadAt, Instr.sureAddr, loadVar, Sem.run_bind, hagg, sizeOf, typeInfo, hq, hs', hl]
theorem FldsIn.load {w : World} {x : Addr} {l : List Fld} (h : FldsIn w (some x) l) {j : Nat} (hj : j < l.length) :
    (Instr.loadAt 46 (.pointer (some (x.add (j * 2))))).run Tryz.prog w = .ok (.agg #[.string l[j].1, .string l[j].2]) w := by
  obtain ⟨y, e, h1, h2⟩ := h j hj
  obtain rfl := Option.some.inj e
  exact run_loadF w _ _ _ h1 (by rw [Go.Deep.add_add]; exact h2)

theorem Tryz.info46 : (Tryz.prog.info? 46).map (fun i => (i.zero, i.size, i.bytes)) = some (some (.agg #[.string ⟨#[]⟩, .string ⟨#[]⟩]), 2, 32) := by kernel_rfl
/-- v is a slice of the call's own with the fields l; what was there before the call is as it was. -/
def AccF (w0 w : World) (v : Value) (l : List Fld) : Prop :=
  w.ownsRow w0.heap.size 46 2 v l.length (cellsF l) ∧ Below w0.heap.size w0 w
theorem AccF.start (w : World) : AccF w w (.slice none 0 0) [] := ⟨World.ownsRow_nil _ _ _ _, Below.refl _ _⟩
theorem AccF.size {w0 w : World} {v : Value} {l : List Fld} (h : AccF w0 w v l) : w0.heap.size ≤ w.heap.size := h.2.size
theorem AccF.keep {w0 w w' : World} {v : Value} {l : List Fld} (h : AccF w0 w v l) (hb : Below w.heap.size w w') : AccF w0 w' v l :=
  ⟨ownsRow_keep h.1 hb, h.2.trans (hb.mono h.2.size)⟩
theorem AccF.shape {w0 w : World} {v : Value} {l : List Fld} (h : AccF w0 w v l) : ∃ a cap, v = .slice a l.length cap ∧ FldsIn w a l := by
  obtain ⟨⟨h1, h2⟩, _⟩ := h
  rcases h2 with ⟨rfl, h2⟩ | ⟨g, cap, cur, rfl, hg, hc, hcap, hm, hsz, ht⟩
  · have : l = [] := List.eq_nil_of_length_eq_zero h2
    subst this
    exact ⟨none, 0, rfl, FldsIn.nil _ _⟩
  · refine ⟨_, cap, rfl, FldsIn.of_cells fun j u hj => ?_⟩
    have e := congrArg (fun x => x[j]?) ht
    have hlt : j < l.length * 2 := by rw [← cellsF_len]; exact (List.getElem?_eq_some_iff.1 hj).1
    rw [hj, List.getElem?_take_of_lt hlt] at e
    rw [Addr.add_lit]
    simp only [World.cell?, hc, Nat.zero_add]
    simpa using e

section
variable {ops : Array Oper} {rest : List Oper} {o : Oper} {act : Act} {Q : Exit → Act → World → Prop}
/-- APPEND of one field to a slice of the call's own. -/
theorem wpList_append_accf (w : World) (hgd : o.guard = none) (s x : Operand) (ho : o.op = .call { callee := .builtin .append, args := #[s, x], argTypes := #[23, 23] })
    {w0 : World} {v : Value} {l : List Fld} (hs : act.eval s = v) (h : AccF w0 w v l) {b c : Nat} (hx : act.eval x = .slice (some ⟨b, 0, none⟩) 1 c) {y : Fld} (hy : w.cell? ⟨b, 0, none⟩ = some (.string y.1)) (hy2 : w.cell? ⟨b, 1, none⟩ = some (.string y.2))
    (hn : l.length + 1 ≤ 4398046511104)
    (K : ∀ g cap w', AccF w0 w' (.slice (some ⟨g, 0, none⟩) (l.length + 1) cap) (l ++ [y]) →
      wpList Tryz.prog ops Q rest (act.put o.dst (.slice (some ⟨g, 0, none⟩) (l.length + 1) cap)) w') : wpList Tryz.prog ops Q (o :: rest) act w := by
  obtain ⟨i0, hi, hz0, hz1, hz2⟩ := info_parts Tryz.info46
  refine wpList_append_lies w hgd s x 23 ho w0.heap.size 46 i0 _ 2 32 Tryz.underlying23 hi hz0 hz1 hz2 rfl (by decide) v l.length (cellsF l) hs h.1 ⟨b, 0, none⟩ 1 c [.string y.1, .string y.2] hx rfl ?_ ?_ (by decide) (by unfold maxLen; omega) (by omega) h.2.size w.heap.size rfl ?_
  · intro j u hj
    match j, hj with
    | 0, hj => simp at hj; subst hj; rw [Addr.add_lit]; exact hy
    | 1, hj => simp at hj; subst hj; rw [Addr.add_lit]; exact hy2
    | j + 2, hj => simp at hj
  · intro u hu; simp at hu; rcases hu with rfl | rfl <;> rfl
  · intro g cap w' hown hgrow hg hlt
    refine K g cap w' ⟨?_, h.2.grown hgrow h.2.size fun k hk => ?_⟩
    · rw [List.length_append, cellsF_app]; exact hown
    · exact (World.ownsRow.lt h.1 k hk).1
end

/-- Strings that a program may hold. -/
def ShortF (l : List Fld) : Prop := ∀ f ∈ l, f.1.size ≤ maxLen ∧ f.2.size ≤ maxLen
theorem ShortF.take {l : List Fld} (h : ShortF l) (k : Nat) : ShortF (l.take k) := fun f hf => h f (List.mem_of_mem_take hf)
theorem bulk_mem {H : Type} {x : DataW H} : ∀ {l : List (DataW H)}, x ∈ l → Rows.uptoBulk x ≤ Rows.uptoBulkAll l
  | y :: r, h => by
    simp only [Rows.uptoBulkAll]
    rcases List.mem_cons.1 h with rfl | h
    · omega
    · have := bulk_mem h; omega
def strF : Value → ByteArray | .string s => s | _ => ⟨#[]⟩
theorem open_fields {H : Type} {enc : TypeId × Value → H} {W : World} {a : Option Addr} {len cap : Nat} {d : DataW H} {ps : List MemPlace} {base : Nat}
    (h : DataW.Trod enc Tryz.prog W base (fun _ => true) true 23 (.slice a len cap) d ps) :
    ∃ l : List Fld, len = l.length ∧ FldsIn W a l ∧ l.length ≤ cap ∧ cap ≤ maxLen ∧ ShortF l ∧ ∀ f ∈ l, f.1.size ≤ Rows.uptoBulk d ∧ f.2.size ≤ Rows.uptoBulk d := by
  obtain ⟨fuel, hf⟩ := h
  rcases Go.Deep.open_slice_pairs Tryz.underlying23 Tryz.underlying46 (by kernel_rfl) (by kernel_rfl) (by kernel_rfl) (by kernel_rfl) (by kernel_rfl) hf with ⟨hcs, _⟩ | ⟨x, n, c, m, k, V0, V1, D0, D1, P0, P1, hcs, _, hl, hm, hmm, hx, hi⟩
  · simp [Value.cells] at hcs
    obtain ⟨rfl, rfl, rfl⟩ := hcs
    exact ⟨[], rfl, FldsIn.nil _ _, Nat.le_refl _, Nat.zero_le _, (fun f hf => by cases hf), (fun f hf => by cases hf)⟩
  · simp [Value.cells] at hcs
    obtain ⟨rfl, rfl, rfl⟩ := hcs
    have hlm : len ≤ m := by rw [hmm]; split <;> omega
    have each : ∀ i, i < m → ∃ s t : ByteArray, V0 i = .string s ∧ V1 i = .string t ∧ s.size ≤ maxLen ∧ t.size ≤ maxLen ∧ D0 i = .lit (.string s.data.toList) ∧ D1 i = .lit (.string t.data.toList) := fun i him => by
      obtain ⟨_, _, h3, h4⟩ := hi i him
      obtain ⟨s, e1, e2, e3⟩ := DataW.trod_string Tryz.underlying9 h3
      obtain ⟨t, f1, f2, f3⟩ := DataW.trod_string Tryz.underlying9 h4
      injection e1 with e1; injection f1 with f1
      exact ⟨s, t, e1, f1, e3, f3, congrArg Prod.fst e2, congrArg Prod.fst f2⟩
    have hlen : ((List.range len).map fun i => ((strF (V0 i), strF (V1 i)) : Fld)).length = len := by simp
    have hd : d = .slice ((List.range len).map fun i => .agg [D0 i, D1 i]) ((List.range (m - len)).map fun j => .agg [D0 (len + j), D1 (len + j)]) := congrArg Prod.fst hx
    refine ⟨(List.range len).map fun i => (strF (V0 i), strF (V1 i)), hlen.symm, fun j hj => ?_, by rw [hlen]; exact hl, hm, fun f hf => ?_, fun f hf => ?_⟩
    · rw [hlen] at hj
      obtain ⟨h1, h2, _⟩ := hi j (by omega)
      obtain ⟨s, t, e1, e2, _⟩ := each j (by omega)
      refine ⟨x, rfl, ?_, ?_⟩
      · rw [h1, e1]; simp [strF, e1]
      · rw [h2, e2]; simp [strF, e2]
    · obtain ⟨i, hi', rfl⟩ := List.mem_map.1 hf
      obtain ⟨s, t, e1, e2, e3, e4, _⟩ := each i (by have := List.mem_range.1 hi'; omega)
      rw [e1, e2]; exact ⟨e3, e4⟩
    · obtain ⟨i, hi', rfl⟩ := List.mem_map.1 hf
      obtain ⟨s, t, e1, e2, e3, e4, e5, e6⟩ := each i (by have := List.mem_range.1 hi'; omega)
      have hb := bulk_mem (x := (.agg [D0 i, D1 i] : DataW H)) (l := (List.range len).map fun i => .agg [D0 i, D1 i]) (List.mem_map.2 ⟨i, hi', rfl⟩)
      rw [e5, e6] at hb
      simp only [Rows.uptoBulk, Rows.uptoBulkAll] at hb
      have g1 : s.data.toList.length = s.size := by rw [Array.length_toList]; rfl
      have g2 : t.data.toList.length = t.size := by rw [Array.length_toList]; rfl
      rw [e1, e2, hd]
      simp only [strF, Rows.uptoBulk]
      omega
end Go.Proofs.YtgmbfiikkogenaaGreatDoor
namespace Go.Proofs.YtgmbfiikkogenaaGreatDoor
open Go.RowKit

def valuesL (l : List Fld) (n : ByteArray) : List ByteArray := (l.filter fun f => foldS f.1 n).map (·.2)
theorem valuesL_yes (l : List Fld) (n : ByteArray) (k : Nat) (h : k < l.length) (hf : foldS l[k].1 n = true) : valuesL (l.take (k + 1)) n = valuesL (l.take k) n ++ [l[k].2] := by
  unfold valuesL
  rw [List.take_succ_eq_append_getElem h, List.filter_append, List.map_append]; simp [hf]
theorem valuesL_no (l : List Fld) (n : ByteArray) (k : Nat) (h : k < l.length) (hf : foldS l[k].1 n = false) : valuesL (l.take (k + 1)) n = valuesL (l.take k) n := by
  unfold valuesL
  rw [List.take_succ_eq_append_getElem h, List.filter_append, List.map_append]; simp [hf]
theorem valuesL_len (l : List Fld) (n : ByteArray) : (valuesL l n).length ≤ l.length := by
  unfold valuesL; rw [List.length_map]; exact List.length_filter_le _ _
set_option maxRecDepth 100000 in
set_option maxHeartbeats 1000000 in
theorem refValues_any (l : List Fld) (n : ByteArray) (a : Option Addr) (cap : Nat) (w : World) (h : FldsIn w a l) (hz : ShortF l) (hn : n.size ≤ maxLen) (hl : l.length ≤ 1000000) :
    Calls Tryz.prog 47 #[.slice a l.length cap, .string n] w (RetStrs w (valuesL l n)) := by
  have H0 := Box.mk h
  have HZ := Box.mk hz
  clear h hz
  go_enter Tryz.func47, Tryz.ntmps47
  go_wp2_with fail
  go_loopw [5, 6] (fun v iv wr => ∃ k : Nat, k ≤ l.length ∧ iv = .int .i64 k ∧ Box (Acc w wr v (valuesL (l.take k) n))) (fun _ iv _ => l.length - (intOf iv).toNat)
  case atStart => exact ⟨0, Nat.zero_le _, rfl, ⟨Acc.start w⟩⟩
  case round =>
    obtain ⟨k, hk, rfl, HM⟩ := hrel
    by_cases hlt : k < l.length
    · obtain ⟨x, rfl, hx1, hx2⟩ := (H0.out.keep HM.out.2) k hlt
      have HSZ := Box.mk (HZ.out _ (List.getElem_mem hlt))
      have hVL := valuesL_len (l.take k) n
      have hVL2 : (l.take k).length ≤ k := List.length_take_le _ _
      by_cases hf : foldS l[k].1 n = true
      · have HT := Box.mk (valuesL_yes l n k hlt hf)
        have HC2 := Box.mk hx2
        generalize l[k] = f at *
        go_wp2_with fail
        refine (refFold_any f.1 n _ HSZ.out.1 hn).mono ?_
        rintro e w1 ⟨rfl, hb1⟩
        have hc2 := cell_next (below_cell hb1 HC2.out)
        have HM1 := Box.mk (HM.out.keep hb1)
        clear hb1 hx2
        go_wp2_with (at_builtin; refine wpList_append_acc _ rfl _ _ rfl rfl (HM1.out.keep ((Below.refl _ _).alloc (Nat.le_refl _) _)) rfl (y := f.2) ?c1 ?c2 ?c3)
        case c1 => simp
        case c2 => omega
        case c3 =>
          intro g cap' w' hacc _
          have HACC := Box.mk (show Acc w w' (.slice (some ⟨g, 0, none⟩) ((valuesL (l.take k) n).length + 1) cap') (valuesL (l.take (k + 1)) n) by rw [HT.out]; exact hacc)
          clear hacc HM1 HT
          go_wp2_with fail
          go_roundw
          case rel => exact ⟨k + 1, by omega, by go_num, HACC⟩
          case measure => simp [intOf]; omega
      · have hf' : foldS l[k].1 n = false := by simpa using hf
        have HT := Box.mk (valuesL_no l n k hlt hf')
        clear hf
        generalize l[k] = f at *
        go_wp2_with fail
        refine (refFold_any f.1 n _ HSZ.out.1 hn).mono ?_
        rintro e w1 ⟨rfl, hb1⟩
        have HM1 := Box.mk (show Acc w w1 _ (valuesL (l.take (k + 1)) n) by rw [HT.out]; exact HM.out.keep hb1)
        clear hb1
        go_wp2_with fail
        go_roundw
        case rel => exact ⟨k + 1, by omega, by go_num, HM1⟩
        case measure => simp [intOf]; omega
    · have HE := Box.mk (show Acc w wr _ (valuesL l n) by have := HM.out; rw [List.take_of_length_le (by omega)] at this; exact this)
      go_wp2_with fail
      obtain ⟨a', cap', rfl, hs⟩ := HE.out.shape
      go_ret
      exact ⟨a', cap', rfl, hs, HE.out.2⟩

def inFoldL (l : List ByteArray) (s : ByteArray) : Bool := l.any fun x => foldS x s
theorem inFoldL_no {l : List ByteArray} {s : ByteArray} {k : Nat} (h1 : k ≤ l.length) (h2 : ¬ k < l.length) (h : ∀ x ∈ l.take k, foldS x s = false) : inFoldL l s = false := by
  unfold inFoldL
  rw [List.take_of_length_le (by omega)] at h
  rw [List.any_eq_false]
  intro x hx
  rw [h x hx]; simp
set_option maxRecDepth 100000 in
set_option maxHeartbeats 1000000 in
theorem inFold_big (l : List ByteArray) (s : ByteArray) (a : Option Addr) (cap : Nat) (w : World) (h : StrsIn w a l) (hz : ∀ x ∈ l, x.size ≤ maxLen) (hs : s.size ≤ maxLen) (hl : l.length ≤ 4000000000) :
    Calls Tryz.prog 67 #[.slice a l.length cap, .string s] w fun e w' => e = .returned (.bool (inFoldL l s)) ∧ Below w.heap.size w w' := by
  have H0 := Box.mk h
  have HZ := Box.mk hz
  clear h hz
  go_enter Tryz.func67, Tryz.ntmps67
  go_wp2_with fail
  go_loopw [5] (fun iv wr => ∃ k : Nat, k ≤ l.length ∧ iv = .int .i64 k ∧ Box (Below w.heap.size w wr ∧ ∀ x ∈ l.take k, foldS x s = false)) (fun iv _ => l.length - (intOf iv).toNat)
  case atStart => exact ⟨0, Nat.zero_le _, rfl, ⟨Below.refl _ _, by simp⟩⟩
  case round =>
    obtain ⟨k, hk, rfl, HM⟩ := hrel
    by_cases hlt : k < l.length
    · obtain ⟨x, rfl, hx⟩ := (H0.out.keep HM.out.1) k hlt
      have HSZ := Box.mk (HZ.out _ (List.getElem_mem hlt))
      by_cases hf : foldS l[k] s = true
      · have HT := Box.mk (show inFoldL l s = true by unfold inFoldL; exact List.any_eq_true.2 ⟨_, List.getElem_mem hlt, hf⟩)
        generalize l[k] = f at *
        go_wp2_with fail
        refine (refFold_any f s _ HSZ.out hs).mono ?_
        rintro e w1 ⟨rfl, hb1⟩
        have HB1 := Box.mk (below_trans HM.out.1 hb1)
        clear hb1
        go_wp2_with fail
        go_ret
        exact ⟨ret_bool HT.out.symm, HB1.out⟩
      · have hf' : foldS l[k] s = false := by simpa using hf
        have HT := Box.mk (show ∀ x ∈ l.take (k + 1), foldS x s = false by
          rw [List.take_succ_eq_append_getElem hlt]
          intro x hx
          rcases List.mem_append.1 hx with h | h
          · exact HM.out.2 x h
          · simp at h; rw [h]; exact hf')
        clear hf
        generalize l[k] = f at *
        go_wp2_with fail
        refine (refFold_any f s _ HSZ.out hs).mono ?_
        rintro e w1 ⟨rfl, hb1⟩
        have HM1 := Box.mk (And.intro (below_trans HM.out.1 hb1) HT.out)
        clear hb1 HT
        go_wp2_with fail
        go_roundw
        case rel => exact ⟨k + 1, by omega, by go_num, HM1⟩
        case measure => simp [intOf]; omega
    · have HE := Box.mk (inFoldL_no hk hlt HM.out.2)
      go_wp2_with fail
      go_ret
      exact ⟨ret_bool HE.out.symm, HM.out.1⟩

def withoutL (l : List Fld) (ns : List ByteArray) : List Fld := l.filter fun f => !inFoldL ns f.1
theorem withoutL_yes (l : List Fld) (ns : List ByteArray) (k : Nat) (h : k < l.length) (hf : inFoldL ns l[k].1 = false) : withoutL (l.take (k + 1)) ns = withoutL (l.take k) ns ++ [l[k]] := by
  unfold withoutL
  rw [List.take_succ_eq_append_getElem h, List.filter_append]; simp [hf]
theorem withoutL_no (l : List Fld) (ns : List ByteArray) (k : Nat) (h : k < l.length) (hf : inFoldL ns l[k].1 = true) : withoutL (l.take (k + 1)) ns = withoutL (l.take k) ns := by
  unfold withoutL
  rw [List.take_succ_eq_append_getElem h, List.filter_append]; simp [hf]
theorem withoutL_len (l : List Fld) (ns : List ByteArray) : (withoutL l ns).length ≤ l.length := by
  unfold withoutL; exact List.length_filter_le _ _
theorem withoutL_short {l : List Fld} (h : ShortF l) (ns : List ByteArray) : ShortF (withoutL l ns) := fun f hf => h f (List.mem_filter.1 hf).1
/-- The call returns a slice of the fields l; what was there is as it was. -/
def RetFlds (w : World) (l : List Fld) (e : Ending) (w' : World) : Prop :=
  ∃ a cap, e = .returned (.slice a l.length cap) ∧ FldsIn w' a l ∧ Below w.heap.size w w'
/-- The same, of the call's own. -/
def RetAccF (w : World) (l : List Fld) (e : Ending) (w' : World) : Prop := ∃ v, e = .returned v ∧ AccF w w' v l
theorem AccF.lift {w w1 w2 : World} {v : Value} {l : List Fld} (h : Below w.heap.size w w1) (k : AccF w1 w2 v l) : AccF w w2 v l := by
  refine ⟨?_, below_trans h k.2⟩
  obtain ⟨⟨h1, h2⟩, _⟩ := k
  refine ⟨h1, ?_⟩
  rcases h2 with h2 | ⟨g, cap, cur, hv, hg, r⟩
  · exact .inl h2
  · exact .inr ⟨g, cap, cur, hv, Nat.le_trans h.size hg, r⟩
set_option maxRecDepth 100000 in
set_option maxHeartbeats 1000000 in
theorem refWithout_acc (l : List Fld) (ns : List ByteArray) (a b : Option Addr) (cap cb : Nat) (w : World) (h : FldsIn w a l) (hz : ShortF l) (hn : StrsIn w b ns) (hnz : ∀ x ∈ ns, x.size ≤ maxLen) (hl : l.length ≤ 1000000) (hnl : ns.length ≤ 4000000000) :
    Calls Tryz.prog 42 #[.slice a l.length cap, .slice b ns.length cb] w (RetAccF w (withoutL l ns)) := by
  have H0 := Box.mk h
  have HZ := Box.mk hz
  have HN := Box.mk hn
  have HNZ := Box.mk hnz
  clear h hz hn hnz
  go_enter Tryz.func42, Tryz.ntmps42
  go_wp2_with fail
  go_loopw [5, 6] (fun v iv wr => ∃ k : Nat, k ≤ l.length ∧ iv = .int .i64 k ∧ Box (AccF w wr v (withoutL (l.take k) ns))) (fun _ iv _ => l.length - (intOf iv).toNat)
  case atStart => exact ⟨0, Nat.zero_le _, rfl, ⟨AccF.start w⟩⟩
  case round =>
    obtain ⟨k, hk, rfl, HM⟩ := hrel
    by_cases hlt : k < l.length
    · obtain ⟨x, rfl, hx1, hx2⟩ := (H0.out.keep HM.out.2) k hlt
      have HSZ := Box.mk (HZ.out _ (List.getElem_mem hlt))
      have hVL := withoutL_len (l.take k) ns
      have hVL2 : (l.take k).length ≤ k := List.length_take_le _ _
      have HN1 := Box.mk (HN.out.keep HM.out.2)
      by_cases hf : inFoldL ns l[k].1 = true
      · have HT := Box.mk (withoutL_no l ns k hlt hf)
        clear hx2
        generalize l[k] = f at *
        go_wp2_with fail
        refine (inFold_big ns f.1 b cb _ HN1.out HNZ.out HSZ.out.1 hnl).mono ?_
        rintro e w1 ⟨rfl, hb1⟩
        have HM1 := Box.mk (show AccF w w1 _ (withoutL (l.take (k + 1)) ns) by rw [HT.out]; exact HM.out.keep hb1)
        clear hb1
        go_wp2_with fail
        go_roundw
        case rel => exact ⟨k + 1, by omega, by go_num, HM1⟩
        case measure => simp [intOf]; omega
      · have hf' : inFoldL ns l[k].1 = false := by simpa using hf
        have HT := Box.mk (withoutL_yes l ns k hlt hf')
        have HC1 := Box.mk hx1
        have HC2 := Box.mk hx2
        clear hf hx2
        generalize l[k] = f at *
        go_wp2_with fail
        refine (inFold_big ns f.1 b cb _ HN1.out HNZ.out HSZ.out.1 hnl).mono ?_
        rintro e w1 ⟨rfl, hb1⟩
        have hc1 := below_cell hb1 HC1.out
        have hc2 := cell_next (below_cell hb1 HC2.out)
        clear hx1
        have HM1 := Box.mk (HM.out.keep hb1)
        clear hb1
        go_wp2_with (at_builtin; refine wpList_append_accf _ rfl _ _ rfl rfl (HM1.out.keep ((Below.refl _ _).alloc (Nat.le_refl _) _)) rfl (y := f) ?c1 ?c2 ?c3 ?c4)
        case c1 => simp
        case c2 => simp
        case c3 => omega
        case c4 =>
          intro g cap' w' hacc
          have HACC := Box.mk (show AccF w w' (.slice (some ⟨g, 0, none⟩) ((withoutL (l.take k) ns).length + 1) cap') (withoutL (l.take (k + 1)) ns) by rw [HT.out]; exact hacc)
          clear hacc HM1 HT
          go_wp2_with fail
          go_roundw
          case rel => exact ⟨k + 1, by omega, by go_num, HACC⟩
          case measure => simp [intOf]; omega
    · have HE := Box.mk (show AccF w wr _ (withoutL l ns) by have := HM.out; rw [List.take_of_length_le (by omega)] at this; exact this)
      go_wp2_with fail
      go_ret
      exact ⟨_, rfl, HE.out⟩
end Go.Proofs.YtgmbfiikkogenaaGreatDoor
namespace Go.Proofs.YtgmbfiikkogenaaGreatDoor
open Go.RowKit

theorem inS_map (s : ByteArray) (ns : List ByteArray) : inS (lowS s) (ns.map lowS) = inFoldL ns s := by
  unfold inS inFoldL foldS
  rw [List.any_map]; rfl
theorem inS_one (s n : ByteArray) : inS (lowS s) ([n].map lowS) = foldS s n := by
  rw [inS_map]
  unfold inFoldL foldS
  simp only [List.any_cons, List.any_nil, Bool.or_false]
  exact Bool.beq_comm
theorem new_cellF (w : World) (cs : Array Value) (t : TypeId) (j : Nat) : (w.alloc (.cells cs t (0, 0))).cell? ⟨w.heap.size, j, none⟩ = cs[j]? :=
  cell_of_row _ _ _ _ _ _ (heap_alloc_new w (.cells cs t (0, 0)))
theorem strsIn_one (w : World) (n : ByteArray) (t : TypeId) : StrsIn (w.alloc (.cells #[.string n] t)) (some ⟨w.heap.size, 0, none⟩) [n] := fun j hj => by
  obtain rfl : j = 0 := by simpa using hj
  exact ⟨_, rfl, by rw [Addr.add_lit, new_cellF]; rfl⟩
theorem below_twoF {w w1 : World} (h : Below w.heap.size w w1) (o : Obj) : Below w.heap.size w (w1.alloc o) := below_trans h (below_oneF w1 o)

theorem SetIn.grown {w w' : World} {b n : Nat} {S : List ByteArray} {row : Option Nat} (h : SetIn w b n S) (hg : w.grownBy w' row) (hne : row ≠ some b) : SetIn w' b n S := by
  obtain ⟨D, h1, h2⟩ := h
  exact ⟨D, h1.kept hg (fun e => hne e.symm), h2⟩
section
variable {ops : Array Oper} {rest : List Oper} {o : Oper} {act : Act} {Q : Exit → Act → World → Prop}
/-- APPEND of one string beside a set. -/
theorem wpList_append_accset (w : World) (hgd : o.guard = none) (s x : Operand) (ho : o.op = .call { callee := .builtin .append, args := #[s, x], argTypes := #[27, 27] })
    {w0 : World} {v : Value} {l : List ByteArray} (hs : act.eval s = v) (h : Acc w0 w v l) {b c : Nat} (hx : act.eval x = .slice (some ⟨b, 0, none⟩) 1 c) {y : ByteArray} (hy : w.cell? ⟨b, 0, none⟩ = some (.string y))
    {q m : Nat} {S : List ByteArray} (hS : SetIn w q m S) (hne : v.ownBlock ≠ some q) (hn : l.length + 1 ≤ 8796093022208)
    (K : ∀ v' w', Acc w0 w' v' (l ++ [y]) → SetIn w' q m S → v'.ownBlock ≠ some q → wpList Tryz.prog ops Q rest (act.put o.dst v') w') : wpList Tryz.prog ops Q (o :: rest) act w := by
  obtain ⟨i0, hi, hz0, hz1, hz2⟩ := info_parts Tryz.info9
  refine wpList_append_lies w hgd s x 27 ho w0.heap.size 9 i0 (.string ⟨#[]⟩) 1 16 Tryz.underlying27 hi hz0 hz1 hz2 rfl (by decide) v l.length (l.map Value.string) hs h.1 ⟨b, 0, none⟩ 1 c [.string y] hx rfl ?_ ?_ (by decide) (by unfold maxLen; omega) (by omega) h.2.size w.heap.size rfl ?_
  · intro j u hj
    match j, hj with
    | 0, hj => simp at hj; subst hj; rw [Addr.add_lit]; exact hy
    | j + 1, hj => simp at hj
  · intro u hu; simp at hu; subst hu; rfl
  · intro g cap w' hown hgrow hg hlt
    refine K _ w' ⟨by simpa using hown, h.2.grown hgrow h.2.size fun k hk => (World.ownsRow.lt h.1 k hk).1⟩ (hS.grown hgrow hne) (fun e => ?_)
    have : g = q := by simpa [Value.ownBlock] using e
    subst this
    rcases hg with hg | hg
    · exact hne hg
    · have := hS.lt; omega
/-- APPEND of one field beside a set. -/
theorem wpList_append_accfset (w : World) (hgd : o.guard = none) (s x : Operand) (ho : o.op = .call { callee := .builtin .append, args := #[s, x], argTypes := #[23, 23] })
    {w0 : World} {v : Value} {l : List Fld} (hs : act.eval s = v) (h : AccF w0 w v l) {b c : Nat} (hx : act.eval x = .slice (some ⟨b, 0, none⟩) 1 c) {y : Fld} (hy : w.cell? ⟨b, 0, none⟩ = some (.string y.1)) (hy2 : w.cell? ⟨b, 1, none⟩ = some (.string y.2))
    {q m : Nat} {S : List ByteArray} (hS : SetIn w q m S) (hne : v.ownBlock ≠ some q) (hn : l.length + 1 ≤ 4398046511104)
    (K : ∀ v' w', AccF w0 w' v' (l ++ [y]) → SetIn w' q m S → v'.ownBlock ≠ some q → wpList Tryz.prog ops Q rest (act.put o.dst v') w') : wpList Tryz.prog ops Q (o :: rest) act w := by
  obtain ⟨i0, hi, hz0, hz1, hz2⟩ := info_parts Tryz.info46
  refine wpList_append_lies w hgd s x 23 ho w0.heap.size 46 i0 _ 2 32 Tryz.underlying23 hi hz0 hz1 hz2 rfl (by decide) v l.length (cellsF l) hs h.1 ⟨b, 0, none⟩ 1 c [.string y.1, .string y.2] hx rfl ?_ ?_ (by decide) (by unfold maxLen; omega) (by omega) h.2.size w.heap.size rfl ?_
  · intro j u hj
    match j, hj with
    | 0, hj => simp at hj; subst hj; rw [Addr.add_lit]; exact hy
    | 1, hj => simp at hj; subst hj; rw [Addr.add_lit]; exact hy2
    | j + 2, hj => simp at hj
  · intro u hu; simp at hu; rcases hu with rfl | rfl <;> rfl
  · intro g cap w' hown hgrow hg hlt
    refine K _ w' ⟨by rw [List.length_append, cellsF_app]; exact hown, h.2.grown hgrow h.2.size fun k hk => (World.ownsRow.lt h.1 k hk).1⟩ (hS.grown hgrow hne) (fun e => ?_)
    have : g = q := by simpa [Value.ownBlock] using e
    subst this
    rcases hg with hg | hg
    · exact hne hg
    · have := hS.lt; omega
end
theorem one_short (n : ByteArray) : ([n] : List ByteArray).length ≤ 140737488355328 := by show 1 ≤ 140737488355328; decide

set_option maxRecDepth 100000 in
set_option maxHeartbeats 2000000 in
theorem fValues_any (l : List Fld) (n : ByteArray) (a : Option Addr) (cap : Nat) (w : World) (h : FldsIn w a l) (hz : ShortF l) (hn : n.size ≤ maxLen) (hl : l.length ≤ 1000000) :
    Calls Tryz.prog 119 #[.slice a l.length cap, .string n] w (RetStrs w (valuesL l n)) := by
  have H0 := Box.mk h
  have HZ := Box.mk hz
  clear h hz
  go_enter Tryz.func119, Tryz.ntmps119
  go_wp2_with fail
  refine (setOf_any [n] _ _ _ (strsIn_one w n _) (by simpa using hn) (one_short n)).mono ?_
  rintro e w1 ⟨b, m, rfl, hS, hb⟩
  have HS := Box.mk hS
  have HB := Box.mk (below_trans (below_oneF w (.cells #[.string n] 9)) hb)
  clear hS hb
  have HA0 := Box.mk (show Acc w w1 (.slice none 0 0) (valuesL (l.take 0) n) from ⟨World.ownsRow_nil _ _ _ _, HB.out⟩)
  go_wp2_with fail
  go_loopw [5, 14] (fun v iv wr => ∃ k : Nat, k ≤ l.length ∧ iv = .int .i64 k ∧ Box (Acc w wr v (valuesL (l.take k) n) ∧ SetIn wr b m ([n].map lowS) ∧ v.ownBlock ≠ some b)) (fun _ iv _ => l.length - (intOf iv).toNat)
  case atStart => exact ⟨0, Nat.zero_le _, rfl, ⟨HA0.out, HS.out, by simp [Value.ownBlock]⟩⟩
  case round =>
    clear HS HB HA0
    obtain ⟨k, hk, rfl, HM⟩ := hrel
    by_cases hlt : k < l.length
    · obtain ⟨x, rfl, hx1, hx2⟩ := (H0.out.keep HM.out.1.2) k hlt
      have hx2 := cell_next hx2
      have HSZ := Box.mk (HZ.out _ (List.getElem_mem hlt))
      have hVL := valuesL_len (l.take k) n
      have hVL2 : (l.take k).length ≤ k := List.length_take_le _ _
      by_cases hf : foldS l[k].1 n = true
      · have HT := Box.mk (valuesL_yes l n k hlt hf)
        have HIN := Box.mk (show inS (lowS l[k].1) ([n].map lowS) = true by rw [inS_one]; exact hf)
        clear hf
        generalize l[k] = f at *
        go_wp2_with fail
        refine (hdrIn_any f.1 f.2 b m _ _ (HM.out.2.1.keep (below_oneF wr (.cells #[.string f.1, .string f.2] 46))) HSZ.out.1).mono ?_
        rintro e w2 ⟨he, hb1⟩
        rw [HIN.out] at he
        subst he
        have hc2 : w2.cell? ⟨wr.heap.size, 1, none⟩ = some (.string f.2) := below_cell hb1 (by rw [new_cellF]; rfl)
        have HB2 := Box.mk (below_trans (below_oneF wr (.cells #[.string f.1, .string f.2] 46)) hb1)
        have HA2 := Box.mk (HM.out.1.keep HB2.out)
        have HS2 := Box.mk (HM.out.2.1.keep HB2.out)
        clear hb1 HIN
        go_wp2_with (at_builtin; refine wpList_append_accset _ rfl _ _ rfl rfl (HA2.out.keep ((Below.refl _ _).alloc (Nat.le_refl _) _)) rfl (y := f.2) ?c1 (HS2.out.keep ((Below.refl _ _).alloc (Nat.le_refl _) _)) HM.out.2.2 ?c2 ?c3)
        case c1 => simp
        case c2 => omega
        case c3 =>
          intro v' w' hacc hs' hne
          have HACC := Box.mk (show Acc w w' v' (valuesL (l.take (k + 1)) n) ∧ SetIn w' b m ([n].map lowS) ∧ v'.ownBlock ≠ some b by rw [HT.out]; exact ⟨hacc, hs', hne⟩)
          clear hacc hs' hne HT HA2 HS2 HB2 HM
          go_wp2_with fail
          go_roundw
          case rel => exact ⟨k + 1, by omega, by go_num, HACC⟩
          case measure => simp [intOf]; omega
      · have hf' : foldS l[k].1 n = false := by simpa using hf
        have HT := Box.mk (valuesL_no l n k hlt hf')
        have HIN := Box.mk (show inS (lowS l[k].1) ([n].map lowS) = false by rw [inS_one]; exact hf')
        clear hf hf'
        generalize l[k] = f at *
        go_wp2_with fail
        refine (hdrIn_any f.1 f.2 b m _ _ (HM.out.2.1.keep (below_oneF wr (.cells #[.string f.1, .string f.2] 46))) HSZ.out.1).mono ?_
        rintro e w2 ⟨he, hb1⟩
        rw [HIN.out] at he
        subst he
        have HB2 := Box.mk (below_trans (below_oneF wr (.cells #[.string f.1, .string f.2] 46)) hb1)
        have HM2 := Box.mk (show Acc w w2 _ (valuesL (l.take (k + 1)) n) ∧ SetIn w2 b m ([n].map lowS) ∧ _ by rw [HT.out]; exact ⟨HM.out.1.keep HB2.out, HM.out.2.1.keep HB2.out, HM.out.2.2⟩)
        clear hb1 HIN HT HB2
        go_wp2_with fail
        go_roundw
        case rel => exact ⟨k + 1, by omega, by go_num, HM2⟩
        case measure => simp [intOf]; omega
    · have HE := Box.mk (show Acc w wr _ (valuesL l n) by have := HM.out.1; rw [List.take_of_length_le (by omega)] at this; exact this)
      go_wp2_with fail
      obtain ⟨a', cap', rfl, hs⟩ := HE.out.shape
      go_ret
      exact ⟨a', cap', rfl, hs, HE.out.2⟩

set_option maxRecDepth 100000 in
set_option maxHeartbeats 2000000 in
theorem fWithout_acc (l : List Fld) (ns : List ByteArray) (a d : Option Addr) (cap cd : Nat) (w : World) (h : FldsIn w a l) (hz : ShortF l) (hn : StrsIn w d ns) (hnz : ∀ x ∈ ns, x.size ≤ maxLen) (hl : l.length ≤ 1000000) (hnl : ns.length ≤ 4000000000) :
    Calls Tryz.prog 56 #[.slice a l.length cap, .slice d ns.length cd] w (RetAccF w (withoutL l ns)) := by
  have H0 := Box.mk h
  have HZ := Box.mk hz
  have HN := Box.mk hn
  have HNZ := Box.mk hnz
  clear h hz hn hnz
  go_enter Tryz.func56, Tryz.ntmps56
  go_wp2_with fail
  refine (setOf_any ns _ _ _ HN.out HNZ.out (by omega)).mono ?_
  rintro e w1 ⟨b, m, rfl, hS, hb⟩
  have HS := Box.mk hS
  have HB := Box.mk hb
  clear hS hb
  have HA0 := Box.mk (show AccF w w1 (.slice none 0 0) (withoutL (l.take 0) ns) from ⟨World.ownsRow_nil _ _ _ _, HB.out⟩)
  go_wp2_with fail
  go_loopw [5, 13] (fun v iv wr => ∃ k : Nat, k ≤ l.length ∧ iv = .int .i64 k ∧ Box (AccF w wr v (withoutL (l.take k) ns) ∧ SetIn wr b m (ns.map lowS) ∧ v.ownBlock ≠ some b)) (fun _ iv _ => l.length - (intOf iv).toNat)
  case atStart => exact ⟨0, Nat.zero_le _, rfl, ⟨HA0.out, HS.out, by simp [Value.ownBlock]⟩⟩
  case round =>
    clear HS HB HA0
    obtain ⟨k, hk, rfl, HM⟩ := hrel
    by_cases hlt : k < l.length
    · obtain ⟨x, rfl, hx1, hx2⟩ := (H0.out.keep HM.out.1.2) k hlt
      have hx2 := cell_next hx2
      have HSZ := Box.mk (HZ.out _ (List.getElem_mem hlt))
      have hVL := withoutL_len (l.take k) ns
      have hVL2 : (l.take k).length ≤ k := List.length_take_le _ _
      by_cases hf' : inFoldL ns l[k].1 = false
      · have HT := Box.mk (withoutL_yes l ns k hlt hf')
        have HIN := Box.mk (show inS (lowS l[k].1) (ns.map lowS) = false by rw [inS_map]; exact hf')
        clear hf'
        generalize l[k] = f at *
        go_wp2_with fail
        refine (hdrIn_any f.1 f.2 b m _ _ (HM.out.2.1.keep (below_oneF wr (.cells #[.string f.1, .string f.2] 46))) HSZ.out.1).mono ?_
        rintro e w2 ⟨he, hb1⟩
        rw [HIN.out] at he
        subst he
        have hc1 : w2.cell? ⟨wr.heap.size, 0, none⟩ = some (.string f.1) := below_cell hb1 (by rw [new_cellF]; rfl)
        have hc2 : w2.cell? ⟨wr.heap.size, 1, none⟩ = some (.string f.2) := below_cell hb1 (by rw [new_cellF]; rfl)
        have HB2 := Box.mk (below_trans (below_oneF wr (.cells #[.string f.1, .string f.2] 46)) hb1)
        have HA2 := Box.mk (HM.out.1.keep HB2.out)
        have HS2 := Box.mk (HM.out.2.1.keep HB2.out)
        clear hb1 HIN
        go_wp2_with (at_builtin; refine wpList_append_accfset _ rfl _ _ rfl rfl (HA2.out.keep ((Below.refl _ _).alloc (Nat.le_refl _) _)) rfl (y := f) ?c1 ?c1b (HS2.out.keep ((Below.refl _ _).alloc (Nat.le_refl _) _)) HM.out.2.2 ?c2 ?c3)
        case c1 => simp
        case c1b => simp
        case c2 => omega
        case c3 =>
          intro v' w' hacc hs' hne
          have HACC := Box.mk (show AccF w w' v' (withoutL (l.take (k + 1)) ns) ∧ SetIn w' b m (ns.map lowS) ∧ v'.ownBlock ≠ some b by rw [HT.out]; exact ⟨hacc, hs', hne⟩)
          clear hacc hs' hne HT HA2 HS2 HB2 HM
          go_wp2_with fail
          go_roundw
          case rel => exact ⟨k + 1, by omega, by go_num, HACC⟩
          case measure => simp [intOf]; omega
      · have hf : inFoldL ns l[k].1 = true := by simpa using hf'
        have HT := Box.mk (withoutL_no l ns k hlt hf)
        have HIN := Box.mk (show inS (lowS l[k].1) (ns.map lowS) = true by rw [inS_map]; exact hf)
        clear hf hf'
        generalize l[k] = f at *
        go_wp2_with fail
        refine (hdrIn_any f.1 f.2 b m _ _ (HM.out.2.1.keep (below_oneF wr (.cells #[.string f.1, .string f.2] 46))) HSZ.out.1).mono ?_
        rintro e w2 ⟨he, hb1⟩
        rw [HIN.out] at he
        subst he
        have HB2 := Box.mk (below_trans (below_oneF wr (.cells #[.string f.1, .string f.2] 46)) hb1)
        have HM2 := Box.mk (show AccF w w2 _ (withoutL (l.take (k + 1)) ns) ∧ SetIn w2 b m (ns.map lowS) ∧ _ by rw [HT.out]; exact ⟨HM.out.1.keep HB2.out, HM.out.2.1.keep HB2.out, HM.out.2.2⟩)
        clear hb1 HIN HT HB2
        go_wp2_with fail
        go_roundw
        case rel => exact ⟨k + 1, by omega, by go_num, HM2⟩
        case measure => simp [intOf]; omega
    · have HE := Box.mk (show AccF w wr _ (withoutL l ns) by have := HM.out.1; rw [List.take_of_length_le (by omega)] at this; exact this)
      go_wp2_with fail
      go_ret
      exact ⟨_, rfl, HE.out⟩
end Go.Proofs.YtgmbfiikkogenaaGreatDoor
namespace Go.Proofs.YtgmbfiikkogenaaGreatDoor
open Go.RowKit

theorem StrsIn.at {w : World} {b off : Nat} {l : List ByteArray} (h : StrsIn w (some ⟨b, off, none⟩) l) : StrsAt w (some ⟨b, off, none⟩) l := fun j hj => by
  obtain ⟨x, e, hc⟩ := h j hj
  obtain rfl := Option.some.inj e
  exact ⟨b, off, rfl, by rw [← hc, show (⟨b, off, none⟩ : Addr).add j = ⟨b, off + j, none⟩ by unfold Addr.add; split <;> simp_all]⟩

section
variable (w : World) (m : Int)
set_option maxHeartbeats 1000000 in
theorem fElements_acc (l : List Fld) (n : ByteArray) (a : Option Addr) (cap : Nat) (h : FldsIn w a l) (hz : ShortF l) (hn : n.size ≤ maxLen) (hl : l.length ≤ 1000000) (hm : w.cell? ⟨2, 0, none⟩ = some (.int .i64 m)) (ht : total (valuesL l n) ≤ 4000000000) :
    Calls Tryz.prog 97 #[.slice a l.length cap, .string n] w (RetAcc w (listL (valuesL l n))) := by
  have H0 := Box.mk h
  have HM := Box.mk hm
  clear h hm
  go_enter Tryz.func97, Tryz.ntmps97
  go_wp2_with fail
  refine (fValues_any l n a cap _ H0.out hz hn hl).mono ?_
  rintro e w1 ⟨a', cap', rfl, hs, hb⟩
  have HB := Box.mk hb
  clear hb
  go_wp2_with fail
  refine (list_acc _ a' cap' _ m hs (below_cell HB.out HM.out) ht).mono ?_
  rintro e w2 ⟨v2, rfl, hs2⟩
  have HS2 := Box.mk (Acc.lift HB.out hs2)
  clear hs2 hs
  go_wp2_with fail
  go_ret
  exact ⟨v2, rfl, HS2.out⟩
set_option maxHeartbeats 1000000 in
theorem refElements_acc (l : List Fld) (n : ByteArray) (a : Option Addr) (cap : Nat) (h : FldsIn w a l) (hz : ShortF l) (hn : n.size ≤ maxLen) (hl : l.length ≤ 1000000) (ht : total (valuesL l n) ≤ 4000000000) :
    Calls Tryz.prog 68 #[.slice a l.length cap, .string n] w (RetAcc w (listL (valuesL l n))) := by
  have H0 := Box.mk h
  clear h
  go_enter Tryz.func68, Tryz.ntmps68
  go_wp2_with fail
  refine (refValues_any l n a cap _ H0.out hz hn hl).mono ?_
  rintro e w1 ⟨a', cap', rfl, hs, hb⟩
  have HB := Box.mk hb
  clear hb
  go_wp2_with fail
  refine (refList_acc _ a' cap' _ hs ht).mono ?_
  rintro e w2 ⟨v2, rfl, hs2⟩
  have HS2 := Box.mk (Acc.lift HB.out hs2)
  clear hs2 hs
  go_wp2_with fail
  go_ret
  exact ⟨v2, rfl, HS2.out⟩
end
end Go.Proofs.YtgmbfiikkogenaaGreatDoor
namespace Go.Proofs.YtgmbfiikkogenaaGreatDoor
open Go.RowKit

/-- The slice with its capacity: where it is nil, it is nil altogether. -/
def FldsC (w : World) (a : Option Addr) (l : List Fld) (c : Nat) : Prop := FldsIn w a l ∧ (a = none → l = [] ∧ c = 0)
theorem FldsC.keep {w w' : World} {a : Option Addr} {l : List Fld} {c : Nat} (h : FldsC w a l c) (hb : Below w.heap.size w w') : FldsC w' a l c := ⟨h.1.keep hb, h.2⟩
theorem AccF.empty (w : World) : AccF w (w.alloc (.cells #[] 46)) (.slice (some ⟨w.heap.size, 0, none⟩) 0 0) [] := by
  refine ⟨⟨rfl, .inr ⟨w.heap.size, 0, #[], rfl, Nat.le_refl _, ?_, Nat.le_refl _, Nat.zero_le _, rfl, rfl⟩⟩, (Below.refl _ _).alloc (Nat.le_refl _) _⟩
  show (w.heap.push _)[w.heap.size]? = _
  simp
theorem AccF.shapeC {w0 w : World} {v : Value} {l : List Fld} (h : AccF w0 w v l) : ∃ a cap, v = .slice a l.length cap ∧ FldsC w a l cap := by
  obtain ⟨a, cap, e, hs⟩ := h.shape
  refine ⟨a, cap, e, hs, fun ha => ?_⟩
  subst ha
  obtain ⟨⟨h1, h2⟩, _⟩ := h
  rcases h2 with ⟨rfl, h2⟩ | ⟨g, cap', cur, rfl, _⟩
  · injection e with e1 e2 e3
    exact ⟨List.eq_nil_of_length_eq_zero h2, e3.symm⟩
  · injection e with e1; cases e1

section
variable {ops : Array Oper} {rest : List Oper} {o : Oper} {act : Act} {Q : Exit → Act → World → Prop}
/-- APPEND of a slice of fields that is read to a slice of the call's own. -/
theorem wpList_append_accfs (w : World) (hgd : o.guard = none) (s x : Operand) (ho : o.op = .call { callee := .builtin .append, args := #[s, x], argTypes := #[23, 23] })
    {w0 : World} {v : Value} {l : List Fld} (hs : act.eval s = v) (h : AccF w0 w v l) {a : Option Addr} {r : List Fld} {c : Nat} (hx : act.eval x = .slice a r.length c) (hr : FldsC w a r c)
    (hn : l.length + r.length ≤ 4398046511104)
    (K : ∀ v' w', AccF w0 w' v' (l ++ r) → wpList Tryz.prog ops Q rest (act.put o.dst v') w') : wpList Tryz.prog ops Q (o :: rest) act w := by
  obtain ⟨i0, hi, hz0, hz1, hz2⟩ := info_parts Tryz.info46
  cases a with
  | none =>
    obtain ⟨rfl, rfl⟩ := hr.2 rfl
    refine wpList_append_own_none hgd s x 23 ho w0.heap.size 46 i0 2 Tryz.underlying23 hi v l.length (cellsF l) hs h.1 hx (K _ _ ?_)
    rw [List.append_nil]; exact h
  | some ad =>
    refine wpList_append_own_at w hgd s x 23 ho w0.heap.size 46 i0 _ 2 32 Tryz.underlying23 hi hz0 hz1 hz2 rfl (by decide) v l.length (cellsF l) hs h.1 ad r.length c (cellsF r) hx (cellsF_len r) (hr.1.cells) (cellsF_one r) (by unfold maxLen; omega) (by omega) h.2.size ?_
    intro v' w' hown hgrow _ _
    refine K v' w' ⟨?_, h.2.grown hgrow h.2.size fun k hk => (World.ownsRow.lt h.1 k hk).1⟩
    rw [List.length_append, cellsF_app]; exact hown
end

theorem grow_runF (w : World) (n : Nat) (h0 : 0 < n) (hn : n ≤ 4000000) (ty : TypeId) :
    ∃ cap w', (Builtin.append_ #[23, 3] ty #[.slice none 0 0, .int .i64 (n : Int)]).run Tryz.prog w = .ok (.slice (some ⟨w.heap.size, 0, none⟩) n cap) w' ∧ n ≤ cap ∧ cap ≤ maxLen ∧ AccF w w' (.slice (some ⟨w.heap.size, 0, none⟩) 0 cap) [] := by
  obtain ⟨i0, hi, hz0, hz1, hz2⟩ := info_parts Tryz.info46
  have h := Lib.run_append_grow_zeros w 23 3 ty 46 i0 _ .i64 .i64 Tryz.underlying23 Tryz.underlying3 hi hz0 none 0 0 [] (by rw [hz1]; simp [Builtin.firstCells]) n h0 (by rw [hz1]; decide) (by omega) (by omega) (by rw [hz2]; omega) (by rw [hz2]; exact growslice_fits (by omega) (by omega))
  rw [Nat.zero_add] at h
  have hcap := grownCap_ge w n 0 46
  have hmx := grownCap_le_maxLen w n 0 46 (by unfold maxLen; omega)
  refine ⟨_, _, h, hcap, hmx, ⟨rfl, .inr ⟨w.heap.size, _, _, rfl, Nat.le_refl _, (heap_alloc_new w.drew _), Nat.zero_le _, hmx, ?_, rfl⟩⟩, ((Below.refl _ _).drew).alloc (Nat.le_refl _) _⟩
  simp only [Array.size_append, size_zeroCells, List.size_toArray, List.length_nil]
  show 0 + n * 2 + (_ - n) * 2 = _
  omega

set_option maxRecDepth 100000 in
set_option maxHeartbeats 2000000 in
theorem growF_any (n : Nat) (w : World) (hn : n ≤ 4000000) :
    Calls Tryz.prog 72 #[.slice none 0 0, .int .i64 (n : Int)] w fun e w' => ∃ v, e = .returned v ∧ AccF w w' v [] := by
  by_cases h0 : 0 < n
  · obtain ⟨cap, w', hrun, hc1, hc2, hacc⟩ := grow_runF w n h0 hn 23
    have HACC := Box.mk hacc
    clear hacc
    unfold maxLen at hc2
    go_enter Tryz.func72, Tryz.ntmps72
    go_wp2_with (at_builtin; refine Lib.wpList_append_run _ rfl _ _ _ _ rfl _ _ rfl rfl _ _ hrun ?_)
    go_ret
    exact ⟨_, rfl, HACC.out⟩
  · obtain rfl : n = 0 := by omega
    go_enter Tryz.func72, Tryz.ntmps72
    go_wp2_with fail
    go_ret
    exact ⟨_, rfl, AccF.start w⟩
end Go.Proofs.YtgmbfiikkogenaaGreatDoor
namespace Go.Proofs.YtgmbfiikkogenaaGreatDoor
open Go.RowKit

/-- The slice at p holds two slices of fields. -/
def TwoF (w : World) (p : Nat) (l r : List Fld) : Prop :=
  ∃ a ca b cb, w.cell? ⟨p, 0, none⟩ = some (.slice a l.length ca) ∧ w.cell? ⟨p, 1, none⟩ = some (.slice b r.length cb) ∧ FldsC w a l ca ∧ FldsC w b r cb
theorem TwoF.keep {w w' : World} {p : Nat} {l r : List Fld} (h : TwoF w p l r) (hb : Below w.heap.size w w') : TwoF w' p l r := by
  obtain ⟨a, ca, b, cb, h1, h2, h3, h4⟩ := h
  exact ⟨a, ca, b, cb, below_cell hb h1, below_cell hb h2, h3.keep hb, h4.keep hb⟩
def nthF (l r : List Fld) (k : Nat) : List Fld := if k = 0 then l else r
def sumF (l r : List Fld) (k : Nat) : Nat := if k = 0 then 0 else if k = 1 then l.length else l.length + r.length
def joinF (l r : List Fld) (k : Nat) : List Fld := if k = 0 then [] else if k = 1 then l else l ++ r
theorem TwoF.at {w : World} {p : Nat} {l r : List Fld} (h : TwoF w p l r) {k : Nat} (hk : k < 2) : ∃ a c, w.cell? ⟨p, k, none⟩ = some (.slice a (nthF l r k).length c) ∧ FldsC w a (nthF l r k) c := by
  obtain ⟨a, ca, b, cb, h1, h2, h3, h4⟩ := h
  match k, hk with
  | 0, _ => exact ⟨a, ca, h1, h3⟩
  | 1, _ => exact ⟨b, cb, h2, h4⟩
theorem sumF_step (l r : List Fld) {k : Nat} (hk : k < 2) : sumF l r (k + 1) = sumF l r k + (nthF l r k).length := by
  match k, hk with
  | 0, _ => simp [sumF, nthF]
  | 1, _ => simp [sumF, nthF]
theorem joinF_step (l r : List Fld) {k : Nat} (hk : k < 2) : joinF l r (k + 1) = joinF l r k ++ nthF l r k := by
  match k, hk with
  | 0, _ => simp [joinF, nthF]
  | 1, _ => simp [joinF, nthF]
theorem joinF_len (l r : List Fld) (k : Nat) : (joinF l r k).length ≤ l.length + r.length := by
  unfold joinF; split
  · simp
  · split <;> simp
theorem sumF_le (l r : List Fld) (k : Nat) : sumF l r k ≤ l.length + r.length := by
  unfold sumF; split
  · omega
  · split <;> omega
theorem nthF_len (l r : List Fld) (k : Nat) : (nthF l r k).length ≤ l.length + r.length := by
  unfold nthF; split <;> omega

set_option maxRecDepth 100000 in
set_option maxHeartbeats 2000000 in
theorem concatF_acc (l r : List Fld) (p : Nat) (w : World) (h : TwoF w p l r) (hl : l.length ≤ 1000000) (hr : r.length ≤ 1000000) :
    Calls Tryz.prog 51 #[.slice (some ⟨p, 0, none⟩) 2 2] w (RetAccF w (l ++ r)) := by
  have H0 := Box.mk h
  clear h
  go_enter Tryz.func51, Tryz.ntmps51
  go_wp2_with fail
  go_loop [3, 11] (fun v iv => ∃ k : Nat, k ≤ 2 ∧ iv = .int .i64 k ∧ ∃ q : Nat, v = .int .i64 q ∧ Box (q = sumF l r k) ∧ q ≤ 2000000) (fun _ iv => 2 - (intOf iv).toNat)
  case atStart => exact ⟨0, Nat.zero_le _, rfl, 0, rfl, ⟨rfl⟩, by omega⟩
  case round =>
    obtain ⟨k, hk, rfl, q, rfl, HQ, hq⟩ := hrel
    by_cases hlt : k < 2
    · obtain ⟨a, c, hc, _⟩ := H0.out.at hlt
      have HS := Box.mk (sumF_step l r hlt)
      have h1 := sumF_le l r (k + 1)
      have h2 := nthF_len l r k
      have h3 : q + (nthF l r k).length ≤ 2000000 := by have := HS.out; have := HQ.out; omega
      go_wp2_with fail
      go_round
      case rel => exact ⟨k + 1, by omega, by go_num, q + (nthF l r k).length, by go_num, ⟨by rw [HS.out, HQ.out]⟩, by omega⟩
      case measure => simp [intOf]; omega
    · obtain rfl : k = 2 := by omega
      have h0 : q ≤ 4000000 := by omega
      go_wp2_with fail
      refine (growF_any q _ h0).mono ?_
      rintro e w1 ⟨v, rfl, hacc⟩
      have HA := Box.mk hacc
      clear hacc HQ
      go_wp2_with fail
      go_loopw [6, 27] (fun v iv wr => ∃ k : Nat, k ≤ 2 ∧ iv = .int .i64 k ∧ Box (AccF w wr v (joinF l r k))) (fun _ iv _ => 2 - (intOf iv).toNat)
      case atStart => exact ⟨0, Nat.zero_le _, rfl, ⟨HA.out⟩⟩
      case round =>
        clear HA
        obtain ⟨k, hk, rfl, HM⟩ := hrel
        by_cases hlt : k < 2
        · obtain ⟨a, c, hc, hf⟩ := (H0.out.keep HM.out.2).at hlt
          have HF := Box.mk hf
          have HJ := Box.mk (joinF_step l r hlt)
          have h1 := joinF_len l r k
          have h2 := nthF_len l r k
          clear hf
          go_wp2_with (at_builtin; refine wpList_append_accfs _ rfl _ _ rfl rfl HM.out rfl HF.out (by omega) ?c1)
          case c1 =>
            intro v' w' hacc
            have HACC := Box.mk (show AccF w w' v' (joinF l r (k + 1)) by rw [HJ.out]; exact hacc)
            clear hacc HM HF HJ
            go_wp2_with fail
            go_roundw
            case rel => exact ⟨k + 1, by omega, by go_num, HACC⟩
            case measure => simp [intOf]; omega
        · obtain rfl : k = 2 := by omega
          have HE := Box.mk (show AccF w wr _ (l ++ r) from HM.out)
          clear HM
          go_wp2_with fail
          go_ret
          exact ⟨_, rfl, HE.out⟩
theorem concatF_any (l r : List Fld) (p : Nat) (w : World) (h : TwoF w p l r) (hl : l.length ≤ 1000000) (hr : r.length ≤ 1000000) :
    Calls Tryz.prog 51 #[.slice (some ⟨p, 0, none⟩) 2 2] w fun e w' => RetFlds w (l ++ r) e w' ∧ ∃ a c, e = .returned (.slice a (l ++ r).length c) ∧ FldsC w' a (l ++ r) c :=
  (concatF_acc l r p w h hl hr).mono fun _ _ h => by
    obtain ⟨v, he, h⟩ := h
    obtain ⟨a, cap, rfl, hs⟩ := h.shapeC
    exact ⟨⟨a, cap, he, hs.1, h.2⟩, a, cap, he, hs⟩

theorem twoF_new (w : World) (l r : List Fld) (a b : Option Addr) (ca cb : Nat) (t : TypeId) (h : FldsC w a l ca) (k : FldsC w b r cb) : TwoF (w.alloc (.cells #[.slice a l.length ca, .slice b r.length cb] t)) w.heap.size l r :=
  ⟨a, ca, b, cb, by rw [new_cellF]; rfl, by rw [new_cellF]; rfl, h.keep (below_oneF _ _), k.keep (below_oneF _ _)⟩

def sameF (x y : List Fld) : Bool := decide (x = y)
theorem sameF_len {x y : List Fld} (h : ¬ x.length = y.length) : sameF x y = false := by
  unfold sameF; rw [decide_eq_false_iff_not]; intro e; exact h (by rw [e])
theorem sameF_no {x y : List Fld} {k : Nat} (h1 : k < x.length) (h2 : k < y.length) (h : ¬ x[k] = y[k]) : sameF x y = false := by
  unfold sameF; rw [decide_eq_false_iff_not]; intro e; subst e; exact h rfl
theorem sameF_yes {x y : List Fld} (hl : x.length = y.length) (h : ∀ j (h1 : j < x.length) (h2 : j < y.length), x[j] = y[j]) : sameF x y = true := by
  unfold sameF; rw [decide_eq_true_eq]; exact List.ext_getElem hl h
theorem sameF_self (x : List Fld) : sameF x x = true := by unfold sameF; simp

set_option maxRecDepth 100000 in
set_option maxHeartbeats 2000000 in
theorem sameFields_any (x y : List Fld) (a b : Option Addr) (ca cb : Nat) (w : World) (hx : FldsIn w a x) (hy : FldsIn w b y) (_hxl : x.length ≤ 2000000) (_hyl : y.length ≤ 2000000) :
    Calls Tryz.prog 22 #[.slice a x.length ca, .slice b y.length cb] w fun e w' => e = .returned (.bool (sameF x y)) ∧ Below w.heap.size w w' := by
  have HX := Box.mk hx
  have HY := Box.mk hy
  clear hx hy
  go_enter Tryz.func22, Tryz.ntmps22
  by_cases hl : x.length = y.length
  · have HL := Box.mk hl
    have hl1 : ((x.length : Int) != (y.length : Int)) = false := by simp [hl]
    have hl2 : x.length ≤ y.length := by omega
    clear hl
    go_wp2
    go_loopw [5] (fun i wr => ∃ k : Nat, k ≤ x.length ∧ i = .int .i64 k ∧ Box (∀ j (h1 : j < x.length) (h2 : j < y.length), j < k → x[j] = y[j]) ∧ Box (Below w.heap.size w wr)) (fun i _ => x.length - (intOf i).toNat)
    case atStart => exact ⟨0, Nat.zero_le _, rfl, ⟨by intro j _ _ h; omega⟩, ⟨Below.refl _ _⟩⟩
    case round =>
      obtain ⟨k, hk, rfl, HP, HB⟩ := hrel
      by_cases hlt : k < x.length
      · have hlt2 : k < y.length := by omega
        obtain ⟨x1, rfl, c1, c2⟩ := (HX.out.keep HB.out) k hlt
        obtain ⟨y1, rfl, d1, d2⟩ := (HY.out.keep HB.out) k hlt2
        have c2 := cell_next c2
        have d2 := cell_next d2
        by_cases he : x[k] = y[k]
        · have HE := Box.mk (show ∀ j (h1 : j < x.length) (h2 : j < y.length), j < k + 1 → x[j] = y[j] from fun j h1 h2 hj => by
            by_cases e : j = k
            · subst e; exact he
            · exact HP.out j h1 h2 (by omega))
          have e1 : (x[k].1.toList == y[k].1.toList) = true := by rw [he]; simp
          have e2 : (x[k].2.toList == y[k].2.toList) = true := by rw [he]; simp
          clear he
          generalize x[k] = f at *
          generalize y[k] = g at *
          go_wp2_with fail
          go_quiet (fail)
          go_wp2
          go_roundw
          case rel => exact ⟨k + 1, by omega, by go_num, HE, ⟨below_drewN HB.out _⟩⟩
          case measure => simp [intOf]; omega
        · have HN := Box.mk (sameF_no hlt hlt2 he)
          by_cases e1 : (x[k].1.toList == y[k].1.toList) = true
          · have e2 : (x[k].2.toList == y[k].2.toList) = false := by
              rw [toList_eq]; simp only [decide_eq_false_iff_not]
              intro h2
              rw [toList_eq] at e1
              exact he (Prod.ext (of_decide_eq_true e1) h2)
            clear he
            generalize x[k] = f at *
            generalize y[k] = g at *
            go_wp2_with fail
            go_quiet (fail)
            go_wp2
            go_ret
            exact ⟨ret_bool HN.out.symm, below_drewN HB.out _⟩
          · have e1' : (x[k].1.toList == y[k].1.toList) = false := by simpa using e1
            clear he e1
            generalize x[k] = f at *
            generalize y[k] = g at *
            go_wp2_with fail
            go_quiet (fail)
            go_wp2
            go_ret
            exact ⟨ret_bool HN.out.symm, below_drewN HB.out _⟩
      · go_wp2
        go_ret
        exact ⟨ret_bool (sameF_yes HL.out fun j h1 h2 => HP.out j h1 h2 (by omega)).symm, HB.out⟩
  · have hl1 : ((x.length : Int) != (y.length : Int)) = true := by rw [bne_iff_ne]; omega
    have HL := Box.mk hl
    clear hl
    go_wp2
    go_ret
    exact ⟨ret_bool (sameF_len HL.out).symm, Below.refl _ _⟩
end Go.Proofs.YtgmbfiikkogenaaGreatDoor
namespace Go.Proofs.YtgmbfiikkogenaaGreatDoor

theorem fullB_append (s : St) (P x : List UInt8) : ∀ n, 64 * n ≤ P.length → fullB s (P ++ x) n = fullB s P n
  | 0, _ => rfl
  | n + 1, h => by
    rw [fullB, fullB, fullB_append s P x n (by omega), List.drop_append_of_le_length (by omega), List.take_append_of_le_length (by simp; omega)]
theorem tailS_len (P : List UInt8) : (tailS P).length = P.length % 64 := by unfold tailS; rw [List.length_drop]; omega
theorem stS_small (P x : List UInt8) (h : P.length % 64 + x.length < 64) : stS (P ++ x) = stS P ∧ tailS (P ++ x) = tailS P ++ x := by
  have e : (P ++ x).length / 64 = P.length / 64 := by rw [List.length_append]; omega
  unfold stS tailS
  rw [e]
  exact ⟨fullB_append _ _ _ _ (by omega), List.drop_append_of_le_length (by omega)⟩
theorem stS_full (P x : List UInt8) (h : P.length % 64 + x.length = 64) : stS (P ++ x) = blockS (stS P) (tailS P ++ x) ∧ tailS (P ++ x) = [] := by
  have e : (P ++ x).length / 64 = P.length / 64 + 1 := by rw [List.length_append]; omega
  have hd : (P ++ x).drop (64 * (P.length / 64)) = tailS P ++ x := List.drop_append_of_le_length (by omega)
  have hl : (tailS P ++ x).length = 64 := by rw [List.length_append, tailS_len]; omega
  constructor
  · unfold stS
    rw [e, fullB, fullB_append _ _ _ _ (by omega), hd, List.take_of_length_le (by omega)]
  · unfold tailS
    rw [e, List.drop_eq_nil_iff, List.length_append]; omega
/-- The whole blocks of a text. -/
def headS (L : List UInt8) : List UInt8 := L.take (64 * (L.length / 64))
theorem headS_tail (L : List UInt8) : headS L ++ tailS L = L := List.take_append_drop _ _
theorem headS_len (L : List UInt8) : (headS L).length = 64 * (L.length / 64) := by unfold headS; rw [List.length_take]; omega
theorem headS_st (L : List UInt8) : stS (headS L) = stS L ∧ tailS (headS L) = [] := by
  have h := stS_small (headS L) (tailS L) (by rw [headS_len, tailS_len]; omega)
  rw [headS_tail] at h
  refine ⟨h.1.symm, ?_⟩
  unfold tailS
  rw [headS_len, Nat.mul_div_cancel_left _ (by decide), List.drop_eq_nil_iff, headS_len]
  omega

/-- What one turn of the loop does: f bytes stand in the block, n of the rest go in. -/
structure Turn (P rest blk : List UInt8) (f n : Nat) : Prop where
  len : blk.length = 64
  hf : f = P.length % 64
  pre : blk.take f = tailS P
  hn : n = min (64 - f) rest.length
def splB (blk : List UInt8) (f : Nat) (x : List UInt8) : List UInt8 := blk.take f ++ (x ++ blk.drop (f + x.length))
theorem splB_len {blk x : List UInt8} {f : Nat} (h : f + x.length ≤ blk.length) : (splB blk f x).length = blk.length := by unfold splB; simp; omega
theorem Turn.lt {P rest blk : List UInt8} {f n : Nat} (h : Turn P rest blk f n) : f < 64 := by have := h.hf; omega
theorem Turn.full {P rest blk : List UInt8} {f n : Nat} (h : Turn P rest blk f n) (hf : f + n = 64) :
    splB blk f (rest.take n) = tailS P ++ rest.take n ∧ stS (P ++ rest.take n) = blockS (stS P) (splB blk f (rest.take n)) ∧ tailS (P ++ rest.take n) = [] ∧ (P ++ rest.take n).length % 64 = 0 := by
  have hn := h.hn
  have hl := h.len
  have hff := h.hf
  have hx : (rest.take n).length = n := by rw [List.length_take]; omega
  have e : splB blk f (rest.take n) = tailS P ++ rest.take n := by
    unfold splB
    rw [h.pre, List.drop_eq_nil_iff.2 (by omega), List.append_nil]
  have hs := stS_full P (rest.take n) (by rw [hx]; omega)
  exact ⟨e, by rw [e]; exact hs.1, hs.2, by rw [List.length_append, hx]; omega⟩
theorem Turn.part {P rest blk : List UInt8} {f n : Nat} (h : Turn P rest blk f n) (hf : f + n < 64) :
    stS (P ++ rest.take n) = stS P ∧ (splB blk f (rest.take n)).take (f + n) = tailS (P ++ rest.take n) ∧ (P ++ rest.take n).length % 64 = f + n ∧ rest.drop n = [] := by
  have hn := h.hn
  have hl := h.len
  have hff := h.hf
  have hx : (rest.take n).length = n := by rw [List.length_take]; omega
  have hs := stS_small P (rest.take n) (by rw [hx]; omega)
  refine ⟨hs.1, ?_, by rw [List.length_append, hx]; omega, by rw [List.drop_eq_nil_iff]; omega⟩
  rw [hs.2, ← h.pre]
  unfold splB
  have h1 : (blk.take f).length = f := by rw [List.length_take]; omega
  rw [← List.append_assoc, List.take_left' (by rw [List.length_append, h1, hx])]

/-- A word as four bytes, the greatest first. -/
def be4 (x : UInt32) : List UInt8 := [(x >>> 24).toUInt8, (x >>> 16).toUInt8, (x >>> 8).toUInt8, x.toUInt8]
/-- What follows a text of n bytes. -/
def padL (n : Nat) : List UInt8 := 128 :: List.replicate ((119 - n % 64) % 64) 0 ++ (be4 (UInt32.ofNat (8 * n / 4294967296)) ++ be4 (UInt32.ofNat (8 * n)))
def St.list (s : St) : List UInt32 := [s.a, s.b, s.c, s.d, s.e, s.f, s.g, s.h]
def outS (s : St) : List UInt8 := s.list.flatMap be4
def sumS (L : List UInt8) : List UInt8 := outS (stS (L ++ padL L.length))
theorem padL_len (n : Nat) : (n + (padL n).length) % 64 = 0 := by
  unfold padL be4
  simp only [List.length_append, List.length_cons, List.length_replicate, List.length_nil]
  omega
end Go.Proofs.YtgmbfiikkogenaaGreatDoor
namespace Go.Proofs.YtgmbfiikkogenaaGreatDoor
open Go.RowKit

/-- Strings that are small enough to be joined. -/
def SmallF (l : List Fld) : Prop := ∀ f ∈ l, f.1.size ≤ 1048576 ∧ f.2.size ≤ 1048576
theorem le_maxLen {n : Nat} (h : n ≤ 1048576) : n ≤ maxLen := by unfold maxLen; omega

theorem ba_app_list (a b : ByteArray) : (a ++ b).data.toList = a.data.toList ++ b.data.toList := by rw [ByteArray.data_append]; simp

end Go.Proofs.YtgmbfiikkogenaaGreatDoor
namespace Go.Proofs.YtgmbfiikkogenaaGreatDoor
open Go.RowKit

def LastOK (P : Program) (Q : Exit → Act → World → Prop) (ops : Array Oper) (S : List (Option SpecQ)) (a0 : Act) (w0 : World) (st : Nat) : Prop :=
  match ops[st]? with
  | some o => ∀ a w, Below w0.heap.size w0 w → Fr ops a0 a → (∀ j, j < ops.size → j ≠ st → Holds ops (specAt S) a w j) → Region.wanted o (yielded ops a.tmps) = true ∧ o.wp P a w (fun a' w' => Q .normal a' w') Q
  | none => False

section
variable {P : Program} {Q : Exit → Act → World → Prop} {ops : Array Oper} {S : List (Option SpecQ)} {a0 : Act} {w0 : World}
theorem wp_region_last {id : Nat} (S : List (Option SpecQ)) (st : Nat) (hm : P.follows .mixedOrders = true)
    (hB : (List.range ops.size).all (fun i => match ops[i]? with | some x => x.after.all (fun e => !Region.binds .any e || decide (e.on < i)) | none => true) = true)
    (hd : dstsOk ops a0.tmps.size = true) (hl : lateB ops st [] = true) (hst : S[st]? = some none) (hlen : S.length = ops.size) (hone : (List.range S.length).all (fun i => decide (i = st) || (match S[i]? with | some (some _) => true | _ => false)) = true)
    (h : StepsS P Q ops S a0 w0 ops.toList S) (hS : LastOK P Q ops S a0 w0 st) : (Code.region id ops true).wp P Q a0 w0 := by
  have hstlt : st < ops.size := by rw [← hlen]; exact (List.getElem?_eq_some_iff.1 hst).1
  have hosto : ops[st]? = some ops[st] := Array.getElem?_eq_getElem hstlt
  unfold LastOK at hS
  rw [hosto] at hS
  simp only at hS
  have hwait : ∀ i, i < ops.size → i ≠ st → waitsFor ops[st] i = true := fun i hi hne => by
    have := List.all_eq_true.1 hl i (List.mem_range.2 hi)
    rw [hosto] at this
    simp only [Bool.or_eq_true, decide_eq_true_eq, List.contains_nil, Bool.false_eq_true, or_false] at this
    rcases this with h3 | h3
    · exact absurd h3 hne
    · exact h3
  refine wp_region_inv hm (fun m a w => (m.getD st false = false ∧ Fr ops a0 a ∧ Below w0.heap.size w0 w ∧ ∀ j, m.getD j false = true → Holds ops (specAt S) a w j) ∨
    (m.getD st false = true ∧ Q .normal a w ∧ ∀ j, waitsFor ops[st] j = true → m.getD j false = true)) ?_ ?_ ?_
  · rintro m a w hs hh i hi
    obtain ⟨h1, o, ho, hall⟩ := mem_ready.1 hi
    have hil : i < ops.size := (Array.getElem?_eq_some_iff.1 ho).1
    have hmi : m.getD i false = false := by
      have hs' : i < m.size := by rw [hs]; exact hil
      simp [hs'] at h1 ⊢; exact h1
    have hdeps : ∀ j, waitsFor o j = true → m.getD j false = true := fun j hj => by
      obtain ⟨e, he, h2⟩ := List.any_eq_true.1 hj
      simp only [Bool.and_eq_true, beq_iff_eq] at h2
      obtain ⟨h3, rfl⟩ := h2
      exact hall e (Array.mem_toList_iff.1 he) h3
    unfold wpOp
    simp only [ho]
    by_cases hist : i = st
    · subst hist
      have hoe : o = ops[i] := Option.some.inj (ho.symm.trans hosto)
      subst hoe
      rcases hh with ⟨_, hf, hb, hh⟩ | ⟨h2, _⟩
      · obtain ⟨hw, hwp⟩ := hS a w hb hf fun j hj hne => hh j (hdeps j (hwait j hj hne))
        rw [if_pos hw]
        refine .inl (Oper.wp_mono ?_ hwp)
        intro a' w' hq
        have hsz : i < m.size := by rw [hs]; exact hil
        exact .inr ⟨by simp [hsz], hq, fun j hj => getD_set_true (hdeps j hj)⟩
      · rw [hmi] at h2; cases h2
    · have hsi : ∃ s, S[i]? = some (some s) := by
        have := List.all_eq_true.1 hone i (List.mem_range.2 (by rw [hlen]; exact hil))
        cases hq : S[i]? with
        | none => rw [hq] at this; simp [hist] at this
        | some x =>
          cases x with
          | none => rw [hq] at this; simp [hist] at this
          | some s => exact ⟨s, rfl⟩
      obtain ⟨s, hsi⟩ := hsi
      rcases hh with ⟨h2, hf, hb, hh⟩ | ⟨h2, hp, hall2⟩
      · obtain ⟨s', hs', hstep⟩ := stepsS_at h i o (by simpa using ho)
        obtain rfl : s' = some s := Option.some.inj (hs'.symm.trans hsi)
        obtain ⟨hw, hwp⟩ := hstep s rfl a w hb hf fun j hj => hh j (hdeps j hj)
        rw [if_pos hw]
        refine .inl (Oper.wp_mono ?_ hwp)
        rintro a' w' ⟨v, rfl, hb', hsp⟩
        refine .inl ⟨by rw [getD_set_ne false hist]; exact h2, fr_put ho hf v, hb.trans (hb'.mono hb.size), fun j hj => ?_⟩
        by_cases hji : j = i
        · subst hji
          unfold Holds
          simp only [ho, specAt_get hsi]
          cases hdo : o.dst with
          | none => trivial
          | some d =>
            show s.p ((a.put (some d) v).eval (.tmp d)) w'
            rw [eval_put_same]
            · exact hsp
            · rw [hf.size]; exact (dsts_lt hd ho hdo).1
        · have hj' : m.getD j false = true := by rw [getD_set_ne false (fun e => hji e.symm)] at hj; exact hj
          exact holds_put hd ho hji (holds_mono (hh j hj') hb')
      · have := hall2 i (hwait i hil hist)
        rw [hmi] at this; cases this
  · rintro m a w hs hh hr
    have hmarked : ∀ j, j < ops.size → m.getD j false = true := fun j => by
      induction j using Nat.strongRecOn with
      | _ j ih =>
        intro hj
        cases hmj : m.getD j false with
        | true => rfl
        | false =>
          exfalso
          have hoj : ops[j]? = some ops[j] := Array.getElem?_eq_getElem hj
          have hbk := List.all_eq_true.1 hB j (List.mem_range.2 hj)
          rw [hoj] at hbk
          simp only [Array.all_eq_true_iff_forall_mem, Bool.or_eq_true, Bool.not_eq_true', decide_eq_true_eq] at hbk
          have hlt : ∀ e ∈ ops[j].after, Region.binds .any e = true → e.on < j := fun e he hbd => by
            rcases hbk e he with h | h
            · rw [hbd] at h; cases h
            · exact h
          have : j ∈ Region.ready .any ops m := mem_ready.2 ⟨by
            have hs' : j < m.size := by rw [hs]; exact hj
            simp [hs'] at hmj ⊢; exact hmj, ops[j], hoj, fun e he hbd => ih _ (hlt e he hbd) (by have := hlt e he hbd; omega)⟩
          rw [hr] at this; cases this
    rcases hh with ⟨h2, _⟩ | ⟨_, hp, _⟩
    · rw [hmarked st hstlt] at h2; cases h2
    · exact hp
  · refine .inl ⟨?_, ⟨rfl, rfl, fun _ _ => rfl⟩, (Below.refl _ _).drew, fun j hj => ?_⟩
    · simp only [Array.getD_eq_getD_getElem?, Array.getElem?_replicate]; split <;> rfl
    · exfalso
      simp only [Array.getD_eq_getD_getElem?, Array.getElem?_replicate] at hj
      split at hj <;> simp at hj
end
end Go.Proofs.YtgmbfiikkogenaaGreatDoor
namespace Go.Proofs.YtgmbfiikkogenaaGreatDoor
open Go.RowKit

theorem sizeF : (Tryz.prog.info? 46).map (·.size) = some 2 := by kernel_rfl
theorem oneF (a b : ByteArray) : (#[Value.string a, .string b] : Array Value).all (·.oneCell') = true := by simp [Value.oneCell']
/-- A field's variable. -/
def FVar (w : World) (g : Nat) (n v : ByteArray) : Prop := w.heap[g]? = some (.cells #[.string n, .string v] 46 (0, 0))
theorem FVar.keep {w w' : World} {g : Nat} {n v : ByteArray} (h : FVar w g n v) (hb : Below w.heap.size w w') : FVar w' g n v := by
  unfold FVar at *
  rw [hb.block g (Array.getElem?_eq_some_iff.1 h).1]; exact h
theorem FVar.new (w : World) (n v : ByteArray) : FVar (w.alloc (.cells #[.string n, .string v] 46)) w.heap.size n v := heap_alloc_new _ _
theorem FVar.c0 {w : World} {g : Nat} {n v : ByteArray} (h : FVar w g n v) : w.cell? ⟨g, 0, none⟩ = some (.string n) := by rw [cell_of_row _ _ _ _ _ _ h]; rfl
theorem FVar.c1 {w : World} {g : Nat} {n v : ByteArray} (h : FVar w g n v) : w.cell? ⟨g, 1, none⟩ = some (.string v) := by rw [cell_of_row _ _ _ _ _ _ h]; rfl
theorem FVar.run {w : World} {g : Nat} {n v : ByteArray} (h : FVar w g n v) : (Instr.loadAt 46 (.pointer (some ⟨g, 0, none⟩))).run Tryz.prog w = .ok (.agg #[.string n, .string v]) w :=
  run_loadF w _ _ _ h.c0 h.c1
theorem FVar.lt {w : World} {g : Nat} {n v : ByteArray} (h : FVar w g n v) : g < w.heap.size := (Array.getElem?_eq_some_iff.1 h).1

end Go.Proofs.YtgmbfiikkogenaaGreatDoor
