/- A region that draws its order and stores once, by what each operation leaves. -/
import Derived.Test.YtcniajbfgfikjaaDoorLocA
namespace Go.Proofs.YtcniajbfgfikjaaDoor
open Go.RowKit

/-- .. with what stays known of the value alone. -/
structure SpecQ extends Spec where
  q : Value → Prop
  weak : ∀ v w, p v w → q v
def SpecQ.val (v : Value) : SpecQ := ⟨.val v, fun x => x = v, fun _ _ h => h⟩
def SpecQ.of (s : Spec) : SpecQ := ⟨s, fun _ => True, fun _ _ _ => trivial⟩

def specAt (S : List (Option SpecQ)) : List Spec := S.map fun | some s => s.toSpec | none => .any
def HoldsW (ops : Array Oper) (S : List (Option SpecQ)) (a : Act) (j : Nat) : Prop :=
  match ops[j]?, S[j]? with
  | some o, some (some s) => (match o.dst with | some d => s.q (a.eval (.tmp d)) | none => True)
  | _, _ => True
/-- One operation that may come behind the store: it sees values alone. -/
def StepW (P : Program) (Q : Exit → Act → World → Prop) (ops : Array Oper) (S : List (Option SpecQ)) (a0 : Act) (o : Oper) (s : SpecQ) : Prop :=
  ∀ a w, Fr ops a0 a → (∀ j, waitsFor o j = true → HoldsW ops S a j) →
    Region.wanted o (yielded ops a.tmps) = true ∧ o.wp P a w (fun a' w' => w' = w ∧ ∃ v, a' = a.put o.dst v ∧ s.q v) Q
def StepsS (P : Program) (Q : Exit → Act → World → Prop) (ops : Array Oper) (S : List (Option SpecQ)) (a0 : Act) (w0 : World) : List Oper → List (Option SpecQ) → Prop
  | o :: os, some s :: ss => StepOK P Q ops (specAt S) a0 w0 o s.toSpec ∧ StepsS P Q ops S a0 w0 os ss
  | _ :: os, none :: ss => StepsS P Q ops S a0 w0 os ss
  | [], [] => True
  | _, _ => False
def LateOK (P : Program) (Q : Exit → Act → World → Prop) (ops : Array Oper) (S : List (Option SpecQ)) (a0 : Act) : List Nat → Prop
  | i :: r => (match ops[i]?, S[i]? with | some o, some (some s) => StepW P Q ops S a0 o s | _, _ => True) ∧ LateOK P Q ops S a0 r
  | [] => True
/-- Whatever is not among the late ones is waited for by the store. -/
def lateB (ops : Array Oper) (st : Nat) (late : List Nat) : Bool :=
  (List.range ops.size).all fun i => decide (i = st) || late.contains i || (match ops[st]? with | some o => waitsFor o i | none => false)
def StoreOK (P : Program) (Q : Exit → Act → World → Prop) (ops : Array Oper) (S : List (Option SpecQ)) (a0 : Act) (w0 : World) (st : Nat) (Post : World → Prop) : Prop :=
  match ops[st]? with
  | some o => o.dst = none ∧ ∀ a w, Below w0.heap.size w0 w → Fr ops a0 a → (∀ j, waitsFor o j = true → Holds ops (specAt S) a w j) → Region.wanted o (yielded ops a.tmps) = true ∧ o.wp P a w (fun a' w' => a' = a ∧ Post w') Q
  | none => False

section
variable {P : Program} {Q : Exit → Act → World → Prop} {ops : Array Oper} {S : List (Option SpecQ)} {a0 : Act} {w0 : World}
theorem stepsS_at : ∀ {os : List Oper} {ss : List (Option SpecQ)}, StepsS P Q ops S a0 w0 os ss → ∀ (i : Nat) (o : Oper), os[i]? = some o → ∃ s, ss[i]? = some s ∧ ∀ s', s = some s' → StepOK P Q ops (specAt S) a0 w0 o s'.toSpec
  | o :: os, some s :: ss, h, 0, _, rfl => ⟨some s, rfl, fun s' e => by obtain rfl := Option.some.inj e; exact h.1⟩
  | o :: os, some s :: ss, h, i + 1, o', ho => stepsS_at (os := os) (ss := ss) h.2 i o' ho
  | o :: os, none :: ss, h, 0, _, rfl => ⟨none, rfl, fun s' e => by cases e⟩
  | o :: os, none :: ss, h, i + 1, o', ho => stepsS_at (os := os) (ss := ss) h i o' ho
  | [], _, _, i, _, ho => by simp at ho
theorem lateOK_at : ∀ {late : List Nat}, LateOK P Q ops S a0 late → ∀ i, i ∈ late → ∀ o s, ops[i]? = some o → S[i]? = some (some s) → StepW P Q ops S a0 o s
  | k :: r, h, i, hi, o, s, ho, hs => by
    rcases List.mem_cons.1 hi with rfl | hi
    · have := h.1; simp only [ho, hs] at this; exact this
    · exact lateOK_at h.2 i hi o s ho hs
theorem specAt_get {j : Nat} {s : SpecQ} (h : S[j]? = some (some s)) : (specAt S)[j]? = some s.toSpec := by unfold specAt; rw [List.getElem?_map, h]; rfl
theorem specAt_none {j : Nat} (h : S[j]? = some none) : (specAt S)[j]? = some .any := by unfold specAt; rw [List.getElem?_map, h]; rfl
theorem holds_weak {a : Act} {w : World} {j : Nat} (h : Holds ops (specAt S) a w j) : HoldsW ops S a j := by
  unfold HoldsW
  split
  · rename_i o s ho hs
    unfold Holds at h
    rw [ho, specAt_get hs] at h
    cases hd : o.dst with
    | none => trivial
    | some d => simp only [hd] at h; exact s.weak _ _ h
  · trivial
theorem fr_put {a : Act} {o : Oper} {i : Nat} (ho : ops[i]? = some o) (hf : Fr ops a0 a) (v : Value) : Fr ops a0 (a.put o.dst v) := by
  refine ⟨?_, ?_, fun k hk => ?_⟩
  · have := hf.defers
    cases o.dst <;> simpa [Act.put] using this
  · have := hf.size
    cases o.dst <;> simpa [Act.put] using this
  · rw [eval_put_other, hf.base k hk]
    intro hk2
    have : isDst ops k = true := by
      unfold isDst
      exact List.any_eq_true.2 ⟨o, Array.mem_toList_iff.2 (Array.mem_of_getElem? ho), by rw [hk2]; simp⟩
    rw [hk] at this; cases this
theorem holds_put {a : Act} {o : Oper} {i j : Nat} {w : World} {T : List Spec} (hd : dstsOk ops a0.tmps.size = true) (ho : ops[i]? = some o) (hji : j ≠ i) {v : Value} (h : Holds ops T a w j) : Holds ops T (a.put o.dst v) w j := by
  unfold Holds at *
  cases hoj : ops[j]? with
  | none => simp
  | some o' =>
    cases hsj : T[j]? with
    | none => simp
    | some s' =>
      simp only [hoj, hsj] at h ⊢
      cases hdo : o'.dst with
      | none => trivial
      | some d =>
        simp only [hdo] at h ⊢
        show s'.p ((a.put o.dst v).eval (.tmp d)) w
        rw [eval_put_other]
        · exact h
        · intro e
          exact (dsts_lt hd ho e).2 j o' hoj hji hdo
theorem holdsW_put {a : Act} {o : Oper} {i j : Nat} (hd : dstsOk ops a0.tmps.size = true) (ho : ops[i]? = some o) (hji : j ≠ i) {v : Value} (h : HoldsW ops S a j) : HoldsW ops S (a.put o.dst v) j := by
  unfold HoldsW at *
  cases hoj : ops[j]? with
  | none => simp
  | some o' =>
    cases hsj : S[j]? with
    | none => simp
    | some s' =>
      cases s' with
      | none => simp
      | some s' =>
        simp only [hoj, hsj] at h ⊢
        cases hdo : o'.dst with
        | none => trivial
        | some d =>
          simp only [hdo] at h ⊢
          show s'.q ((a.put o.dst v).eval (.tmp d))
          rw [eval_put_other]
          · exact h
          · intro e
            exact (dsts_lt hd ho e).2 j o' hoj hji hdo
theorem wp_region_store {id : Nat} (S : List (Option SpecQ)) (st : Nat) (late : List Nat) (Post : World → Prop) (hm : P.follows .mixedOrders = true)
    (hB : (List.range ops.size).all (fun i => match ops[i]? with | some x => x.after.all (fun e => !Region.binds .any e || decide (e.on < i)) | none => true) = true)
    (hd : dstsOk ops a0.tmps.size = true) (hl : lateB ops st late = true) (hst : S[st]? = some none) (hlen : S.length = ops.size) (hone : (List.range S.length).all (fun i => decide (i = st) || (match S[i]? with | some (some _) => true | _ => false)) = true)
    (h : StepsS P Q ops S a0 w0 ops.toList S) (hL : LateOK P Q ops S a0 late) (hS : StoreOK P Q ops S a0 w0 st Post)
    (hQ : ∀ a w, Post w → Fr ops a0 a → (∀ j, j < ops.size → HoldsW ops S a j) → Q .normal a w) : (Code.region id ops true).wp P Q a0 w0 := by
  have hstlt : st < ops.size := by rw [← hlen]; exact (List.getElem?_eq_some_iff.1 hst).1
  have hosto : ops[st]? = some ops[st] := Array.getElem?_eq_getElem hstlt
  unfold StoreOK at hS
  rw [hosto] at hS
  simp only at hS
  refine wp_region_inv hm (fun m a w => Fr ops a0 a ∧ ((m.getD st false = false ∧ Below w0.heap.size w0 w ∧ ∀ j, m.getD j false = true → Holds ops (specAt S) a w j) ∨
    (m.getD st false = true ∧ Post w ∧ (∀ j, m.getD j false = true → HoldsW ops S a j) ∧ ∀ j, waitsFor ops[st] j = true → m.getD j false = true))) ?_ ?_ ?_
  · rintro m a w hs ⟨hf, hh⟩ i hi
    obtain ⟨h1, o, ho, hall⟩ := mem_ready.1 hi
    have hil : i < ops.size := (Array.getElem?_eq_some_iff.1 ho).1
    have hmi : m.getD i false = false := by
      have hs' : i < m.size := by rw [hs]; exact hil
      simp [hs'] at h1 ⊢; exact h1
    have hdeps : ∀ j, waitsFor o j = true → m.getD j false = true := fun j hj => by
      obtain ⟨e, he, h2⟩ := List.any_eq_true.1 hj
      simp only [Bool.and_eq_true, beq_iff_eq] at h2
      obtain ⟨h3, rfl⟩ := h2
      exact hall e (Array.mem_toList_iff.1 he) h3
    unfold wpOp
    simp only [ho]
    by_cases hist : i = st
    · subst hist
      have hoe : o = ops[i] := Option.some.inj (ho.symm.trans hosto)
      subst hoe
      rcases hh with ⟨_, hb, hh⟩ | ⟨h2, _⟩
      · obtain ⟨hdn, hS⟩ := hS
        obtain ⟨hw, hwp⟩ := hS a w hb hf fun j hj => hh j (hdeps j hj)
        rw [if_pos hw]
        refine .inl (Oper.wp_mono ?_ hwp)
        rintro a' w' ⟨rfl, hp⟩
        have hsz : i < m.size := by rw [hs]; exact hil
        refine ⟨hf, .inr ⟨by simp [hsz], hp, fun j hj => ?_, fun j hj => getD_set_true (hdeps j hj)⟩⟩
        by_cases hji : j = i
        · subst hji
          unfold HoldsW
          rw [hosto, hst]; trivial
        · rw [getD_set_ne false (fun e => hji e.symm)] at hj
          exact holds_weak (hh j hj)
      · rw [hmi] at h2; cases h2
    · have hsi : ∃ s, S[i]? = some (some s) := by
        have := List.all_eq_true.1 hone i (List.mem_range.2 (by rw [hlen]; exact hil))
        cases hq : S[i]? with
        | none => rw [hq] at this; simp [hist] at this
        | some x =>
          cases x with
          | none => rw [hq] at this; simp [hist] at this
          | some s => exact ⟨s, rfl⟩
      obtain ⟨s, hsi⟩ := hsi
      rcases hh with ⟨h2, hb, hh⟩ | ⟨h2, hp, hh, hall2⟩
      · obtain ⟨s', hs', hstep⟩ := stepsS_at h i o (by simpa using ho)
        obtain rfl : s' = some s := Option.some.inj (hs'.symm.trans hsi)
        obtain ⟨hw, hwp⟩ := hstep s rfl a w hb hf fun j hj => hh j (hdeps j hj)
        rw [if_pos hw]
        refine .inl (Oper.wp_mono ?_ hwp)
        rintro a' w' ⟨v, rfl, hb', hsp⟩
        refine ⟨fr_put ho hf v, .inl ⟨by rw [getD_set_ne false hist]; exact h2, hb.trans (hb'.mono hb.size), fun j hj => ?_⟩⟩
        by_cases hji : j = i
        · subst hji
          unfold Holds
          simp only [ho, specAt_get hsi]
          cases hdo : o.dst with
          | none => trivial
          | some d =>
            show s.p ((a.put (some d) v).eval (.tmp d)) w'
            rw [eval_put_same]
            · exact hsp
            · rw [hf.size]; exact (dsts_lt hd ho hdo).1
        · have hj' : m.getD j false = true := by rw [getD_set_ne false (fun e => hji e.symm)] at hj; exact hj
          exact holds_put hd ho hji (holds_mono (hh j hj') hb')
      · have hlate : i ∈ late := by
          have := List.all_eq_true.1 hl i (List.mem_range.2 hil)
          rw [hosto] at this
          simp only [Bool.or_eq_true, decide_eq_true_eq, List.contains_iff_mem] at this
          rcases this with (h3 | h3) | h3
          · exact absurd h3 hist
          · exact h3
          · have := hall2 i h3; rw [hmi] at this; cases this
        obtain ⟨hw, hwp⟩ := lateOK_at hL i hlate o s ho hsi a w hf fun j hj => hh j (hdeps j hj)
        rw [if_pos hw]
        refine .inl (Oper.wp_mono ?_ hwp)
        rintro a' w' ⟨rfl, v, rfl, hq⟩
        refine ⟨fr_put ho hf v, .inr ⟨getD_set_true h2, hp, fun j hj => ?_, fun j hj => getD_set_true (hall2 j hj)⟩⟩
        by_cases hji : j = i
        · subst hji
          unfold HoldsW
          simp only [ho, hsi]
          cases hdo : o.dst with
          | none => trivial
          | some d =>
            show s.q ((a.put (some d) v).eval (.tmp d))
            rw [eval_put_same]
            · exact hq
            · rw [hf.size]; exact (dsts_lt hd ho hdo).1
        · have hj' : m.getD j false = true := by rw [getD_set_ne false (fun e => hji e.symm)] at hj; exact hj
          exact holdsW_put hd ho hji (hh j hj')
  · rintro m a w hs ⟨hf, hh⟩ hr
    have hmarked : ∀ j, j < ops.size → m.getD j false = true := fun j => by
      induction j using Nat.strongRecOn with
      | _ j ih =>
        intro hj
        cases hmj : m.getD j false with
        | true => rfl
        | false =>
          exfalso
          have hoj : ops[j]? = some ops[j] := Array.getElem?_eq_getElem hj
          have hbk := List.all_eq_true.1 hB j (List.mem_range.2 hj)
          rw [hoj] at hbk
          simp only [Array.all_eq_true_iff_forall_mem, Bool.or_eq_true, Bool.not_eq_true', decide_eq_true_eq] at hbk
          have hlt : ∀ e ∈ ops[j].after, Region.binds .any e = true → e.on < j := fun e he hbd => by
            rcases hbk e he with h | h
            · rw [hbd] at h; cases h
            · exact h
          have : j ∈ Region.ready .any ops m := mem_ready.2 ⟨by
            have hs' : j < m.size := by rw [hs]; exact hj
            simp [hs'] at hmj ⊢; exact hmj, ops[j], hoj, fun e he hbd => ih _ (hlt e he hbd) (by have := hlt e he hbd; omega)⟩
          rw [hr] at this; cases this
    rcases hh with ⟨h2, _⟩ | ⟨_, hp, hh, _⟩
    · rw [hmarked st hstlt] at h2; cases h2
    · exact hQ a w hp hf fun j hj => hh j (hmarked j hj)
  · refine ⟨⟨rfl, rfl, fun _ _ => rfl⟩, .inl ⟨?_, (Below.refl _ _).drew, fun j hj => ?_⟩⟩
    · simp only [Array.getD_eq_getD_getElem?, Array.getElem?_replicate]; split <;> rfl
    · exfalso
      simp only [Array.getD_eq_getD_getElem?, Array.getElem?_replicate] at hj
      split at hj <;> simp at hj
end

section
variable {P : Program} {Q : Exit → Act → World → Prop} {ops : Array Oper} {a : Act} {w : World} {o : Oper} {s : SpecQ}
theorem late_run {v : Value} (h : (execOp a.eval o).run P w = .ok (.value v) w) (hs : s.q v) : o.wp P a w (fun a' w' => w' = w ∧ ∃ v, a' = a.put o.dst v ∧ s.q v) Q := by
  unfold Oper.wp
  rw [h]
  exact ⟨rfl, v, rfl, hs⟩
theorem late_move {x : Operand} (ho : o.op = .move x) (hs : s.q (a.eval x)) : o.wp P a w (fun a' w' => w' = w ∧ ∃ v, a' = a.put o.dst v ∧ s.q v) Q :=
  late_run (by unfold execOp; rw [ho]; rfl) hs
theorem late_assign {x : Operand} (ho : o.op = .assign x) (hs : s.q (a.eval x)) : o.wp P a w (fun a' w' => w' = w ∧ ∃ v, a' = a.put o.dst v ∧ s.q v) Q :=
  late_run (by unfold execOp; rw [ho]; rfl) hs
end
end Go.Proofs.YtcniajbfgfikjaaDoor
