/- A region that draws its order, in phases: between its breaking operations the others come in whatever order. The source of numbers of the laws: Within, Next, Of. The fields that the laws make: Field, Fields, fields, name. Fields of the source; fields and name of the laws. fields, name and awake of the laws; Short. awake of the laws; the law FieldFormat. How much the values of a name hold together. The plain mathematics of numerals: digits, their value with a limit, and that a numeral is read as its number. Contracts of the functions that read a number, of package number and of its reference. The contracts of awake and of the laws of layer 1. The contract of the law AsciiList. Frames of messages: what is said of them; the reference's frame, OfRequest, OfReply, Persistent. OfRequest, OfReply and Persistent of package framing, and what they call. What package hop does to fields: mathematics. Normalized fields: mathematics (sorted lists of names; what the result depends on). The names that go, and Strip, in the project and in the reference. The reference's Strip. Slices of strings: own ones, parts of them, appends in regions that draw their order. -/
import Derived.Test.YtgmbfiikkogenaaGreatDoorPk1
import Derived.Test.YtgmbfiikkogenaaGreatDoorPk2
import Derived.Deep.Quiet
import Derived.Deep.QuietTactic
import Derived.Tactics
import Derived.KernelRfl
import Derived.Below
import Derived.Test.YtgmbfiikkogenaaGreatDoorRows
import Derived.WalkKit
import Derived.WalkSpells
import Derived.WalkLawsBesides
import Derived.BigQuiet
import Derived.Lib.Bytealg
import Derived.Lib.IndexLaws
import Derived.Lib.Hide
import Derived.ProofKit
import Derived.OpenShut
import Derived.Laws.IdiomStrings
import Derived.Lib.Strings
import Derived.Laws.Bits64
import Derived.Deep.AppendLies
import Derived.SliceStrings
import Derived.Lib.SlBytesConst
import Derived.Maps.AppendAt
import Derived.Laws.AppendOwnNone
import Derived.Great.BuildSlice
import Derived.Laws.Rows
import Derived.Lib.SlTrimSet
import Derived.Lib.IndexBytes
import Derived.Lib.Split
import Derived.Shelf.SlGeneric
import Derived.Shelf.Strings.SlTrimAscii
import Derived.Shelf.Strings.SplitShaped
import Derived.Shelf.LaysM
import Derived.Shelf.Strings.BuilderK
import Derived.Shelf.Strconv.Itoa4
import Derived.Shelf.Strings.Builder2
import Derived.Shelf.SlLaysF0
import Derived.Shelf.SlLaysM
import Derived.Shelf.SlLaysN
import Derived.Ground.SlsfProg
import Derived.Ground.SlgmProg
import Derived.Ground.SlgnProg
import Derived.Test.YtgmbfiikkogenaaGreatDoorProg
import Derived.Lib.SplitLaws
import Derived.WalkSmall
import Derived.Laws.BitsAllLaws
import Derived.Laws.Shifts
import Derived.Maps.OwnOps
import Derived.Maps.OwnSet
import Derived.Deep.SlicePairs
import Derived.Lib.AppendZerosOnto
import Derived.Lib.AppendStr
import Derived.Laws.CopyOwn
import Derived.OwnWalk
import Derived.Laws.Strings3
import Derived.Laws.Concat
import Derived.Lib.ItoaMem
import Derived.Deep.RegionHeld3
import Derived.IntWalk
import Derived.Sort.Grow
import Derived.Lib.LaidTab
import Derived.LaidSub
import Derived.Sort.Walk0
import Derived.Laws.OwnMore
import Derived.ArgAppend
namespace Go.Proofs.YtgmbfiikkogenaaGreatDoor
open Go.RowKit

/-- c waits for i, by others too. -/
def beforeB (ops : Array Oper) : Nat → Nat → Nat → Bool
  | 0, _, _ => false
  | f + 1, c, i => match ops[c]? with
    | some o => waitsFor o i || (List.range c).any fun k => waitsFor o k && beforeB ops f k i
    | none => false
def StepP (P : Program) (Q : Exit → Act → World → Prop) (ops : Array Oper) (S : List Spec) (Inv : World → Prop) (a0 : Act) (o : Oper) (s : Spec) : Prop :=
  ∀ a w, Inv w → Fr ops a0 a → (∀ j, waitsFor o j = true → Holds ops S a w j) →
    Region.wanted o (yielded ops a.tmps) = true ∧ o.wp P a w (fun a' w' => ∃ v, a' = a.put o.dst v ∧ Below w.heap.size w w' ∧ s.p v w') Q
def SidesOK (P : Program) (Q : Exit → Act → World → Prop) (ops : Array Oper) (S : List Spec) (Inv : World → Prop) (a0 : Act) : List Nat → Prop
  | i :: r => (match ops[i]?, S[i]? with | some o, some s => StepP P Q ops S Inv a0 o s | _, _ => False) ∧ SidesOK P Q ops S Inv a0 r
  | [] => True
/-- What is known in one phase stays known in the next. -/
def Over (ops : Array Oper) (a : Act) (w w' : World) (c : Nat) : Nat → List Spec → List Spec → Prop
  | k, s :: ss, t :: ts => (k = c ∨ ∀ v, (∀ o d, ops[k]? = some o → o.dst = some d → v = a.eval (.tmp d)) → s.p v w → t.p v w') ∧ Over ops a w w' c (k + 1) ss ts
  | _, [], [] => True
  | _, _, _ => False
def ChainOK (P : Program) (Q : Exit → Act → World → Prop) (ops : Array Oper) (S S' : List Spec) (Inv Inv' : World → Prop) (a0 : Act) (c : Nat) : Prop :=
  match ops[c]?, S'[c]? with
  | some o, some s => ∀ a w, Inv w → Fr ops a0 a → (∀ j, waitsFor o j = true → Holds ops S a w j) →
      Region.wanted o (yielded ops a.tmps) = true ∧ o.wp P a w (fun a' w' => ∃ v, a' = a.put o.dst v ∧ Inv' w' ∧ s.p v w' ∧ Over ops a w w' c 0 S S') Q
  | _, _ => False
/-- The operations outside the chain that may come up in phase p are those listed. -/
def sidesB (ops : Array Oper) (chain : List Nat) (M : Nat) (sides : List Nat) (p : Nat) : Bool :=
  (List.range ops.size).all fun i => chain.contains i || sides.contains i || (List.range M).any fun q => match chain[q]? with
    | some c => if q < p then beforeB ops ops.size c i else beforeB ops ops.size i c
    | none => false
def chainB (ops : Array Oper) (chain : List Nat) : Bool :=
  (List.range chain.length).all fun p => (List.range chain.length).all fun q => decide (q ≤ p) || (match chain[p]?, chain[q]? with | some c, some d => beforeB ops ops.size d c && decide (c ≠ d) && decide (d < ops.size) && decide (c < ops.size) | _, _ => false)

section
variable {P : Program} {Q : Exit → Act → World → Prop} {ops : Array Oper} {a0 : Act} {w0 : World}
theorem sidesOK_at {S : List Spec} {Inv : World → Prop} : ∀ {l : List Nat}, SidesOK P Q ops S Inv a0 l → ∀ i, i ∈ l → ∀ o, ops[i]? = some o → ∃ s, S[i]? = some s ∧ StepP P Q ops S Inv a0 o s
  | k :: r, h, i, hi, o, ho => by
    rcases List.mem_cons.1 hi with rfl | hi
    · have := h.1
      rw [ho] at this
      cases hs : S[i]? with
      | none => rw [hs] at this; exact this.elim
      | some s => rw [hs] at this; exact ⟨s, rfl, this⟩
    · exact sidesOK_at h.2 i hi o ho
theorem over_at {a : Act} {w w' : World} {c : Nat} : ∀ {ss ts : List Spec} {k : Nat}, Over ops a w w' c k ss ts → ∀ j t, ts[j]? = some t → k + j ≠ c → ∃ s, ss[j]? = some s ∧ ∀ v, (∀ o d, ops[k + j]? = some o → o.dst = some d → v = a.eval (.tmp d)) → s.p v w → t.p v w'
  | s :: ss, t :: ts, k, h, 0, t', ht, hne => by
    simp at ht; subst ht
    rcases h.1 with h1 | h1
    · exact absurd h1 (by simpa using hne)
    · exact ⟨s, rfl, h1⟩
  | s :: ss, t :: ts, k, h, j + 1, t', ht, hne => by
    have e : k + 1 + j = k + (j + 1) := by omega
    have := over_at (k := k + 1) h.2 j t' (by simpa using ht) (by omega)
    rw [e] at this; exact this
  | [], [], _, _, j, t', ht, _ => by simp at ht
  | s :: ss, [], _, h, j, t', ht, _ => by simp at ht
  | [], t :: ts, _, h, j, t', ht, _ => h.elim
theorem before_marked {m : Array Bool} (hcl : ∀ j o, ops[j]? = some o → m.getD j false = true → ∀ i, waitsFor o i = true → m.getD i false = true) :
    ∀ (f c i : Nat), beforeB ops f c i = true → m.getD c false = true → m.getD i false = true
  | 0, _, _, h, _ => by simp [beforeB] at h
  | f + 1, c, i, h, hc => by
    unfold beforeB at h
    cases ho : ops[c]? with
    | none => rw [ho] at h; cases h
    | some o =>
      rw [ho] at h
      simp only [Bool.or_eq_true, List.any_eq_true, Bool.and_eq_true] at h
      rcases h with h | ⟨k, _, h1, h2⟩
      · exact hcl c o ho hc i h
      · exact before_marked hcl f k i h2 (hcl c o ho hc k h1)
/-- What is ready waits for marked ones alone. -/
theorem before_ready {m : Array Bool} (hcl : ∀ j o, ops[j]? = some o → m.getD j false = true → ∀ i, waitsFor o i = true → m.getD i false = true) {c i : Nat} {o : Oper} (ho : ops[c]? = some o)
    (hd : ∀ j, waitsFor o j = true → m.getD j false = true) {f : Nat} (h : beforeB ops f c i = true) : m.getD i false = true := by
  cases f with
  | zero => simp [beforeB] at h
  | succ f =>
    unfold beforeB at h
    rw [ho] at h
    simp only [Bool.or_eq_true, List.any_eq_true, Bool.and_eq_true] at h
    rcases h with h | ⟨k, _, h1, h2⟩
    · exact hd i h
    · exact before_marked hcl f k i h2 (hd k h1)

theorem wp_region_phases {id : Nat} (chain : List Nat) (sides : Nat → List Nat) (S : Nat → List Spec) (Inv : Nat → World → Prop) (hm : P.follows .mixedOrders = true)
    (hB : (List.range ops.size).all (fun i => match ops[i]? with | some x => x.after.all (fun e => !Region.binds .any e || decide (e.on < i)) | none => true) = true)
    (hd : dstsOk ops a0.tmps.size = true) (hc : chainB ops chain = true) (hlt : chain.all (fun c => decide (c < ops.size)) = true) (hsB : (List.range (chain.length + 1)).all (fun p => sidesB ops chain chain.length (sides p) p) = true)
    (hI : ∀ p w w', Inv p w → Below w.heap.size w w' → Inv p w') (h0 : Inv 0 w0) (hS : ∀ p, p ≤ chain.length → SidesOK P Q ops (S p) (Inv p) a0 (sides p))
    (hC : ∀ p (hp : p < chain.length), ChainOK P Q ops (S p) (S (p + 1)) (Inv p) (Inv (p + 1)) a0 chain[p])
    (hQ : ∀ a w, Inv chain.length w → Fr ops a0 a → (∀ j, j < ops.size → Holds ops (S chain.length) a w j) → Q .normal a w) : (Code.region id ops true).wp P Q a0 w0 := by
  have hchain : ∀ p q (hp : p < chain.length) (hq : q < chain.length), p < q → beforeB ops ops.size chain[q] chain[p] = true ∧ chain[p] ≠ chain[q] := fun p q hp hq hpq => by
    have h1 := List.all_eq_true.1 (List.all_eq_true.1 hc p (List.mem_range.2 hp)) q (List.mem_range.2 hq)
    simp only [List.getElem?_eq_getElem hp, List.getElem?_eq_getElem hq, Bool.or_eq_true, Bool.and_eq_true, decide_eq_true_eq] at h1
    rcases h1 with h1 | h1
    · omega
    · exact ⟨h1.1.1.1, h1.1.1.2⟩
  refine wp_region_inv hm (fun m a w => Fr ops a0 a ∧ (∀ j o, ops[j]? = some o → m.getD j false = true → ∀ i, waitsFor o i = true → m.getD i false = true) ∧
    ∃ p, p ≤ chain.length ∧ (∀ q (hq : q < chain.length), m.getD chain[q] false = decide (q < p)) ∧ Inv p w ∧ ∀ j, m.getD j false = true → Holds ops (S p) a w j) ?_ ?_ ?_
  · rintro m a w hs ⟨hf, hcl, p, hp, hph, hinv, hh⟩ i hi
    obtain ⟨h1, o, ho, hall⟩ := mem_ready.1 hi
    have hil : i < ops.size := (Array.getElem?_eq_some_iff.1 ho).1
    have him : i < m.size := by rw [hs]; exact hil
    have hmi : m.getD i false = false := by simp [him] at h1 ⊢; exact h1
    have hdeps : ∀ j, waitsFor o j = true → m.getD j false = true := fun j hj => by
      obtain ⟨e, he, h2⟩ := List.any_eq_true.1 hj
      simp only [Bool.and_eq_true, beq_iff_eq] at h2
      obtain ⟨h3, rfl⟩ := h2
      exact hall e (Array.mem_toList_iff.1 he) h3
    have hcl' : ∀ j o, ops[j]? = some o → (m.setIfInBounds i true).getD j false = true → ∀ k, waitsFor o k = true → (m.setIfInBounds i true).getD k false = true := fun j oj hoj hj k hk => by
      by_cases hji : j = i
      · subst hji
        obtain rfl : o = oj := Option.some.inj (ho.symm.trans hoj)
        exact getD_set_true (hdeps k hk)
      · rw [getD_set_ne false (fun e => hji e.symm)] at hj
        exact getD_set_true (hcl j oj hoj hj k hk)
    unfold wpOp
    simp only [ho]
    by_cases hic : i ∈ chain
    · obtain ⟨q, hq, rfl⟩ := List.getElem_of_mem hic
      have hqp : p ≤ q := by
        have := hph q hq
        rw [hmi] at this
        have := of_decide_eq_false this.symm
        omega
      have hqe : q = p := by
        rcases Nat.lt_or_ge p q with h2 | h2
        · exfalso
          have h3 := before_ready hcl ho hdeps (hchain p q (by omega) hq h2).1
          rw [hph p (by omega)] at h3
          simp at h3
        · omega
      subst hqe
      have hCp := hC q hq
      unfold ChainOK at hCp
      rw [ho] at hCp
      cases hsc : (S (q + 1))[chain[q]]? with
      | none => rw [hsc] at hCp; exact hCp.elim
      | some s =>
        rw [hsc] at hCp
        simp only at hCp
        obtain ⟨hw, hwp⟩ := hCp a w hinv hf fun j hj => hh j (hdeps j hj)
        rw [if_pos hw]
        refine .inl (Oper.wp_mono ?_ hwp)
        rintro a' w' ⟨v, rfl, hinv', hsp, hov⟩
        refine ⟨fr_put ho hf v, hcl', q + 1, hq, fun r hr => ?_, hinv', fun j hj => ?_⟩
        · by_cases hrq : r = q
          · subst hrq
            simp [him]
          · have hne : chain[q] ≠ chain[r] := by
              rcases Nat.lt_or_ge q r with h2 | h2
              · exact (hchain q r hq hr h2).2
              · exact fun e => (hchain r q hr hq (by omega)).2 e.symm
            rw [getD_set_ne false hne, hph r hr]
            by_cases hrl : r < q
            · simp [hrl, show r < q + 1 by omega]
            · simp [hrl, show ¬ r < q + 1 by omega]
        · by_cases hji : j = chain[q]
          · subst hji
            unfold Holds
            simp only [ho, hsc]
            cases hdo : o.dst with
            | none => trivial
            | some d =>
              show s.p ((a.put (some d) v).eval (.tmp d)) w'
              rw [eval_put_same]
              · exact hsp
              · rw [hf.size]; exact (dsts_lt hd ho hdo).1
          · have hj' : m.getD j false = true := by rw [getD_set_ne false (fun e => hji e.symm)] at hj; exact hj
            have h5 := holds_put (a := a) (v := v) hd ho hji (hh j hj')
            unfold Holds at *
            cases hoj : ops[j]? with
            | none => simp
            | some o' =>
              cases hsj : (S (q + 1))[j]? with
              | none => simp
              | some s' =>
                obtain ⟨s0, hs0, himp⟩ := over_at hov j s' hsj (by omega)
                simp only [hoj, hs0] at h5
                simp only
                cases hdo : o'.dst with
                | none => trivial
                | some d =>
                  simp only [hdo] at h5
                  refine himp _ (fun o2 d2 ho2 hd2 => ?_) h5
                  rw [Nat.zero_add, hoj] at ho2
                  obtain rfl := Option.some.inj ho2
                  rw [hdo] at hd2
                  obtain rfl := Option.some.inj hd2
                  exact eval_put_other fun e => (dsts_lt hd ho e).2 j o' hoj hji hdo
    · have hside : i ∈ sides p := by
        have := List.all_eq_true.1 (List.all_eq_true.1 hsB p (List.mem_range.2 (by omega))) i (List.mem_range.2 hil)
        simp only [Bool.or_eq_true, List.contains_iff_mem, List.any_eq_true] at this
        rcases this with (h2 | h2) | ⟨q, hq, h2⟩
        · exact absurd h2 hic
        · exact h2
        · exfalso
          have hql := List.mem_range.1 hq
          rw [List.getElem?_eq_getElem hql] at h2
          simp only at h2
          by_cases hqp : q < p
          · rw [if_pos hqp] at h2
            have h3 := before_marked hcl _ _ _ h2 (by rw [hph q hql]; simp [hqp])
            rw [hmi] at h3; cases h3
          · rw [if_neg hqp] at h2
            have h3 := before_ready hcl ho hdeps h2
            rw [hph q hql] at h3
            simp [hqp] at h3
      obtain ⟨s, hsi, hstep⟩ := sidesOK_at (hS p hp) i hside o ho
      obtain ⟨hw, hwp⟩ := hstep a w hinv hf fun j hj => hh j (hdeps j hj)
      rw [if_pos hw]
      refine .inl (Oper.wp_mono ?_ hwp)
      rintro a' w' ⟨v, rfl, hb', hsp⟩
      refine ⟨fr_put ho hf v, hcl', p, hp, fun r hr => ?_, hI p w w' hinv hb', fun j hj => ?_⟩
      · rw [getD_set_ne false (fun e => hic (by rw [e]; exact List.getElem_mem hr)), hph r hr]
      · by_cases hji : j = i
        · subst hji
          unfold Holds
          simp only [ho, hsi]
          cases hdo : o.dst with
          | none => trivial
          | some d =>
            show s.p ((a.put (some d) v).eval (.tmp d)) w'
            rw [eval_put_same]
            · exact hsp
            · rw [hf.size]; exact (dsts_lt hd ho hdo).1
        · have hj' : m.getD j false = true := by rw [getD_set_ne false (fun e => hji e.symm)] at hj; exact hj
          exact holds_put hd ho hji (holds_mono (hh j hj') hb')
  · rintro m a w hs ⟨hf, hcl, p, hp, hph, hinv, hh⟩ hr
    have hmarked : ∀ j, j < ops.size → m.getD j false = true := fun j => by
      induction j using Nat.strongRecOn with
      | _ j ih =>
        intro hj
        cases hmj : m.getD j false with
        | true => rfl
        | false =>
          exfalso
          have hoj : ops[j]? = some ops[j] := Array.getElem?_eq_getElem hj
          have hbk := List.all_eq_true.1 hB j (List.mem_range.2 hj)
          rw [hoj] at hbk
          simp only [Array.all_eq_true_iff_forall_mem, Bool.or_eq_true, Bool.not_eq_true', decide_eq_true_eq] at hbk
          have hlt : ∀ e ∈ ops[j].after, Region.binds .any e = true → e.on < j := fun e he hbd => by
            rcases hbk e he with h | h
            · rw [hbd] at h; cases h
            · exact h
          have : j ∈ Region.ready .any ops m := mem_ready.2 ⟨by
            have hs' : j < m.size := by rw [hs]; exact hj
            simp [hs'] at hmj ⊢; exact hmj, ops[j], hoj, fun e he hbd => ih _ (hlt e he hbd) (by have := hlt e he hbd; omega)⟩
          rw [hr] at this; cases this
    have hpe : p = chain.length := by
      rcases Nat.lt_or_ge p chain.length with h2 | h2
      · exfalso
        have h3 := hph p h2
        have h4 := hmarked chain[p] (of_decide_eq_true (List.all_eq_true.1 hlt _ (List.getElem_mem h2)))
        rw [h4] at h3
        simp at h3
      · omega
    subst hpe
    exact hQ a w hinv hf fun j hj => hh j (hmarked j hj)
  · have hz : ∀ j, (Array.replicate ops.size false).getD j false = false := fun j => by
      simp only [Array.getD_eq_getD_getElem?, Array.getElem?_replicate]; split <;> rfl
    refine ⟨⟨rfl, rfl, fun _ _ => rfl⟩, fun j o _ hj => (by rw [hz] at hj; cases hj), 0, Nat.zero_le _, fun q _ => by rw [hz]; rfl, hI 0 w0 _ h0 (Below.refl _ _).drew, fun j hj => (by rw [hz] at hj; cases hj)⟩

/-- The frame behind a region, out of the frame before it. -/
def putAll (a : Act) : List Oper → Act → Act
  | o :: os, b => putAll a os (match o.dst with | some d => b.put (some d) (a.eval (.tmp d)) | none => b)
  | [], b => b
theorem putAll_size (a : Act) : ∀ (l : List Oper) (b : Act), (putAll a l b).tmps.size = b.tmps.size
  | [], _ => rfl
  | o :: os, b => by
    unfold putAll
    rw [putAll_size a os]
    cases o.dst <;> simp [Act.put]
theorem putAll_defers (a : Act) : ∀ (l : List Oper) (b : Act), (putAll a l b).defers = b.defers
  | [], _ => rfl
  | o :: os, b => by
    unfold putAll
    rw [putAll_defers a os]
    cases o.dst <;> simp [Act.put]
theorem putAll_eval (a : Act) (k : Nat) : ∀ (l : List Oper) (b : Act), b.tmps.size = a.tmps.size → (b.eval (.tmp k) = a.eval (.tmp k) ∨ (l.any fun o => o.dst == some k) = true) → (putAll a l b).eval (.tmp k) = a.eval (.tmp k)
  | [], b, _, h => by
    rcases h with h | h
    · exact h
    · cases h
  | o :: os, b, hs, h => by
    unfold putAll
    refine putAll_eval a k os _ (by cases o.dst <;> simpa [Act.put] using hs) ?_
    cases hd : o.dst with
    | none =>
      rcases h with h | h
      · exact .inl h
      · simp [hd] at h; exact .inr (by simpa using h)
    | some d =>
      by_cases hdk : d = k
      · subst hdk
        by_cases hlt : d < b.tmps.size
        · exact .inl (eval_put_same hlt)
        · left
          have h1 : ¬ d < a.tmps.size := by rw [← hs]; exact hlt
          simp [Act.put, Act.eval, hlt, h1]
      · have e : (b.put (some d) (a.eval (.tmp d))).eval (.tmp k) = b.eval (.tmp k) := eval_put_other fun e => hdk (Option.some.inj e)
        rcases h with h | h
        · exact .inl (e.trans h)
        · simp [hd, hdk] at h; exact .inr (by simpa using h)
theorem fr_putAll {a : Act} (h : Fr ops a0 a) : a = putAll a ops.toList a0 := by
  have h1 := putAll_size a ops.toList a0
  have h2 := putAll_defers a ops.toList a0
  have h3 : ∀ k, (putAll a ops.toList a0).eval (.tmp k) = a.eval (.tmp k) := fun k => putAll_eval a k _ _ h.size.symm (by
    cases hk : isDst ops k with
    | true => exact .inr hk
    | false => exact .inl (h.base k hk).symm)
  generalize putAll a ops.toList a0 = p at *
  rw [act_eq (a := a) (a0 := a0) h.size h.defers, act_eq (a := p) (a0 := a0) h1 h2]
  congr 2
  exact List.map_congr_left fun k _ => (h3 k).symm
end
end Go.Proofs.YtgmbfiikkogenaaGreatDoor
namespace Go.Proofs.YtgmbfiikkogenaaGreatDoor
open Go.RowKit

def IntsF (w : World) (a : Option Addr) (n : Nat) : Prop :=
  ∀ j, j < n → ∃ x z, a = some x ∧ w.cell? (x.add j) = some (.int .i64 z) ∧ -9223372036854775808 ≤ z ∧ z ≤ 9223372036854775807
theorem IntsF.keep {w w' : World} {a : Option Addr} {n : Nat} (h : IntsF w a n) (hb : Below w.heap.size w w') : IntsF w' a n := fun j hj => by
  obtain ⟨x, z, e, h1, h2⟩ := h j hj
  exact ⟨x, z, e, below_cell hb h1, h2⟩
/-- Block g is the source's variable: its numbers are the n at a, which lie elsewhere. -/
def Src (w : World) (g : Nat) (a : Option Addr) (n c : Nat) : Prop :=
  (∃ i : Nat, i ≤ n ∧ w.heap[g]? = some (.cells #[.slice a n c, .int .i64 i] 50 (0, 0))) ∧ n ≤ maxLen ∧ IntsF w a n ∧ ∀ x, a = some x → 0 < n → x.block ≠ g
theorem Src.lt {w : World} {g : Nat} {a : Option Addr} {n c : Nat} (h : Src w g a n c) : g < w.heap.size := by
  obtain ⟨⟨i, _, h⟩, _⟩ := h
  exact (Array.getElem?_eq_some_iff.1 h).1
theorem add_blockF (x : Addr) (j : Nat) : (x.add j).block = x.block := by unfold Addr.add; split <;> rfl
theorem IntsF.grown {w w' : World} {a : Option Addr} {n : Nat} {row : Option Nat} (h : IntsF w a n) (hg : w.grownBy w' row) (hne : ∀ x, a = some x → 0 < n → some x.block ≠ row) : IntsF w' a n := fun j hj => by
  obtain ⟨x, z, e, h1, h2⟩ := h j hj
  refine ⟨x, z, e, ?_, h2⟩
  have hlt := lt_cell h1
  rw [World.cell?_of_block (hg.block _ hlt (by rw [add_blockF]; exact hne x e (by omega)))]
  exact h1
theorem Src.grown {w w' : World} {g : Nat} {a : Option Addr} {n c : Nat} {row : Option Nat} (h : Src w g a n c) (hg : w.grownBy w' row) (hne : some g ≠ row) (hne2 : ∀ x, a = some x → 0 < n → some x.block ≠ row) : Src w' g a n c := by
  have hlt := h.lt
  obtain ⟨⟨i, hi, hr⟩, h2, h3, h4⟩ := h
  exact ⟨⟨i, hi, by rw [hg.block g hlt hne]; exact hr⟩, h2, h3.grown hg hne2, h4⟩
theorem Src.keep {w w' : World} {g : Nat} {a : Option Addr} {n c : Nat} (h : Src w g a n c) (hb : Below w.heap.size w w') : Src w' g a n c := by
  have hlt := h.lt
  obtain ⟨⟨i, hi, hr⟩, h2, h3, h4⟩ := h
  exact ⟨⟨i, hi, by rw [hb.block g hlt]; exact hr⟩, h2, h3.keep hb, h4⟩
theorem grownBy_trans {w w1 w2 : World} {row : Option Nat} (h : w.grownBy w1 row) (k : w1.grownBy w2 row) : w.grownBy w2 row :=
  ⟨k.os.trans h.os, k.tape.trans h.tape, k.output.trans h.output, Nat.le_trans h.size k.size, fun i hi hne => (k.block i (Nat.lt_of_lt_of_le hi h.size) hne).trans (h.block i hi hne)⟩
theorem grownBy_below {w w1 : World} {row : Option Nat} (h : Below w.heap.size w w1) : w.grownBy w1 row :=
  ⟨h.os, h.tape, h.output, h.size, fun i hi _ => h.block i hi⟩
/-- A row that is new is nobody's. -/
theorem grownBy_new {w w1 w2 : World} {row : Option Nat} {q : Option Nat} (h : w.grownBy w1 row) (k : w1.grownBy w2 q) (hq : ∀ i, q = some i → w.heap.size ≤ i) : w.grownBy w2 row :=
  ⟨k.os.trans h.os, k.tape.trans h.tape, k.output.trans h.output, Nat.le_trans h.size k.size, fun i hi hne => (k.block i (Nat.lt_of_lt_of_le hi h.size) (fun e => by have := hq i e.symm; omega)).trans (h.block i hi hne)⟩

def withI (z : Int) (n : Nat) : Int := (wrap64 (z.tmod n + n)).tmod n
theorem withI_range (z : Int) (n : Nat) (h0 : 0 < n) (hn : n ≤ 1000000000) : ∃ k : Nat, k < n ∧ withI z n = (k : Int) := by
  have h1 : z.tmod n < n := Int.tmod_lt_of_pos z (by omega)
  have h2 : -(n : Int) < z.tmod n := Int.lt_tmod_of_pos z (by omega)
  unfold withI
  generalize z.tmod n = y at *
  have e : wrap64 (y + n) = y + n := by simp only [wrap64]; omega
  rw [e, Int.tmod_eq_emod_of_nonneg (by omega)]
  exact ⟨((y + n) % n).toNat, by have := Int.emod_lt_of_pos (y + n) (show (0 : Int) < n by omega); have := Int.emod_nonneg (y + n) (show (n : Int) ≠ 0 by omega); omega, by have := Int.emod_nonneg (y + n) (show (n : Int) ≠ 0 by omega); omega⟩
theorem withinF (z : Int) (n : Nat) (w : World) (h0 : 0 < n) (hn : n ≤ 1000000000) :
    Calls Tryz.prog 32 #[.int .i64 z, .int .i64 n] w fun e w' => e = .returned (.int .i64 (withI z n)) ∧ w' = w := by
  go_enter Tryz.func32, Tryz.ntmps32
  go_wp2
  go_ret
  exact ⟨rfl, rfl⟩

set_option maxRecDepth 100000 in
set_option maxHeartbeats 2000000 in
theorem next_any (g m : Nat) (a : Option Addr) (n c : Nat) (w : World) (h : Src w g a n c) (h0 : 0 < m) (hm : m ≤ 1000000000) :
    Calls Tryz.prog 19 #[.pointer (some ⟨g, 0, none⟩), .int .i64 m] w fun e w' => ∃ k : Nat, k < m ∧ e = .returned (.int .i64 k) ∧ Src w' g a n c ∧ w.grownBy w' (some g) := by
  have H0 := Box.mk h
  obtain ⟨⟨i, hi, hr⟩, hn, h2, h3⟩ := h
  have HR := Box.mk hr
  have HI := Box.mk h2
  have HA := Box.mk h3
  have HN := Box.mk hn
  have hc0 : w.cell? ⟨g, 0, none⟩ = some (.slice a n c) := by rw [cell_of_row _ _ _ _ _ _ hr]; rfl
  have hc1 : w.cell? ⟨g, 1, none⟩ = some (.int .i64 i) := by rw [cell_of_row _ _ _ _ _ _ hr]; rfl
  unfold maxLen at hn
  clear hr h2 h3
  go_enter Tryz.func19, Tryz.ntmps19
  by_cases hlt : i < n
  · obtain ⟨x, z, rfl, hz, z0, z1⟩ := HI.out i hlt
    have hne := HA.out x rfl (by omega)
    have HNE := Box.mk hne
    clear hne
    have hd : decide (n ≤ i) = false := by simp; omega
    have HZ := Box.mk hz
    clear hz
    go_wp2_with fail
    go_quiet (fail)
    clear hd
    obtain ⟨W, hW⟩ : ∃ W, W = w.drewN nq := ⟨_, rfl⟩
    have HRW := Box.mk (show W.heap[g]? = some (.cells #[.slice (some x) n c, .int .i64 i] 50 (0, 0)) by rw [hW]; exact HR.out)
    rw [← hW]
    have hf := frozen_of_row W g 1 _ _ HRW.out
    have hc0 : W.cell? ⟨g, 0, none⟩ = some (.slice (some x) n c) := by rw [cell_of_row _ _ _ _ _ _ HRW.out]; rfl
    have hc1 : W.cell? ⟨g, 1, none⟩ = some (.int .i64 i) := by rw [cell_of_row _ _ _ _ _ _ HRW.out]; rfl
    have HGW := Box.mk (show w.grownBy W (some g) by rw [hW]; exact ⟨rfl, rfl, rfl, Nat.le_refl _, fun _ _ _ => rfl⟩)
    clear hW
    go_wp2_with fail
    obtain ⟨W2, hW2⟩ : ∃ W2, W2 = W.setCell ⟨g, 1, none⟩ (.int .i64 ((i : Int) + 1)) := ⟨_, rfl⟩
    have HR2 := Box.mk (show W2.heap[g]? = some (.cells #[.slice (some x) n c, .int .i64 ((i : Int) + 1)] 50 (0, 0)) by rw [hW2, heap_setCell_same _ _ _ _ _ _ HRW.out]; simp)
    have HG2 := Box.mk (show w.grownBy W2 (some g) from grownBy_trans HGW.out (by
      rw [hW2]
      exact ⟨rfl, rfl, rfl, by simp [World.setCell], fun k _ hne => heap_setCell_other W ⟨g, 1, none⟩ k _ (fun e => hne (by rw [e]))⟩))
    change Code.wp _ _ _ _ (W.setCell ⟨g, 1, none⟩ (.int .i64 ((i : Int) + 1)))
    rw [← hW2]
    clear hW2 hf hc0 hc1 HGW HRW
    have hc0 : W2.cell? ⟨g, 0, none⟩ = some (.slice (some x) n c) := by rw [cell_of_row _ _ _ _ _ _ HR2.out]; rfl
    have hc1 : W2.cell? ⟨g, 1, none⟩ = some (.int .i64 ((i : Int) + 1)) := by rw [cell_of_row _ _ _ _ _ _ HR2.out]; rfl
    have hz2 : W2.cell? (x.add i) = some (.int .i64 z) := by
      rw [World.cell?_of_block (HG2.out.block _ (lt_cell HZ.out) (by rw [add_blockF]; exact fun e => HNE.out (Option.some.inj e)))]
      exact HZ.out
    have HS := Box.mk (show Src W2 g (some x) n c from ⟨⟨i + 1, hlt, HR2.out⟩, HN.out, HI.out.grown HG2.out (fun y e h e2 => HA.out y e h (Option.some.inj e2)), HA.out⟩)
    obtain ⟨k, hk, hwk⟩ := withI_range z m h0 hm
    have HWK := Box.mk hwk
    clear hwk
    go_quiet ((go_at_call 32; exact Calls.quiet_of_same (withinF _ _ _ h0 hm)))
    go_wp2
    go_ret
    exact ⟨k, hk, ret_int HWK.out, HS.out.keep (below_drewN (Below.refl _ _) _), grownBy_trans HG2.out ⟨rfl, rfl, rfl, Nat.le_refl _, fun _ _ _ => rfl⟩⟩
  · have hd : decide (n ≤ i) = true := by simp; omega
    go_wp2_with fail
    go_quiet (fail)
    go_wp2
    go_ret
    exact ⟨0, h0, rfl, H0.out.keep (below_drewN (Below.refl _ _) _), ⟨rfl, rfl, rfl, Nat.le_refl _, fun _ _ _ => rfl⟩⟩

set_option maxHeartbeats 1000000 in
theorem of_any (g b : Nat) (l : List ByteArray) (cb : Nat) (a : Option Addr) (n c : Nat) (w : World) (h : Src w g a n c) (hl : StrsIn w (some ⟨b, 0, none⟩) l) (hb : b ≠ g) (h0 : 0 < l.length) (h1 : l.length ≤ 1000) :
    Calls Tryz.prog 53 #[.pointer (some ⟨g, 0, none⟩), .slice (some ⟨b, 0, none⟩) l.length cb] w fun e w' => ∃ s ∈ l, e = .returned (.string s) ∧ Src w' g a n c ∧ w.grownBy w' (some g) := by
  have HL := Box.mk hl
  have HB := Box.mk hb
  clear hl hb
  go_enter Tryz.func53, Tryz.ntmps53
  go_wp2_with fail
  refine (next_any g l.length a n c w h h0 (by omega)).mono ?_
  rintro e w1 ⟨k, hk, rfl, hs, hg⟩
  obtain ⟨x, hx, hc⟩ := HL.out k hk
  obtain rfl := Option.some.inj hx
  have hc1 : w1.cell? ((⟨b, 0, none⟩ : Addr).add k) = some (.string l[k]) := by
    rw [World.cell?_of_block (hg.block _ (lt_cell hc) (by rw [add_blockF]; exact fun e => HB.out (Option.some.inj e)))]
    exact hc
  rw [Addr.add_lit, Nat.zero_add] at hc1
  have HS := Box.mk hs
  have HG := Box.mk hg
  have HMEM := Box.mk (List.getElem_mem hk)
  clear hs hg hc hx
  go_wp2_with fail
  go_ret
  exact ⟨_, HMEM.out, rfl, HS.out, HG.out⟩
end Go.Proofs.YtgmbfiikkogenaaGreatDoor
namespace Go.Proofs.YtgmbfiikkogenaaGreatDoor
open Go.RowKit

def namesF : List ByteArray := [⟨#[88, 45, 65]⟩, ⟨#[120, 45, 97]⟩, ⟨#[88, 45, 66]⟩, ⟨#[65, 99, 99, 101, 112, 116]⟩, ⟨#[67, 111, 110, 110, 101, 99, 116, 105, 111, 110]⟩, ⟨#[86, 105, 97]⟩, ⟨#[67, 111, 111, 107, 105, 101]⟩, ⟨#[84, 69]⟩, ⟨#[75, 101, 101, 112, 45, 65, 108, 105, 118, 101]⟩, ⟨#[88, 45, 70, 111, 114, 119, 97, 114, 100, 101, 100, 45, 70, 111, 114]⟩, ⟨#[68, 97, 116, 101]⟩, ⟨#[69, 84, 97, 103]⟩, ⟨#[85, 112, 103, 114, 97, 100, 101]⟩, ⟨#[88, 45, 83, 104, 97, 100, 111, 119]⟩]
def valsF : List ByteArray := [⟨#[]⟩, ⟨#[49]⟩, ⟨#[97, 44, 32, 98]⟩, ⟨#[120, 45, 97]⟩, ⟨#[99, 108, 111, 115, 101]⟩, ⟨#[107, 101, 101, 112, 45, 97, 108, 105, 118, 101]⟩, ⟨#[88, 45, 66, 44, 32, 116, 101]⟩, ⟨#[99, 111, 104, 111, 114, 116, 61, 48, 49, 50, 51, 52, 53, 54, 55, 56, 57, 97, 98, 99, 100, 101, 102]⟩, ⟨#[107, 61, 118, 59, 32, 99, 111, 104, 111, 114, 116, 61, 48, 48, 48, 48, 48, 48, 48, 48, 48, 48, 48, 48, 48, 48, 102, 102]⟩, ⟨#[49, 46, 49, 32, 111, 116, 104, 101, 114]⟩, ⟨#[9, 63, 128, 59, 61]⟩]
theorem namesF_ok : (namesF.all fun s => tokS s && decide (s.size ≤ 1000)) = true := by decide +kernel
theorem valsF_ok : (valsF.all fun s => valS (trimBA s) && decide (s.size ≤ 1000)) = true := by decide +kernel
theorem strsIn_newF (w : World) (l : List ByteArray) (t : TypeId) : StrsIn (w.alloc (.cells (l.map Value.string).toArray t)) (some ⟨w.heap.size, 0, none⟩) l := fun j hj =>
  ⟨_, rfl, by rw [Addr.add_lit, Nat.zero_add, new_cellF]; simp [hj]⟩
theorem Src.low {w : World} {g : Nat} {a : Option Addr} {n c : Nat} (h : Src w g a n c) : ∀ x, a = some x → 0 < n → x.block < w.heap.size := fun x e h0 => by
  obtain ⟨y, z, e2, hc, _⟩ := h.2.2.1 0 h0
  rw [e] at e2
  obtain rfl := Option.some.inj e2
  have := lt_cell hc
  rw [add_blockF] at this; exact this
theorem Src.other {w w' : World} {g q : Nat} {a : Option Addr} {n c : Nat} (h : Src w g a n c) (hg : w.grownBy w' (some q)) (hq : g ≠ q) (hx : ∀ x, a = some x → 0 < n → x.block ≠ q) : Src w' g a n c :=
  h.grown hg (fun e => hq (Option.some.inj e)) (fun x e h0 e2 => hx x e h0 (Option.some.inj e2))
theorem grownBy_setRowF (w : World) (g : Nat) (cs : Array Value) : w.grownBy (w.setRow g cs) (some g) :=
  ⟨rfl, rfl, rfl, by simp [World.setRow], fun k _ hne => setRow_other w g k cs (fun e => hne (by rw [e]))⟩
theorem FVar.grown {w w' : World} {g : Nat} {n v : ByteArray} {row : Option Nat} (h : FVar w g n v) (hg : w.grownBy w' row) (hne : some g ≠ row) : FVar w' g n v := by
  have hlt := h.lt
  unfold FVar at *
  rw [hg.block g hlt hne]; exact h
theorem of_n (g b m : Nat) (l : List ByteArray) (cb : Nat) (a : Option Addr) (n c : Nat) (w : World) (h : Src w g a n c) (hl : StrsIn w (some ⟨b, 0, none⟩) l) (hb : b ≠ g) (hm : l.length = m) (h0 : 0 < m) (h1 : m ≤ 1000) :
    Calls Tryz.prog 53 #[.pointer (some ⟨g, 0, none⟩), .slice (some ⟨b, 0, none⟩) m cb] w fun e w' => ∃ s ∈ l, e = .returned (.string s) ∧ Src w' g a n c ∧ w.grownBy w' (some g) := by
  subst hm
  exact of_any g b l cb a n c w h hl hb h0 h1

/-- A field that the laws make: valid, and small. -/
def MadeF (f : Fld) : Prop := fldB f.1 f.2 = true ∧ f.1.size ≤ 1000 ∧ f.2.size ≤ 1000
theorem made_of {s v : ByteArray} (hs : s ∈ namesF) (hv : v ∈ valsF) : MadeF (s, trimBA v) := by
  have h1 := List.all_eq_true.1 namesF_ok s hs
  have h2 := List.all_eq_true.1 valsF_ok v hv
  simp only [Bool.and_eq_true, decide_eq_true_eq] at h1 h2
  exact ⟨by rw [fldB_val h1.1]; exact h2.1, h1.2, Nat.le_trans (trimBA_size v) h2.2⟩

/-- A field of the source. -/
def SrcF (f : Fld) : Prop := ∃ s ∈ namesF, ∃ v ∈ valsF, f = (s, trimBA v)
theorem SrcF.made {f : Fld} (h : SrcF f) : MadeF f := by
  obtain ⟨s, hs, v, hv, rfl⟩ := h
  exact made_of hs hv

set_option maxRecDepth 100000 in
set_option maxHeartbeats 2000000 in
theorem srcFieldS_any (g : Nat) (a : Option Addr) (n c : Nat) (w : World) (h : Src w g a n c) :
    Calls Tryz.prog 33 #[.pointer (some ⟨g, 0, none⟩)] w fun e w' => ∃ f, e = .returned (.agg #[.string f.1, .string f.2]) ∧ SrcF f ∧ Src w' g a n c ∧ w.grownBy w' (some g) := by
  have H0 := Box.mk h
  have HLOW := Box.mk h.low
  have hlt := h.lt
  clear h
  go_enter Tryz.func33, Tryz.ntmps33
  go_wp2_with fail
  obtain ⟨W, hW⟩ : ∃ W, W = (w.alloc (.cells #[.string ⟨#[]⟩, .string ⟨#[]⟩] 46)).alloc (.cells (namesF.map Value.string).toArray 9) := ⟨_, rfl⟩
  have HBW := Box.mk (show Below w.heap.size w W by rw [hW]; exact below_twoF (below_oneF w _) _)
  have HQ := Box.mk (show FVar W w.heap.size ⟨#[]⟩ ⟨#[]⟩ by rw [hW]; exact (FVar.new w ⟨#[]⟩ ⟨#[]⟩).keep (below_oneF _ _))
  have HL := Box.mk (show StrsIn W (some ⟨w.heap.size + 1, 0, none⟩) namesF by
    have h1 := strsIn_newF (w.alloc (.cells #[.string ⟨#[]⟩, .string ⟨#[]⟩] 46)) namesF 9
    rw [World.size_alloc] at h1
    rw [hW]; exact h1)
  have HS := Box.mk (H0.out.keep HBW.out)
  change Calls _ _ _ ((w.alloc (.cells #[.string ⟨#[]⟩, .string ⟨#[]⟩] 46)).alloc (.cells (namesF.map Value.string).toArray 9)) _
  rw [← hW]
  clear hW
  refine (of_n g (w.heap.size + 1) 14 namesF 14 a n c W HS.out HL.out (by omega) rfl (by decide) (by decide)).mono ?_
  rintro e w1 ⟨s, hs, rfl, hsrc, hg1⟩
  have HNM := Box.mk hs
  have HS1 := Box.mk hsrc
  have HG1 := Box.mk (show w.grownBy w1 (some g) from grownBy_trans (grownBy_below HBW.out) hg1)
  have HQ1 := Box.mk (HQ.out.grown hg1 (fun e => by have := Option.some.inj e; omega))
  clear hs hsrc hg1 HS HL HQ HBW H0
  go_wp2_with fail
  obtain ⟨W, hW⟩ : ∃ W, W = w1.alloc (.cells (valsF.map Value.string).toArray 9) := ⟨_, rfl⟩
  have HBW := Box.mk (show Below w1.heap.size w1 W by rw [hW]; exact below_oneF w1 _)
  have HL := Box.mk (show StrsIn W (some ⟨w1.heap.size, 0, none⟩) valsF by rw [hW]; exact strsIn_newF w1 valsF 9)
  have HS2 := Box.mk (HS1.out.keep HBW.out)
  have hlt1 := HS1.out.lt
  change Calls _ _ _ (w1.alloc (.cells (valsF.map Value.string).toArray 9)) _
  rw [← hW]
  clear hW
  refine (of_n g w1.heap.size 11 valsF 11 a n c W HS2.out HL.out (by omega) rfl (by decide) (by decide)).mono ?_
  rintro e w2 ⟨v, hv, rfl, hsrc, hg2⟩
  have HVL := Box.mk hv
  have HS3 := Box.mk hsrc
  have HG3 := Box.mk (show w.grownBy w2 (some g) from grownBy_trans HG1.out (grownBy_trans (grownBy_below HBW.out) hg2))
  have HQ3 := Box.mk ((HQ1.out.keep HBW.out).grown hg2 (fun e => by have := Option.some.inj e; omega))
  have HMD := Box.mk (show SrcF (s, trimBA v) from ⟨s, HNM.out, v, hv, rfl⟩)
  have HVZ := Box.mk (show v.size ≤ maxLen by
    have h2 := List.all_eq_true.1 valsF_ok v hv
    simp only [Bool.and_eq_true, decide_eq_true_eq] at h2
    unfold maxLen; omega)
  clear hv hsrc hg2 HS2 HL HQ1 HBW HS1 HG1 HNM HVL
  go_wp2_with fail
  refine (refTrim_any v _ HVZ.out).mono ?_
  rintro e w3 ⟨rfl, rfl⟩
  generalize trimBA v = v' at *
  go_wp2_with (refine wpList_store_row rfl 46 _ _ rfl w.heap.size #[.string s, .string v'] rfl rfl 46 _ HQ3.out sizeF rfl (oneF _ _) ?_)
  (try simp only [Exit.inBlock, Exit.then])
  refine bodyPost_ret (results_cell_row rfl _ _ w.heap.size _ _ _ _ rfl (setRow_heap _ _ _ _ _ _ HQ3.out) Tryz.underlying46 rfl sizeF) rfl ?_
  have hnew := grownBy_setRowF w2 w.heap.size #[.string s, .string v']
  exact ⟨(s, v'), rfl, HMD.out, HS3.out.other hnew (by omega) (fun x e h0 => by have := HLOW.out x e h0; omega), grownBy_new HG3.out hnew (fun i e => by have := Option.some.inj e; omega)⟩
end Go.Proofs.YtgmbfiikkogenaaGreatDoor
namespace Go.Proofs.YtgmbfiikkogenaaGreatDoor
open Go.RowKit

/-- v is a slice with the fields l in a block of its own, at B or beyond. -/
def OwnF (B : Nat) (w : World) (v : Value) (l : List Fld) : Prop := w.ownsRow B 46 2 v l.length (cellsF l)
theorem OwnF.start (B : Nat) (w : World) : OwnF B w (.slice none 0 0) [] := World.ownsRow_nil _ _ _ _
theorem OwnF.lt {B : Nat} {w : World} {v : Value} {l : List Fld} (h : OwnF B w v l) {k : Nat} (hk : v.ownBlock = some k) : B ≤ k ∧ k < w.heap.size := World.ownsRow.lt h k hk
theorem OwnF.same {B : Nat} {w w' : World} {v : Value} {l : List Fld} (h : OwnF B w v l) (hs : ∀ k, v.ownBlock = some k → w'.heap[k]? = w.heap[k]?) : OwnF B w' v l := by
  obtain ⟨h1, h2⟩ := h
  refine ⟨h1, ?_⟩
  rcases h2 with h2 | ⟨g, cap, cur, hv, hg, hc, r⟩
  · exact .inl h2
  · exact .inr ⟨g, cap, cur, hv, hg, by rw [hs g (by rw [hv]; rfl)]; exact hc, r⟩
theorem OwnF.keep {B : Nat} {w w' : World} {v : Value} {l : List Fld} (h : OwnF B w v l) (hb : Below w.heap.size w w') : OwnF B w' v l :=
  h.same fun k hk => hb.block k (h.lt hk).2
theorem OwnF.grown {B : Nat} {w w' : World} {v : Value} {l : List Fld} {row : Option Nat} (h : OwnF B w v l) (hg : w.grownBy w' row) (hne : ∀ k, v.ownBlock = some k → some k ≠ row) : OwnF B w' v l :=
  h.same fun k hk => hg.block k (h.lt hk).2 (hne k hk)
theorem OwnF.shape {B : Nat} {w : World} {v : Value} {l : List Fld} (h : OwnF B w v l) : ∃ a cap, v = .slice a l.length cap ∧ FldsC w a l cap ∧ l.length ≤ cap := by
  obtain ⟨h1, h2⟩ := h
  rcases h2 with ⟨rfl, h2⟩ | ⟨g, cap, cur, rfl, hg, hc, hcap, hm, hsz, ht⟩
  · have : l = [] := List.eq_nil_of_length_eq_zero h2
    subst this
    exact ⟨none, 0, rfl, ⟨FldsIn.nil _ _, fun _ => ⟨rfl, rfl⟩⟩, Nat.le_refl _⟩
  · refine ⟨_, cap, rfl, ⟨FldsIn.of_cells fun j u hj => ?_, fun e => by cases e⟩, hcap⟩
    have e := congrArg (fun x => x[j]?) ht
    have hlt : j < l.length * 2 := by rw [← cellsF_len]; exact (List.getElem?_eq_some_iff.1 hj).1
    rw [hj, List.getElem?_take_of_lt hlt] at e
    rw [Addr.add_lit]
    simp only [World.cell?, hc, Nat.zero_add]
    simpa using e
section
variable {ops : Array Oper} {rest : List Oper} {o : Oper} {act : Act} {Q : Exit → Act → World → Prop}
theorem wpList_append_ownf (w : World) (hgd : o.guard = none) (s x : Operand) (ho : o.op = .call { callee := .builtin .append, args := #[s, x], argTypes := #[23, 23] })
    {B : Nat} {v : Value} {l : List Fld} (hs : act.eval s = v) (h : OwnF B w v l) {b c : Nat} (hx : act.eval x = .slice (some ⟨b, 0, none⟩) 1 c) {y : Fld} (hy : w.cell? ⟨b, 0, none⟩ = some (.string y.1)) (hy2 : w.cell? ⟨b, 1, none⟩ = some (.string y.2))
    (hn : l.length + 1 ≤ 4398046511104) (hB : B ≤ w.heap.size)
    (K : ∀ v' w', OwnF B w' v' (l ++ [y]) → w.grownBy w' v.ownBlock → wpList Tryz.prog ops Q rest (act.put o.dst v') w') : wpList Tryz.prog ops Q (o :: rest) act w := by
  obtain ⟨i0, hi, hz0, hz1, hz2⟩ := info_parts Tryz.info46
  refine wpList_append_lies w hgd s x 23 ho B 46 i0 _ 2 32 Tryz.underlying23 hi hz0 hz1 hz2 rfl (by decide) v l.length (cellsF l) hs h ⟨b, 0, none⟩ 1 c [.string y.1, .string y.2] hx rfl ?_ ?_ (by decide) (by unfold maxLen; omega) (by omega) hB w.heap.size rfl ?_
  · intro j u hj
    match j, hj with
    | 0, hj => simp at hj; subst hj; rw [Addr.add_lit]; exact hy
    | 1, hj => simp at hj; subst hj; rw [Addr.add_lit]; exact hy2
    | j + 2, hj => simp at hj
  · intro u hu; simp at hu; rcases hu with rfl | rfl <;> rfl
  · intro g cap w' hown hgrow hg hlt
    refine K _ w' ?_ hgrow
    unfold OwnF
    rw [List.length_append, cellsF_app]; exact hown
end

set_option maxRecDepth 100000 in
set_option maxHeartbeats 2000000 in
theorem srcFieldsS_any (g m : Nat) (a : Option Addr) (n c : Nat) (w : World) (h : Src w g a n c) (hm : m ≤ 1000) :
    Calls Tryz.prog 20 #[.pointer (some ⟨g, 0, none⟩), .int .i64 m] w fun e w' => ∃ v l, e = .returned v ∧ OwnF w.heap.size w' v l ∧ l.length ≤ m ∧ (∀ f ∈ l, SrcF f) ∧ Src w' g a n c ∧ w.grownBy w' (some g) := by
  have H0 := Box.mk h
  have HLOW := Box.mk h.low
  have hlt := h.lt
  clear h
  go_enter Tryz.func20, Tryz.ntmps20
  go_wp2_with fail
  refine (next_any g (m + 1) a n c w H0.out (by omega) (by omega)).mono ?_
  rintro e w1 ⟨k, hk, rfl, hsrc, hg1⟩
  have HS1 := Box.mk hsrc
  have HG1 := Box.mk hg1
  clear hsrc hg1 H0
  go_wp2_with fail
  go_loopw [5, 6] (fun v iv wr => ∃ j : Nat, j ≤ m ∧ iv = .int .i64 j ∧ ∃ l : List Fld, l.length + j ≤ m ∧ Box (OwnF w.heap.size wr v l ∧ (∀ f ∈ l, SrcF f) ∧ Src wr g a n c ∧ w.grownBy wr (some g))) (fun _ iv _ => (intOf iv).toNat)
  case atStart => exact ⟨k, by omega, rfl, [], by simp; omega, ⟨OwnF.start _ _, by simp, HS1.out, HG1.out⟩⟩
  case round =>
    clear HS1 HG1
    obtain ⟨j, hj, rfl, l, hl, HM⟩ := hrel
    by_cases hpos : 0 < j
    · go_wp2_with fail
      refine (srcFieldS_any g a n c wr HM.out.2.2.1).mono ?_
      rintro e w2 ⟨f, rfl, hmd, hsrc, hg2⟩
      have HO2 := Box.mk (HM.out.1.grown hg2 (fun q e e2 => by have := (HM.out.1.lt e).1; have := Option.some.inj e2; omega))
      have HS2 := Box.mk hsrc
      have HG2 := Box.mk (grownBy_trans HM.out.2.2.2 hg2)
      have HALL := Box.mk (show ∀ y ∈ l ++ [f], SrcF y from fun y hy => by
        rcases List.mem_append.1 hy with h1 | h1
        · exact HM.out.2.1 y h1
        · simp at h1; rw [h1]; exact hmd)
      have hsz := HG2.out.size
      clear hmd hsrc hg2 HM
      go_wp2_with (at_builtin; refine wpList_append_ownf _ rfl _ _ rfl rfl (HO2.out.keep ((Below.refl _ _).alloc (Nat.le_refl _) _)) rfl (y := f) ?c1 ?c2 (by omega) (by simp; omega) ?c3)
      case c1 => simp
      case c2 => simp
      case c3 =>
        intro v' w3 hown hgrow
        have HO3 := Box.mk hown
        have hgrow2 : w2.grownBy w3 u5.ownBlock := ⟨hgrow.os, hgrow.tape, hgrow.output, Nat.le_trans (by simp) hgrow.size, fun k hk hne => by
          rw [hgrow.block k (by simp; omega) hne]
          exact (below_oneF w2 _).block k hk⟩
        have HS3 := Box.mk (HS2.out.grown hgrow2 (fun e => by have := (HO2.out.lt e.symm).1; omega) (fun x e h0 e2 => by have := (HO2.out.lt e2.symm).1; have := HLOW.out x e h0; omega))
        have HG3 := Box.mk (grownBy_new HG2.out hgrow2 (fun i e => (HO2.out.lt e).1))
        clear hown hgrow hgrow2 HO2 HS2 HG2
        go_wp2_with fail
        go_roundw
        case rel => exact ⟨j - 1, by omega, by go_num, l ++ [f], by simp; omega, ⟨HO3.out, HALL.out, HS3.out, HG3.out⟩⟩
        case measure => simp [intOf]; omega
    · obtain rfl : j = 0 := by omega
      go_wp2_with fail
      go_ret
      exact ⟨_, l, rfl, HM.out.1, by omega, HM.out.2.1, HM.out.2.2.1, HM.out.2.2.2⟩
end Go.Proofs.YtgmbfiikkogenaaGreatDoor
namespace Go.Proofs.YtgmbfiikkogenaaGreatDoor
open Go.RowKit

theorem IntsF.alloc {w : World} {a : Option Addr} {n : Nat} (h : IntsF w a n) (o : Obj) : IntsF (w.alloc o) a n := h.keep (below_oneF w o)
theorem src_box {w : World} {a : Option Addr} {n c : Nat} (h : IntsF w a n) (hn : n ≤ maxLen) : Src (w.alloc (.cells #[.slice a n c, .int .i64 0] 50)) w.heap.size a n c := by
  refine ⟨⟨0, Nat.zero_le _, heap_alloc_new _ _⟩, hn, h.alloc _, fun x e h0 => ?_⟩
  obtain ⟨y, z, e2, hc, _⟩ := h 0 h0
  rw [e] at e2
  obtain rfl := Option.some.inj e2
  have := lt_cell hc
  rw [add_blockF] at this
  omega
end Go.Proofs.YtgmbfiikkogenaaGreatDoor
namespace Go.Proofs.YtgmbfiikkogenaaGreatDoor
open Go.RowKit

theorem SmallF.short {l : List Fld} (h : SmallF l) : ShortF l := fun f hf => ⟨le_maxLen (h f hf).1, le_maxLen (h f hf).2⟩

end Go.Proofs.YtgmbfiikkogenaaGreatDoor
namespace Go.Proofs.YtgmbfiikkogenaaGreatDoor
open Go.RowKit

theorem total_values {x : List Fld} (h : SmallF x) (n : ByteArray) : total (valuesL x n) ≤ x.length * 1048577 := by
  unfold valuesL
  induction x with
  | nil => exact Nat.zero_le _
  | cons f t ih =>
    have h1 := ih (fun g hg => h g (List.mem_cons_of_mem _ hg))
    have h2 := (h f (List.mem_cons_self ..)).2
    clear h ih
    rw [List.filter_cons, List.length_cons, Nat.add_mul, Nat.one_mul]
    split
    · simp only [List.map_cons, total]
      exact Nat.le_trans (Nat.add_le_add (Nat.add_le_add_right h2 1) h1) (Nat.le_of_eq (Nat.add_comm _ _))
    · exact Nat.le_trans h1 (Nat.le_add_right _ _)

theorem small_total {l : List Fld} (h : SmallF l) (hl : l.length ≤ 1000) (n : ByteArray) : total (valuesL l n) ≤ 2000000000 := Nat.le_trans (total_values h n) (Nat.le_trans (Nat.mul_le_mul_right _ hl) (by decide))
end Go.Proofs.YtgmbfiikkogenaaGreatDoor
namespace Go.Proofs.YtgmbfiikkogenaaGreatDoor
open Go.RowKit

/-- The value of a digit; 16 for any other byte. -/
def dv (c : Int) : Int := if 48 ≤ c ∧ c ≤ 57 then c - 48 else if 97 ≤ c ∧ c ≤ 102 then c - 87 else if 65 ≤ c ∧ c ≤ 70 then c - 55 else 16
end Go.Proofs.YtgmbfiikkogenaaGreatDoor
namespace Go.Proofs.YtgmbfiikkogenaaGreatDoor
open Go.RowKit

def dr (b c : Int) : Int := if dv c < b then dv c else -1
end Go.Proofs.YtgmbfiikkogenaaGreatDoor
namespace Go.Proofs.YtgmbfiikkogenaaGreatDoor
open Go.RowKit

theorem lowB_idem (c : UInt8) : lowB (lowB c) = lowB c := by
  by_cases h : upB c.toNat = true
  · have e := lowB_val' c h
    have : upB (lowB c).toNat = false := by
      unfold upB at h ⊢; simp at h ⊢; omega
    show (if upB ((lowB c).toNat : Int) = true then lowB c + 32 else lowB c) = lowB c
    rw [this]; rfl
  · have h' : upB c.toNat = false := by simpa using h
    have e : lowB c = c := by unfold lowB; rw [h']; rfl
    rw [e, e]
theorem lowS_idem (s : ByteArray) : lowS (lowS s) = lowS s := by
  unfold lowS; simp only [List.map_map]
  congr 2
  exact List.map_congr_left fun c _ => lowB_idem c
theorem lowS_size (s : ByteArray) : (lowS s).size = s.size := by
  show (lowS s).data.size = s.data.size
  simp [lowS]

section
variable (w : World) (m : Int)

theorem beq_same (a : ByteArray) : (a.toList == a.toList) = true := by simp

end
end Go.Proofs.YtgmbfiikkogenaaGreatDoor
namespace Go.Proofs.YtgmbfiikkogenaaGreatDoor
open Go.RowKit

theorem splitL_total (c : UInt8) : ∀ l : List UInt8, ((splitL c l).map (fun p => p.length + 1)).sum = l.length + 1
  | [] => rfl
  | b :: t => by
    have ih := splitL_total c t
    rw [splitL]; split
    · simp; omega
    · cases h : splitL c t with
      | nil => exact absurd h (splitL_ne c t)
      | cons q r => rw [h] at ih; simp [front] at ih ⊢; omega
theorem total_map (L : List (List UInt8)) : total (L.map ofL) = (L.map (fun p => p.length + 1)).sum := by
  induction L with
  | nil => rfl
  | cons a t ih =>
    have e : (ofL a).size = a.length := by show (ofL a).data.size = _; simp [ofL]
    simp only [List.map_cons, total, List.sum_cons, ih, e]
theorem total_elemsOf (l : List ByteArray) : total (elemsOf l) ≤ total l := by
  unfold elemsOf
  induction l with
  | nil => exact Nat.le_refl _
  | cons a t ih =>
    have h := trimBA_size a
    simp only [List.map_cons, List.filter_cons]
    split <;> simp only [total] <;> omega
theorem total_append (a b : List ByteArray) : total (a ++ b) = total a + total b := by
  induction a with
  | nil => simp [total]
  | cons x t ih => simp only [List.cons_append, total, ih]; omega
theorem total_elemL (a : ByteArray) : total (elemL a) ≤ a.size + 1 := by
  have h1 := total_elemsOf (splitS 44 a)
  have h2 : total (splitS 44 a) = a.size + 1 := by
    unfold splitS; rw [total_map, splitL_total]; simp
  unfold elemL; omega
theorem total_listL : ∀ l : List ByteArray, total (listL l) ≤ total l
  | [] => Nat.le_refl _
  | a :: t => by
    have h1 := total_listL t
    have h2 := total_elemL a
    have e : listL (a :: t) = elemL a ++ listL t := by unfold listL; rw [List.flatMap_cons]
    rw [e, total_append]; simp only [total]; omega

section
variable (w : World) (m : Int)

end
end Go.Proofs.YtgmbfiikkogenaaGreatDoor
namespace Go.Proofs.YtgmbfiikkogenaaGreatDoor
open Go.RowKit

def cnN : ByteArray := ⟨#[99, 111, 110, 110, 101, 99, 116, 105, 111, 110]⟩
theorem total_mem {l : List ByteArray} {y : ByteArray} (h : y ∈ l) : y.size + 1 ≤ total l := by
  obtain ⟨k, hk, rfl⟩ := List.getElem_of_mem h
  exact total_at hk (Nat.le_refl _)
theorem listL_small {l : List ByteArray} {y : ByteArray} (h : y ∈ listL l) : y.size ≤ total l := by
  have h1 := total_mem h
  have h2 := total_listL l
  omega
end Go.Proofs.YtgmbfiikkogenaaGreatDoor
namespace Go.Proofs.YtgmbfiikkogenaaGreatDoor
open Go.RowKit

/-- What package bytealg holds. -/
def MaxOk (w : World) (mm : Int) : Prop := w.cell? ⟨2, 0, none⟩ = some (.int .i64 mm)
theorem MaxOk.keep {w w' : World} {mm : Int} (h : MaxOk w mm) (hb : Below w.heap.size w w') : MaxOk w' mm := below_cell hb h
def cnP : ByteArray := ⟨#[67, 111, 110, 110, 101, 99, 116, 105, 111, 110]⟩
theorem low_cn : lowS cnP = lowS cnN := by decide +kernel
theorem foldS_low {a n m : ByteArray} (h : lowS n = lowS m) : foldS a n = foldS a m := by unfold foldS; rw [h]
theorem valuesL_low {n m : ByteArray} (l : List Fld) (h : lowS n = lowS m) : valuesL l n = valuesL l m := by
  unfold valuesL; simp only [foldS_low h]
end Go.Proofs.YtgmbfiikkogenaaGreatDoor
namespace Go.Proofs.YtgmbfiikkogenaaGreatDoor
open Go.RowKit

def nineN : List ByteArray := [⟨#[67, 111, 110, 110, 101, 99, 116, 105, 111, 110]⟩, ⟨#[75, 101, 101, 112, 45, 65, 108, 105, 118, 101]⟩, ⟨#[80, 114, 111, 120, 121, 45, 67, 111, 110, 110, 101, 99, 116, 105, 111, 110]⟩, ⟨#[84, 69]⟩, ⟨#[84, 114, 97, 105, 108, 101, 114]⟩, ⟨#[84, 114, 97, 110, 115, 102, 101, 114, 45, 69, 110, 99, 111, 100, 105, 110, 103]⟩, ⟨#[85, 112, 103, 114, 97, 100, 101]⟩, ⟨#[69, 120, 112, 101, 99, 116]⟩, ⟨#[67, 111, 110, 116, 101, 110, 116, 45, 76, 101, 110, 103, 116, 104]⟩]
def nineR : List ByteArray := [⟨#[99, 111, 110, 110, 101, 99, 116, 105, 111, 110]⟩, ⟨#[107, 101, 101, 112, 45, 97, 108, 105, 118, 101]⟩, ⟨#[112, 114, 111, 120, 121, 45, 99, 111, 110, 110, 101, 99, 116, 105, 111, 110]⟩, ⟨#[116, 101]⟩, ⟨#[116, 114, 97, 105, 108, 101, 114]⟩, ⟨#[116, 114, 97, 110, 115, 102, 101, 114, 45, 101, 110, 99, 111, 100, 105, 110, 103]⟩, ⟨#[117, 112, 103, 114, 97, 100, 101]⟩, ⟨#[101, 120, 112, 101, 99, 116]⟩, ⟨#[99, 111, 110, 116, 101, 110, 116, 45, 108, 101, 110, 103, 116, 104]⟩]
def hostP : ByteArray := ⟨#[72, 111, 115, 116]⟩
def cookP : ByteArray := ⟨#[67, 111, 111, 107, 105, 101]⟩
def hostLo : ByteArray := ⟨#[104, 111, 115, 116]⟩
def cookN : ByteArray := ⟨#[99, 111, 111, 107, 105, 101]⟩
def sepP : ByteArray := ⟨#[44, 32]⟩
theorem low_host : lowS hostP = lowS hostLo := by decide +kernel
theorem low_cook : lowS cookP = lowS cookN := by decide +kernel
theorem low_nine : nineN.map lowS = nineR.map lowS := by decide +kernel
/-- A name that Connection cannot remove. -/
def protB (s : ByteArray) : Bool := foldS s hostLo || foldS s cookN
def namedL (x : List ByteArray) : List ByteArray := x.filter fun s => !protB s
def stripNs (l : List Fld) : List ByteArray := nineN ++ namedL (listL (valuesL l cnN))
def stripL (l : List Fld) : List Fld := withoutL l (stripNs l)
def tailB (l : List ByteArray) : List UInt8 := l.flatMap fun y => [44, 32] ++ y.data.toList
def joinB : List ByteArray → List UInt8
  | [] => []
  | x :: r => x.data.toList ++ tailB r
def joinS (l : List ByteArray) : ByteArray := ⟨(joinB l).toArray⟩
theorem inFoldL_app (a b : List ByteArray) (s : ByteArray) : inFoldL (a ++ b) s = (inFoldL a s || inFoldL b s) := by unfold inFoldL; rw [List.any_append]
theorem inFoldL_map (a : List ByteArray) (s : ByteArray) : inFoldL a s = (a.map lowS).any (fun x => x.toList == (lowS s).toList) := by
  unfold inFoldL foldS; rw [List.any_map]; rfl
theorem inFoldL_nine (s : ByteArray) : inFoldL nineR s = inFoldL nineN s := by rw [inFoldL_map, inFoldL_map, low_nine]
theorem foldS_right {a b x : ByteArray} (h : foldS a b = true) : foldS x a = foldS x b := by
  unfold foldS at *; rw [eq_of_beq h]
theorem inFoldL_right {a b : ByteArray} (ns : List ByteArray) (h : foldS a b = true) : inFoldL ns a = inFoldL ns b := by
  unfold inFoldL; congr 1; funext x; exact foldS_right h
theorem valuesL_kept (l : List Fld) (ns : List ByteArray) (n : ByteArray) (h : inFoldL ns n = false) : valuesL (withoutL l ns) n = valuesL l n := by
  unfold valuesL withoutL
  rw [List.filter_filter]
  congr 1
  apply List.filter_congr
  intro f _
  by_cases hf : foldS f.1 n = true
  · rw [hf, inFoldL_right ns hf, h]; rfl
  · rw [Bool.not_eq_true] at hf; rw [hf]; rfl
theorem valuesL_gone (l : List Fld) (ns : List ByteArray) (n : ByteArray) (h : inFoldL ns n = true) : valuesL (withoutL l ns) n = [] := by
  unfold valuesL withoutL
  rw [List.filter_filter, List.map_eq_nil_iff, List.filter_eq_nil_iff]
  intro f _ hf
  rw [Bool.and_eq_true] at hf
  rw [inFoldL_right ns hf.1, h] at hf
  exact absurd hf.2 (by decide)
theorem strip_ref (l : List Fld) : withoutL l (nineR ++ namedL (listL (valuesL l cnN))) = stripL l := by
  unfold stripL withoutL stripNs
  apply List.filter_congr
  intro f _
  rw [inFoldL_app, inFoldL_app, inFoldL_nine]
theorem stripL_len (l : List Fld) : (stripL l).length ≤ l.length := withoutL_len _ _
theorem stripL_short {l : List Fld} (h : ShortF l) : ShortF (stripL l) := withoutL_short h _
theorem tailB_len : ∀ l : List ByteArray, (tailB l).length ≤ 2 * total l
  | [] => Nat.le_refl _
  | x :: r => by
    have ih := tailB_len r
    unfold tailB at *
    rw [List.flatMap_cons, List.length_append]
    simp only [List.length_append, List.length_cons, List.length_nil, total]
    have : x.data.toList.length = x.size := by simp
    omega
theorem joinB_len (l : List ByteArray) : (joinB l).length ≤ 2 * total l := by
  cases l with
  | nil => exact Nat.zero_le _
  | cons x r =>
    have ih := tailB_len r
    unfold joinB
    rw [List.length_append]
    have : x.data.toList.length = x.size := by simp
    simp only [total]; omega
theorem joinS_size (l : List ByteArray) : (joinS l).size ≤ 2 * total l := by
  have := joinB_len l
  show (joinB l).toArray.size ≤ _
  rw [List.size_toArray]; exact this
theorem tailB_snoc (l : List ByteArray) (x : ByteArray) : tailB (l ++ [x]) = tailB l ++ [44, 32] ++ x.data.toList := by
  unfold tailB; rw [List.flatMap_append]; simp
theorem joinB_snoc {l : List ByteArray} (h : l ≠ []) (x : ByteArray) : joinB (l ++ [x]) = joinB l ++ [44, 32] ++ x.data.toList := by
  cases l with
  | nil => exact absurd rfl h
  | cons y r => show y.data.toList ++ tailB (r ++ [x]) = _; rw [tailB_snoc]; unfold joinB; simp
theorem joinS_one (x : ByteArray) : joinS [x] = x := ba_ext (by unfold joinS joinB tailB; simp)
theorem joinS_snoc {l : List ByteArray} (h : l ≠ []) (x : ByteArray) : joinS (l ++ [x]) = joinS l ++ sepP ++ x := ba_ext (by
  rw [ba_app_list, ba_app_list]
  unfold joinS; rw [joinB_snoc h]; rfl)
end Go.Proofs.YtgmbfiikkogenaaGreatDoor
namespace Go.Proofs.YtgmbfiikkogenaaGreatDoor
open Go.RowKit
set_option linter.unusedSimpArgs false

theorem ba_toList (a : ByteArray) : a.toList = a.data.toList := by simp [ByteArray.toList_eq]
theorem ba_eq {a b : ByteArray} : a = b ↔ a.toList = b.toList := by
  constructor
  · intro h; rw [h]
  · intro h
    rw [ba_toList, ba_toList] at h
    exact ba_ext h
def ltS (a b : ByteArray) : Bool := Op.bytesLess a.toList b.toList
theorem bl_irr : ∀ a : List UInt8, Op.bytesLess a a = false
  | [] => rfl
  | x :: r => by
    unfold Op.bytesLess
    rw [bl_irr r]
    simp
theorem bl_trans : ∀ a b c : List UInt8, Op.bytesLess a b = true → Op.bytesLess b c = true → Op.bytesLess a c = true
  | _, [], _, h, _ => by unfold Op.bytesLess at h; cases h
  | [], _ :: _, [], _, h => by unfold Op.bytesLess at h; cases h
  | [], _ :: _, _ :: _, _, _ => by unfold Op.bytesLess; rfl
  | _ :: _, _ :: _, [], _, h => by unfold Op.bytesLess at h; cases h
  | x :: a, y :: b, z :: c, h1, h2 => by
    unfold Op.bytesLess at h1 h2 ⊢
    simp only [Bool.or_eq_true, Bool.and_eq_true, decide_eq_true_eq, beq_iff_eq] at h1 h2 ⊢
    rcases h1 with h1 | ⟨rfl, h1⟩
    · rcases h2 with h2 | ⟨rfl, h2⟩
      · exact .inl (UInt8.lt_trans h1 h2)
      · exact .inl h1
    · rcases h2 with h2 | ⟨rfl, h2⟩
      · exact .inl h2
      · exact .inr ⟨rfl, bl_trans a b c h1 h2⟩
theorem bl_tri : ∀ a b : List UInt8, Op.bytesLess a b = true ∨ a = b ∨ Op.bytesLess b a = true
  | [], [] => .inr (.inl rfl)
  | [], _ :: _ => .inl (by unfold Op.bytesLess; rfl)
  | _ :: _, [] => .inr (.inr (by unfold Op.bytesLess; rfl))
  | x :: a, y :: b => by
    unfold Op.bytesLess
    simp only [Bool.or_eq_true, Bool.and_eq_true, decide_eq_true_eq, beq_iff_eq, List.cons.injEq]
    by_cases h1 : x < y
    · exact .inl (.inl h1)
    · by_cases h2 : y < x
      · exact .inr (.inr (.inl h2))
      · have h3 : x = y := by
          rw [UInt8.lt_iff_toNat_lt] at h1 h2
          exact UInt8.toNat_inj.1 (by omega)
        rcases bl_tri a b with h | h | h
        · exact .inl (.inr ⟨h3, h⟩)
        · exact .inr (.inl ⟨h3, h⟩)
        · exact .inr (.inr (.inr ⟨h3.symm, h⟩))
theorem ltS_irr (a : ByteArray) : ltS a a = false := bl_irr _
theorem ltS_trans {a b c : ByteArray} (h : ltS a b = true) (k : ltS b c = true) : ltS a c = true := bl_trans _ _ _ h k
theorem ltS_tri (a b : ByteArray) : ltS a b = true ∨ a = b ∨ ltS b a = true := by
  rcases bl_tri a.toList b.toList with h | h | h
  · exact .inl h
  · exact .inr (.inl (ba_eq.2 h))
  · exact .inr (.inr h)

/-- Put into an ascending list, once. -/
def insS (s : ByteArray) : List ByteArray → List ByteArray
  | [] => [s]
  | x :: r => if ltS x s = true then x :: insS s r else if x = s then x :: r else s :: x :: r
def SortedS : List ByteArray → Prop
  | [] => True
  | x :: r => (∀ y ∈ r, ltS x y = true) ∧ SortedS r
theorem insS_mem (s : ByteArray) : ∀ (l : List ByteArray) (x : ByteArray), x ∈ insS s l ↔ x = s ∨ x ∈ l
  | [], x => by unfold insS; simp
  | y :: r, x => by
    unfold insS
    split
    · rw [List.mem_cons, insS_mem s r x, List.mem_cons]
      constructor
      · rintro (h | h | h)
        · exact .inr (.inl h)
        · exact .inl h
        · exact .inr (.inr h)
      · rintro (h | h | h)
        · exact .inr (.inl h)
        · exact .inl h
        · exact .inr (.inr h)
    · split
      · rename_i h; subst h; simp
      · simp
theorem insS_sorted (s : ByteArray) : ∀ l : List ByteArray, SortedS l → SortedS (insS s l)
  | [], _ => ⟨fun y h => (nomatch h), trivial⟩
  | x :: r, h => by
    unfold insS
    split
    · rename_i hx
      refine ⟨fun y hy => ?_, insS_sorted s r h.2⟩
      rcases (insS_mem s r y).1 hy with rfl | hy
      · exact hx
      · exact h.1 y hy
    · split
      · exact h
      · rename_i h1 h2
        have hs : ltS s x = true := by
          rcases ltS_tri s x with h3 | h3 | h3
          · exact h3
          · exact absurd h3.symm h2
          · exact absurd h3 h1
        refine ⟨fun y hy => ?_, h⟩
        rcases List.mem_cons.1 hy with rfl | hy
        · exact hs
        · exact ltS_trans hs (h.1 y hy)
theorem sorted_ext : ∀ {a b : List ByteArray}, SortedS a → SortedS b → (∀ x, x ∈ a ↔ x ∈ b) → a = b
  | [], [], _, _, _ => rfl
  | [], y :: b, _, _, h => by have := (h y).2 (List.mem_cons_self ..); cases this
  | x :: a, [], _, _, h => by have := (h x).1 (List.mem_cons_self ..); cases this
  | x :: a, y :: b, ha, hb, h => by
    have hxy : x = y := by
      have h1 := (h x).1 (List.mem_cons_self ..)
      have h2 := (h y).2 (List.mem_cons_self ..)
      rcases List.mem_cons.1 h1 with h1 | h1
      · exact h1
      · rcases List.mem_cons.1 h2 with h2 | h2
        · exact h2.symm
        · have := ltS_trans (ha.1 y h2) (hb.1 x h1)
          rw [ltS_irr] at this; cases this
    subst hxy
    congr 1
    refine sorted_ext ha.2 hb.2 fun z => ?_
    constructor
    · intro hz
      rcases List.mem_cons.1 ((h z).1 (List.mem_cons_of_mem _ hz)) with rfl | h1
      · have := ha.1 _ hz; rw [ltS_irr] at this; cases this
      · exact h1
    · intro hz
      rcases List.mem_cons.1 ((h z).2 (List.mem_cons_of_mem _ hz)) with rfl | h1
      · have := hb.1 _ hz; rw [ltS_irr] at this; cases this
      · exact h1
theorem insS_len (s : ByteArray) : ∀ l : List ByteArray, (insS s l).length ≤ l.length + 1
  | [] => Nat.le_refl _
  | x :: r => by
    unfold insS
    split
    · have := insS_len s r; simp only [List.length_cons]; omega
    · split
      · simp
      · simp
/-- Where the search ends. -/
theorem insS_at (s : ByteArray) : ∀ (l : List ByteArray) (k : Nat), k ≤ l.length → (∀ j (h : j < l.length), j < k → ltS l[j] s = true) → (∀ h : k < l.length, ltS l[k] s = false) →
    insS s l = if k < l.length ∧ l[k]? = some s then l else l.take k ++ [s] ++ l.drop k
  | [], k, hk, _, _ => by
    obtain rfl : k = 0 := by simpa using hk
    rfl
  | x :: r, 0, _, _, h2 => by
    have h := h2 (by simp)
    simp only [List.getElem_cons_zero] at h
    unfold insS
    rw [if_neg (by rw [h]; decide)]
    by_cases e : x = s
    · rw [if_pos e, if_pos ⟨by simp, by simp [e]⟩]
    · rw [if_neg e, if_neg (by rintro ⟨_, h⟩; exact e (by simpa using h))]
      rfl
  | x :: r, k + 1, hk, h1, h2 => by
    have h := h1 0 (by simp) (by omega)
    simp only [List.getElem_cons_zero] at h
    have ih := insS_at s r k (by simpa using hk) (fun j hj hjk => by have := h1 (j + 1) (by simpa using hj) (by omega); simpa using this) (fun hk2 => by have := h2 (by simpa using hk2); simpa using this)
    unfold insS
    rw [if_pos h, ih]
    by_cases e : k < r.length ∧ r[k]? = some s
    · rw [if_pos e, if_pos ⟨by simpa using e.1, by simpa using e.2⟩]
    · rw [if_neg e, if_neg (by rintro ⟨a, b⟩; exact e ⟨by simpa using a, by simpa using b⟩)]
      rfl
def namesS (l : List ByteArray) : List ByteArray := l.foldl (fun acc s => insS s acc) []
theorem namesS_snoc (l : List ByteArray) (k : Nat) (h : k < l.length) : namesS (l.take (k + 1)) = insS l[k] (namesS (l.take k)) := by
  unfold namesS
  rw [List.take_succ_eq_append_getElem h, List.foldl_append]; rfl
theorem foldIns_mem : ∀ (l acc : List ByteArray) (x : ByteArray), x ∈ l.foldl (fun acc s => insS s acc) acc ↔ x ∈ l ∨ x ∈ acc
  | [], acc, x => by simp
  | y :: r, acc, x => by
    rw [List.foldl_cons, foldIns_mem r (insS y acc) x, insS_mem, List.mem_cons]
    constructor
    · rintro (h | h | h)
      · exact .inl (.inr h)
      · exact .inl (.inl h)
      · exact .inr h
    · rintro ((h | h) | h)
      · exact .inr (.inl h)
      · exact .inl h
      · exact .inr (.inr h)
theorem foldIns_sorted : ∀ (l acc : List ByteArray), SortedS acc → SortedS (l.foldl (fun acc s => insS s acc) acc)
  | [], _, h => h
  | y :: r, acc, h => foldIns_sorted r (insS y acc) (insS_sorted y acc h)
theorem namesS_mem (l : List ByteArray) (x : ByteArray) : x ∈ namesS l ↔ x ∈ l := by unfold namesS; rw [foldIns_mem]; simp
theorem namesS_sorted (l : List ByteArray) : SortedS (namesS l) := foldIns_sorted l [] trivial
theorem namesS_congr {a b : List ByteArray} (h : ∀ x, x ∈ a ↔ x ∈ b) : namesS a = namesS b :=
  sorted_ext (namesS_sorted a) (namesS_sorted b) fun x => by rw [namesS_mem, namesS_mem]; exact h x
theorem foldIns_len : ∀ (l acc : List ByteArray), (l.foldl (fun acc s => insS s acc) acc).length ≤ l.length + acc.length
  | [], acc => by simp
  | y :: r, acc => by
    rw [List.foldl_cons, List.length_cons]
    have h1 := foldIns_len r (insS y acc)
    have h2 := insS_len y acc
    omega
theorem namesS_len (l : List ByteArray) : (namesS l).length ≤ l.length := by have := foldIns_len l []; unfold namesS; simpa using this

/-- P19.1. -/
def viaDate : List ByteArray := [⟨#[118, 105, 97]⟩, ⟨#[100, 97, 116, 101]⟩]
def keptN (l : List Fld) (ig : List ByteArray) : List Fld := withoutL (withoutL (stripL l) viaDate) ig
def outN (k : List Fld) : List Fld := (namesS (k.map fun f => lowS f.1)).map fun n => (n, joinS (valuesL k n))
def fieldsN (l : List Fld) (ig : List ByteArray) : List Fld := outN (keptN l ig)
theorem keptN_mem {l : List Fld} {ig : List ByteArray} {f : Fld} (h : f ∈ keptN l ig) : f ∈ l ∧ inFoldL nineN f.1 = false ∧ inFoldL viaDate f.1 = false ∧ inFoldL ig f.1 = false := by
  unfold keptN withoutL at h
  rw [List.mem_filter, List.mem_filter] at h
  obtain ⟨⟨h1, h2⟩, h3⟩ := h
  unfold stripL withoutL at h1
  rw [List.mem_filter] at h1
  obtain ⟨h0, h1⟩ := h1
  unfold stripNs at h1
  rw [inFoldL_app] at h1
  simp only [Bool.not_eq_true', Bool.or_eq_false_iff] at h1 h2 h3
  exact ⟨h0, h1.1, h2, h3⟩
theorem outN_names (k : List Fld) : (outN k).map (·.1) = namesS (k.map fun f => lowS f.1) := by
  unfold outN
  rw [List.map_map]
  exact List.map_id' _
theorem foldS_iff (a b : ByteArray) : foldS a b = true ↔ lowS a = lowS b := by
  unfold foldS
  rw [beq_iff_eq]
  exact ba_eq.symm
theorem names_low (k : List Fld) : ∀ x ∈ namesS (k.map fun f => lowS f.1), lowS x = x := by
  intro x hx
  rw [namesS_mem, List.mem_map] at hx
  obtain ⟨g, _, rfl⟩ := hx
  exact lowS_idem _
end Go.Proofs.YtgmbfiikkogenaaGreatDoor
namespace Go.Proofs.YtgmbfiikkogenaaGreatDoor
open Go.RowKit

theorem nineN_short : ∀ x ∈ nineN, x.size ≤ maxLen := by
  have h : (nineN.all fun x => decide (x.size ≤ 100)) = true := by decide +kernel
  intro x hx
  have := of_decide_eq_true (List.all_eq_true.1 h x hx)
  unfold maxLen; omega
theorem nineR_short : ∀ x ∈ nineR, x.size ≤ maxLen := by
  have h : (nineR.all fun x => decide (x.size ≤ 100)) = true := by decide +kernel
  intro x hx
  have := of_decide_eq_true (List.all_eq_true.1 h x hx)
  unfold maxLen; omega
theorem named_yes (x : List ByteArray) (k : Nat) (h : k < x.length) (hp : protB x[k] = false) : namedL (x.take (k + 1)) = namedL (x.take k) ++ [x[k]] := by
  unfold namedL; rw [List.take_succ_eq_append_getElem h, List.filter_append]; simp [hp]
theorem named_no (x : List ByteArray) (k : Nat) (h : k < x.length) (hp : protB x[k] = true) : namedL (x.take (k + 1)) = namedL (x.take k) := by
  unfold namedL; rw [List.take_succ_eq_append_getElem h, List.filter_append]; simp [hp]
theorem namedL_len (x : List ByteArray) : (namedL x).length ≤ x.length := List.length_filter_le _ _
theorem prot_yes {s : ByteArray} (h : foldS s hostLo = true) : protB s = true := by unfold protB; rw [h]; rfl
theorem prot_second {s : ByteArray} (h : foldS s hostLo = false) : protB s = foldS s cookN := by unfold protB; rw [h]; rfl
theorem names_short {l : List Fld} (h : total (valuesL l cnN) ≤ 4000000000) : ∀ x ∈ nineN ++ namedL (listL (valuesL l cnN)), x.size ≤ maxLen := by
  intro x hx
  rcases List.mem_append.1 hx with hx | hx
  · exact nineN_short x hx
  · have := listL_small (List.mem_filter.1 hx).1
    unfold maxLen; omega
theorem namesR_short {l : List Fld} (h : total (valuesL l cnN) ≤ 4000000000) : ∀ x ∈ nineR ++ namedL (listL (valuesL l cnN)), x.size ≤ maxLen := by
  intro x hx
  rcases List.mem_append.1 hx with hx | hx
  · exact nineR_short x hx
  · have := listL_small (List.mem_filter.1 hx).1
    unfold maxLen; omega

theorem stripNs_len {l : List Fld} (h : total (valuesL l cnN) ≤ 4000000000 - 9) : (stripNs l).length ≤ 4000000000 := by
  have h1 := namedL_len (listL (valuesL l cnN))
  have h2 := listL_length (valuesL l cnN)
  unfold stripNs; rw [List.length_append]; show 9 + _ ≤ _; omega

set_option maxHeartbeats 1000000 in
theorem isProtected_any (s : ByteArray) (w : World) (hs : s.size ≤ maxLen) :
    Calls Tryz.prog 98 #[.string s] w fun e w' => e = .returned (.bool (protB s)) ∧ Below w.heap.size w w' := by
  cases h1 : foldS s hostLo with
  | true =>
    have HP := Box.mk (prot_yes h1).symm
    have H1 := Box.mk (show foldS s hostP = true by rw [foldS_low low_host]; exact h1)
    clear h1
    go_enter Tryz.func98, Tryz.ntmps98
    go_wp2_with fail
    refine (fold_any s hostP _ hs (by decide)).mono ?_
    rintro e w1 ⟨he, hb⟩
    rw [H1.out] at he
    subst he
    have HB := Box.mk hb
    clear hb
    go_wp2_with fail
    go_ret
    exact ⟨ret_bool HP.out, HB.out⟩
  | false =>
    have HP := Box.mk (prot_second h1).symm
    have H1 := Box.mk (show foldS s hostP = false by rw [foldS_low low_host]; exact h1)
    clear h1
    go_enter Tryz.func98, Tryz.ntmps98
    go_wp2_with fail
    refine (fold_any s hostP _ hs (by decide)).mono ?_
    rintro e w1 ⟨he, hb⟩
    rw [H1.out] at he
    subst he
    have HB := Box.mk hb
    clear hb
    go_wp2_with fail
    refine (fold_any s cookP _ hs (by decide)).mono ?_
    rintro e w2 ⟨rfl, hb2⟩
    rw [foldS_low low_cook]
    have HB2 := Box.mk (below_trans HB.out hb2)
    clear hb2
    go_wp2_with fail
    go_ret
    exact ⟨ret_bool HP.out, HB2.out⟩

theorem acc_lits (w : World) (L : List ByteArray) (n : Nat) (h : L.length = n) (hn : n ≤ 1000) (h0 : 0 < n) (cs : Array Value) (hc : cs = (L.map Value.string).toArray) : Acc w (w.alloc (.cells cs 9)) (.slice (some ⟨w.heap.size, 0, none⟩) n n) L := by
  subst h
  refine ⟨⟨by rw [List.length_map, Nat.mul_one], .inr ⟨w.heap.size, L.length, cs, rfl, Nat.le_refl _, heap_alloc_new w (.cells cs 9), Nat.le_refl _, by unfold maxLen; omega, ?_, ?_⟩⟩, below_oneF w _⟩
  · rw [hc]; simp
  · rw [hc, Nat.mul_one]; show List.take _ _ = _; exact List.take_of_length_le (by rw [List.length_map]; exact Nat.le_refl _)
theorem fElements_lowA {n m : ByteArray} (e : lowS n = lowS m) (w : World) (mm : Int) (l : List Fld) (a : Option Addr) (cap : Nat) (h : FldsIn w a l) (hz : ShortF l) (hn : n.size ≤ maxLen) (hl : l.length ≤ 1000000) (hm : MaxOk w mm) (ht : total (valuesL l m) ≤ 4000000000) :
    Calls Tryz.prog 97 #[.slice a l.length cap, .string n] w (RetAcc w (listL (valuesL l m))) := by
  rw [← valuesL_low l e] at ht ⊢
  exact fElements_acc w mm l n a cap h hz hn hl hm ht
/-- The strings of a slice that is newer than another one. -/
theorem acc_beside {w w1 : World} {v : Value} {x : List ByteArray} {B : Nat} (h : Acc w w1 v x) (hB : B < w.heap.size) {u : Value} (hu : u.ownBlock = some B) :
    ∃ a c P, v = .slice a x.length c ∧ StrsAt w1 a x ∧ (x ≠ [] → a = some ⟨P, 0, none⟩ ∧ Aside w1 u P x) := by
  by_cases hx : x = []
  · obtain ⟨a, c, rfl, hs⟩ := h.shape
    exact ⟨a, c, 0, rfl, hs, fun e => absurd hx e⟩
  · obtain ⟨g, c, rfl, h1, h2, h3⟩ := h.isNew hx
    exact ⟨_, c, g, rfl, h3, fun _ => ⟨rfl, h3, (by rw [hu]; intro e; have := Option.some.inj e; omega), h2⟩⟩

set_option maxRecDepth 100000 in
set_option maxHeartbeats 2000000 in
theorem namesOfOneHop_any (l : List Fld) (a : Option Addr) (cap : Nat) (w : World) (mm : Int) (h : FldsIn w a l) (hz : ShortF l) (hl : l.length ≤ 1000000) (hm : MaxOk w mm) (ht : total (valuesL l cnN) ≤ 4000000000) :
    Calls Tryz.prog 79 #[.slice a l.length cap] w (RetStrs w (stripNs l)) := by
  have HA0 := Box.mk (acc_lits w nineN 9 rfl (by decide) (by decide) _ rfl)
  have HF0 := Box.mk (h.keep HA0.out.2)
  have HM0 := Box.mk (hm.keep HA0.out.2)
  clear h hm
  obtain ⟨x, HX⟩ : ∃ x, Box (listL (valuesL l cnN) = x) := ⟨_, ⟨rfl⟩⟩
  have HXL := Box.mk (show ∀ y ∈ x, y.size ≤ maxLen by
    intro y hy; rw [← HX.out] at hy; have := listL_small hy; unfold maxLen; omega)
  have hxl : x.length ≤ 4000000000 := by rw [← HX.out]; have := listL_length (valuesL l cnN); omega
  go_enter Tryz.func79, Tryz.ntmps79
  go_wp2_with fail
  change Calls _ _ _ (w.alloc (.cells (nineN.map Value.string).toArray 9)) _
  obtain ⟨W, hW⟩ : ∃ W, W = w.alloc (.cells (nineN.map Value.string).toArray 9) := ⟨_, rfl⟩
  rw [← hW] at HA0 HF0 HM0 ⊢
  have HLT := Box.mk (show w.heap.size < W.heap.size by rw [hW, World.size_alloc]; exact Nat.lt_succ_self _)
  clear hW
  refine (fElements_lowA low_cn W mm l a cap HF0.out hz (by decide) hl HM0.out ht).mono ?_
  rintro e w1 ⟨v1, rfl, hv1⟩
  rw [HX.out] at hv1
  have HA1 := Box.mk (show Acc w w1 (.slice (some ⟨w.heap.size, 0, none⟩) 9 9) (nineN ++ namedL (x.take 0)) from HA0.out.keep hv1.2)
  obtain ⟨a1, c1, P, rfl, _, hP⟩ := acc_beside hv1 HLT.out (u := .slice (some ⟨w.heap.size, 0, none⟩) 9 9) rfl
  have HP1 := Box.mk hP
  clear hv1 hP HA0 HF0 HM0 HLT
  go_wp2_with fail
  go_loopw [3, 10] (fun v iv wr => ∃ k : Nat, k ≤ x.length ∧ iv = .int .i64 k ∧ Box (Acc w wr v (nineN ++ namedL (x.take k)) ∧ (x ≠ [] → Aside wr v P x))) (fun _ iv _ => x.length - (intOf iv).toNat)
  case atStart => exact ⟨0, Nat.zero_le _, rfl, ⟨HA1.out, fun e => (HP1.out e).2⟩⟩
  case round =>
    clear HA1
    obtain ⟨k, hk, rfl, HM⟩ := hrel
    have hnl := namedL_len (x.take k)
    have hnl2 : (x.take k).length ≤ k := List.length_take_le _ _
    have hnn : (nineN ++ namedL (x.take k)).length ≤ 4000000009 := by rw [List.length_append]; show 9 + _ ≤ _; omega
    by_cases hlt : k < x.length
    · have hne : x ≠ [] := fun e => by rw [e] at hlt; exact absurd hlt (Nat.not_lt_zero _)
      obtain ⟨rfl, _⟩ := HP1.out hne
      have HASD := Box.mk (HM.out.2 hne)
      obtain ⟨b, off, hbe, hc⟩ := HASD.out.1 k hlt
      have hbe2 := Option.some.inj hbe
      injection hbe2 with e1 e2
      subst e1 e2
      rw [Nat.zero_add] at hc
      clear hbe hne
      have HSZ := Box.mk (HXL.out _ (List.getElem_mem hlt))
      by_cases hp : protB x[k] = true
      · have HT := Box.mk (named_no x k hlt hp)
        have HP := Box.mk hp
        clear hp
        generalize x[k] = f at *
        go_wp2_with fail
        refine (isProtected_any f _ HSZ.out).mono ?_
        rintro e w2 ⟨he, hb⟩
        rw [HP.out] at he
        subst he
        have HM2 := Box.mk (show Acc w w2 _ (nineN ++ namedL (x.take (k + 1))) ∧ (x ≠ [] → Aside w2 _ P x) by rw [HT.out]; exact ⟨HM.out.1.keep hb, fun _ => HASD.out.keep hb⟩)
        clear hb HM HT HP hc hnl hnl2 hnn
        go_wp2_with fail
        go_roundw
        case rel => exact ⟨k + 1, by omega, by go_num, HM2⟩
        case measure => simp [intOf]; omega
      · have hp' : protB x[k] = false := by simpa using hp
        have HT := Box.mk (named_yes x k hlt hp')
        have HP := Box.mk hp'
        clear hp hp'
        generalize x[k] = f at *
        obtain ⟨y, hy⟩ : ∃ y, y = nineN ++ namedL (x.take k) := ⟨_, rfl⟩
        have HY := Box.mk (show nineN ++ namedL (x.take (k + 1)) = y ++ [f] by rw [HT.out, hy, List.append_assoc])
        rw [← hy] at HM hnn
        clear hy HT
        go_wp2_with fail
        refine (isProtected_any f _ HSZ.out).mono ?_
        rintro e w2 ⟨he, hb⟩
        rw [HP.out] at he
        subst he
        have HM2 := Box.mk (And.intro (HM.out.1.keep hb) (HASD.out.keep hb))
        clear hb HM HP hc hnl hnl2
        go_wp2_with (at_builtin; refine wpList_append_acc _ rfl _ _ rfl rfl (HM2.out.1.keep ((Below.refl _ _).alloc (Nat.le_refl _) _)) rfl (y := f) ?c1 ?c2 ?c3)
        case c1 => simp
        case c2 => omega
        case c3 =>
          intro g cap' w' hacc has
          have HACC := Box.mk (show Acc w w' (.slice (some ⟨g, 0, none⟩) (y.length + 1) cap') (nineN ++ namedL (x.take (k + 1))) ∧ (x ≠ [] → Aside w' (.slice (some ⟨g, 0, none⟩) (y.length + 1) cap') P x) by
            rw [HY.out]; exact ⟨hacc, fun _ => has _ _ (HM2.out.2.keep (below_oneF _ _))⟩)
          clear hacc has HM2 HY HASD
          go_wp2_with fail
          go_roundw
          case rel => exact ⟨k + 1, by omega, by go_num, HACC⟩
          case measure => simp [intOf]; omega
    · have HE := Box.mk (show Acc w wr _ (stripNs l) by
        have h1 := HM.out.1
        rw [List.take_of_length_le (by omega), ← HX.out] at h1; exact h1)
      clear HM
      go_wp2_with fail
      obtain ⟨a', cap', rfl, hs⟩ := HE.out.shape
      go_ret
      exact ⟨a', cap', rfl, hs, HE.out.2⟩
set_option maxHeartbeats 1000000 in
theorem hStrip_any (l : List Fld) (a : Option Addr) (cap : Nat) (w : World) (mm : Int) (h : FldsIn w a l) (hz : ShortF l) (hl : l.length ≤ 1000000) (hm : MaxOk w mm) (ht : total (valuesL l cnN) ≤ 3000000000) :
    Calls Tryz.prog 57 #[.slice a l.length cap] w (RetAccF w (stripL l)) := by
  have H0 := Box.mk h
  have hnl := stripNs_len (l := l) (by omega)
  have HN := Box.mk (names_short (l := l) (by omega))
  clear h
  go_enter Tryz.func57, Tryz.ntmps57
  go_wp2_with fail
  refine (namesOfOneHop_any l a cap _ mm H0.out hz hl hm (by omega)).mono ?_
  rintro e w1 ⟨a1, c1, rfl, hs1, hb1⟩
  have HS1 := Box.mk (StrsIn.of_at hs1)
  have HB1 := Box.mk hb1
  have HF1 := Box.mk (H0.out.keep hb1)
  clear hs1 hb1 H0
  go_wp2_with fail
  refine (fWithout_acc l (stripNs l) a a1 cap c1 w1 HF1.out hz HS1.out HN.out hl hnl).mono ?_
  rintro e w2 ⟨v2, rfl, hv2⟩
  have HV := Box.mk (AccF.lift HB1.out hv2)
  clear hv2
  go_wp2_with fail
  go_ret
  exact ⟨v2, rfl, HV.out⟩
end Go.Proofs.YtgmbfiikkogenaaGreatDoor
namespace Go.Proofs.YtgmbfiikkogenaaGreatDoor
open Go.RowKit

theorem refElements_lowA (w : World) (l : List Fld) (n : ByteArray) (a : Option Addr) (cap : Nat) (h : FldsIn w a l) (hz : ShortF l) (hn : n.size ≤ maxLen) (hl : l.length ≤ 1000000) (ht : total (valuesL l n) ≤ 4000000000) :
    Calls Tryz.prog 68 #[.slice a l.length cap, .string n] w (RetAcc w (listL (valuesL l n))) :=
  refElements_acc w l n a cap h hz hn hl ht
theorem namesR_len {l : List Fld} (h : total (valuesL l cnN) ≤ 3000000000) : (nineR ++ namedL (listL (valuesL l cnN))).length ≤ 4000000000 := by
  have h1 := namedL_len (listL (valuesL l cnN))
  have h2 := listL_length (valuesL l cnN)
  rw [List.length_append]; show 9 + _ ≤ _; omega
theorem prot_no {s : ByteArray} (h : protB s = false) : foldS s hostLo = false ∧ foldS s cookN = false := by
  unfold protB at h; rw [Bool.or_eq_false_iff] at h; exact h
theorem prot_cook {s : ByteArray} (h : protB s = true) (h2 : foldS s hostLo = false) : foldS s cookN = true := by
  rw [prot_second h2] at h; exact h

set_option maxRecDepth 100000 in
set_option maxHeartbeats 2000000 in
theorem refStrip_any (l : List Fld) (a : Option Addr) (cap : Nat) (w : World) (h : FldsIn w a l) (hz : ShortF l) (hl : l.length ≤ 1000000) (ht : total (valuesL l cnN) ≤ 3000000000) :
    Calls Tryz.prog 43 #[.slice a l.length cap] w (RetAccF w (stripL l)) := by
  have HA0 := Box.mk (acc_lits w nineR 9 rfl (by decide) (by decide) _ rfl)
  have HF0 := Box.mk (h.keep HA0.out.2)
  have HFW := Box.mk h
  have hnl := namesR_len ht
  have HN := Box.mk (namesR_short (l := l) (by omega))
  clear h
  obtain ⟨x, HX⟩ : ∃ x, Box (listL (valuesL l cnN) = x) := ⟨_, ⟨rfl⟩⟩
  have HXL := Box.mk (show ∀ y ∈ x, y.size ≤ maxLen by
    intro y hy; rw [← HX.out] at hy; have := listL_small hy; unfold maxLen; omega)
  have hxl : x.length ≤ 4000000000 := by rw [← HX.out]; have := listL_length (valuesL l cnN); omega
  go_enter Tryz.func43, Tryz.ntmps43
  go_wp2_with fail
  change Calls _ _ _ (w.alloc (.cells (nineR.map Value.string).toArray 9)) _
  obtain ⟨W, hW⟩ : ∃ W, W = w.alloc (.cells (nineR.map Value.string).toArray 9) := ⟨_, rfl⟩
  rw [← hW] at HA0 HF0 ⊢
  have HLT := Box.mk (show w.heap.size < W.heap.size by rw [hW, World.size_alloc]; exact Nat.lt_succ_self _)
  clear hW
  refine (refElements_lowA W l cnN a cap HF0.out hz (by decide) hl (by omega)).mono ?_
  rintro e w1 ⟨v1, rfl, hv1⟩
  rw [HX.out] at hv1
  have HA1 := Box.mk (show Acc w w1 (.slice (some ⟨w.heap.size, 0, none⟩) 9 9) (nineR ++ namedL (x.take 0)) from HA0.out.keep hv1.2)
  obtain ⟨a1, c1, P, rfl, hs1, hP⟩ := acc_beside hv1 HLT.out (u := .slice (some ⟨w.heap.size, 0, none⟩) 9 9) rfl
  have HP1 := Box.mk hP
  clear hs1 hv1 hP HA0 HF0 HLT
  go_wp2_with fail
  go_loopw [3, 5] (fun v iv wr => ∃ k : Nat, k ≤ x.length ∧ iv = .int .i64 k ∧ Box (Acc w wr v (nineR ++ namedL (x.take k)) ∧ (x ≠ [] → Aside wr v P x))) (fun _ iv _ => x.length - (intOf iv).toNat)
  case atStart => exact ⟨0, Nat.zero_le _, rfl, ⟨HA1.out, fun e => (HP1.out e).2⟩⟩
  case round =>
    clear HA1
    obtain ⟨k, hk, rfl, HM⟩ := hrel
    have hnl1 := namedL_len (x.take k)
    have hnl2 : (x.take k).length ≤ k := List.length_take_le _ _
    have hnn : (nineR ++ namedL (x.take k)).length ≤ 4000000009 := by rw [List.length_append]; show 9 + _ ≤ _; omega
    by_cases hlt : k < x.length
    · have hne : x ≠ [] := fun e => by rw [e] at hlt; exact absurd hlt (Nat.not_lt_zero _)
      obtain ⟨rfl, _⟩ := HP1.out hne
      have HASD := Box.mk (HM.out.2 hne)
      obtain ⟨b, off, hbe, hc⟩ := HASD.out.1 k hlt
      have hbe2 := Option.some.inj hbe
      injection hbe2 with e1 e2
      subst e1 e2
      rw [Nat.zero_add] at hc
      clear hbe hne
      have HSZ := Box.mk (HXL.out _ (List.getElem_mem hlt))
      cases hp : protB x[k] with
      | true =>
        have HT := Box.mk (named_no x k hlt hp)
        cases h1 : foldS x[k] hostLo with
        | true =>
          have HP := Box.mk h1
          clear hp h1
          generalize x[k] = f at *
          go_wp2_with fail
          refine (refFold_any f hostLo _ HSZ.out (by decide)).mono ?_
          rintro e w2 ⟨he, hb⟩
          rw [HP.out] at he
          subst he
          have HM2 := Box.mk (show Acc w w2 _ (nineR ++ namedL (x.take (k + 1))) ∧ (x ≠ [] → Aside w2 _ P x) by rw [HT.out]; exact ⟨HM.out.1.keep hb, fun _ => HASD.out.keep hb⟩)
          clear hb HM HT HP hc hnl1 hnl2 hnn
          go_wp2_with fail
          go_roundw
          case rel => exact ⟨k + 1, by omega, by go_num, HM2⟩
          case measure => simp [intOf]; omega
        | false =>
          have HP := Box.mk h1
          have HP2 := Box.mk (prot_cook hp h1)
          clear hp h1
          generalize x[k] = f at *
          go_wp2_with fail
          refine (refFold_any f hostLo _ HSZ.out (by decide)).mono ?_
          rintro e w2 ⟨he, hb⟩
          rw [HP.out] at he
          subst he
          have hc2 := below_cell hb hc
          have HM2 := Box.mk (And.intro (HM.out.1.keep hb) (HASD.out.keep hb))
          clear hb HM HASD hc hnl1 hnl2 hnn
          go_wp2_with fail
          refine (refFold_any f cookN _ HSZ.out (by decide)).mono ?_
          rintro e w3 ⟨he, hb⟩
          rw [HP2.out] at he
          subst he
          have HM3 := Box.mk (show Acc w w3 _ (nineR ++ namedL (x.take (k + 1))) ∧ (x ≠ [] → Aside w3 _ P x) by rw [HT.out]; exact ⟨HM2.out.1.keep hb, fun _ => HM2.out.2.keep hb⟩)
          clear hb HM2 HT HP HP2 hc2
          go_wp2_with fail
          go_roundw
          case rel => exact ⟨k + 1, by omega, by go_num, HM3⟩
          case measure => simp [intOf]; omega
      | false =>
        have HT := Box.mk (named_yes x k hlt hp)
        have HP := Box.mk (prot_no hp)
        clear hp
        generalize x[k] = f at *
        obtain ⟨y, hy⟩ : ∃ y, y = nineR ++ namedL (x.take k) := ⟨_, rfl⟩
        have HY := Box.mk (show nineR ++ namedL (x.take (k + 1)) = y ++ [f] by rw [HT.out, hy, List.append_assoc])
        rw [← hy] at HM hnn
        clear hy HT
        go_wp2_with fail
        refine (refFold_any f hostLo _ HSZ.out (by decide)).mono ?_
        rintro e w2 ⟨he, hb⟩
        rw [HP.out.1] at he
        subst he
        have hc2 := below_cell hb hc
        have HM2 := Box.mk (And.intro (HM.out.1.keep hb) (HASD.out.keep hb))
        clear hb HM HASD hc hnl1 hnl2
        go_wp2_with fail
        refine (refFold_any f cookN _ HSZ.out (by decide)).mono ?_
        rintro e w3 ⟨he, hb⟩
        rw [HP.out.2] at he
        subst he
        have hc3 := below_cell hb hc2
        have HM3 := Box.mk (And.intro (HM2.out.1.keep hb) (HM2.out.2.keep hb))
        clear hb HM2 HP hc2
        go_wp2_with (at_builtin; refine wpList_append_acc _ rfl _ _ rfl rfl (HM3.out.1.keep ((Below.refl _ _).alloc (Nat.le_refl _) _)) rfl (y := f) ?c1 ?c2 ?c3)
        case c1 => simp
        case c2 => omega
        case c3 =>
          intro g cap' w' hacc has
          have HACC := Box.mk (show Acc w w' (.slice (some ⟨g, 0, none⟩) (y.length + 1) cap') (nineR ++ namedL (x.take (k + 1))) ∧ (x ≠ [] → Aside w' (.slice (some ⟨g, 0, none⟩) (y.length + 1) cap') P x) by
            rw [HY.out]; exact ⟨hacc, fun _ => has _ _ (HM3.out.2.keep (below_oneF _ _))⟩)
          clear hacc has HM3 HY
          go_wp2_with fail
          go_roundw
          case rel => exact ⟨k + 1, by omega, by go_num, HACC⟩
          case measure => simp [intOf]; omega
    · have HE := Box.mk (show Acc w wr _ (nineR ++ namedL (listL (valuesL l cnN))) by
        have h1 := HM.out.1
        rw [List.take_of_length_le (by omega), ← HX.out] at h1; exact h1)
      clear HM hnl1 hnl2 hnn
      obtain ⟨z, hz2⟩ : ∃ z, z = nineR ++ namedL (listL (valuesL l cnN)) := ⟨_, rfl⟩
      rw [← hz2] at HE HN hnl
      have HZ2 := Box.mk (show withoutL l z = stripL l by rw [hz2]; exact strip_ref l)
      clear hz2
      obtain ⟨a', cap', rfl, hs⟩ := HE.out.shape
      have HS := Box.mk (StrsIn.of_at hs)
      clear hs
      go_wp2_with fail
      refine (refWithout_acc l z a a' cap cap' wr (HFW.out.keep HE.out.2) hz HS.out HN.out hl hnl).mono ?_
      rintro e w2 ⟨v2, rfl, hv2⟩
      rw [HZ2.out] at hv2
      have HV := Box.mk (AccF.lift HE.out.2 hv2)
      clear hv2
      go_wp2_with fail
      go_ret
      exact ⟨v2, rfl, HV.out⟩
end Go.Proofs.YtgmbfiikkogenaaGreatDoor
namespace Go.Proofs.YtgmbfiikkogenaaGreatDoor
open Go.RowKit
set_option linter.unusedVariables false

def strV (l : List ByteArray) : List Value := l.map Value.string
theorem strV_len (l : List ByteArray) : (strV l).length = l.length := by unfold strV; simp
theorem strV_app (a b : List ByteArray) : strV (a ++ b) = strV a ++ strV b := by unfold strV; simp
theorem strV_one (l : List ByteArray) : ∀ u ∈ strV l, u.oneCell' = true := by
  intro u hu
  unfold strV at hu
  rw [List.mem_map] at hu
  obtain ⟨s, _, rfl⟩ := hu
  rfl
/-- The slice reads as the strings l; its capacity is no less. -/
def StrsC (w : World) (a : Option Addr) (l : List ByteArray) (c : Nat) : Prop := StrsIn w a l ∧ l.length ≤ c ∧ (a = none → c = 0)
theorem StrsC.keep {w w' : World} {a : Option Addr} {l : List ByteArray} {c : Nat} (h : StrsC w a l c) (hb : Below w.heap.size w w') : StrsC w' a l c := ⟨h.1.keep hb, h.2⟩
theorem StrsC.nil {w : World} {a : Option Addr} {l : List ByteArray} {c : Nat} (h : StrsC w a l c) (e : a = none) : l = [] ∧ c = 0 := by
  have h0 := h.2.2 e
  have h1 := h.2.1
  exact ⟨List.eq_nil_of_length_eq_zero (by omega), h0⟩
theorem StrsC.take {w : World} {a : Option Addr} {l : List ByteArray} {c : Nat} (h : StrsC w a l c) (k : Nat) : StrsC w a (l.take k) c := ⟨h.1.take k, by have := h.2.1; rw [List.length_take]; omega, h.2.2⟩
theorem StrsIn.cells {w : World} {x : Addr} {l : List ByteArray} (h : StrsIn w (some x) l) : ∀ j u, (strV l)[j]? = some u → w.cell? (x.add j) = some u := by
  intro j u hj
  unfold strV at hj
  rw [List.getElem?_map] at hj
  obtain ⟨s, hs, rfl⟩ := Option.map_eq_some_iff.1 hj
  obtain ⟨hlt, rfl⟩ := List.getElem?_eq_some_iff.1 hs
  obtain ⟨y, e, hc⟩ := h j hlt
  obtain rfl := Option.some.inj e
  exact hc
def OwnS (B : Nat) (w : World) (v : Value) (l : List ByteArray) : Prop := w.ownsRow B 9 1 v l.length (strV l)
theorem OwnS.start (B : Nat) (w : World) : OwnS B w (.slice none 0 0) [] := World.ownsRow_nil _ _ _ _
theorem OwnS.lt {B : Nat} {w : World} {v : Value} {l : List ByteArray} (h : OwnS B w v l) {k : Nat} (hk : v.ownBlock = some k) : B ≤ k ∧ k < w.heap.size := World.ownsRow.lt h k hk
theorem OwnS.same {B : Nat} {w w' : World} {v : Value} {l : List ByteArray} (h : OwnS B w v l) (hs : ∀ k, v.ownBlock = some k → w'.heap[k]? = w.heap[k]?) : OwnS B w' v l := by
  obtain ⟨h1, h2⟩ := h
  refine ⟨h1, ?_⟩
  rcases h2 with h2 | ⟨g, cap, cur, hv, hg, hc, r⟩
  · exact .inl h2
  · exact .inr ⟨g, cap, cur, hv, hg, by rw [hs g (by rw [hv]; rfl)]; exact hc, r⟩
theorem OwnS.keep {B : Nat} {w w' : World} {v : Value} {l : List ByteArray} (h : OwnS B w v l) (hb : Below w.heap.size w w') : OwnS B w' v l :=
  h.same fun k hk => hb.block k (h.lt hk).2
theorem OwnS.grown {B : Nat} {w w' : World} {v : Value} {l : List ByteArray} {row : Option Nat} (h : OwnS B w v l) (hg : w.grownBy w' row) (hne : ∀ k, v.ownBlock = some k → some k ≠ row) : OwnS B w' v l :=
  h.same fun k hk => hg.block k (h.lt hk).2 (hne k hk)
theorem OwnS.shape {B : Nat} {w : World} {v : Value} {l : List ByteArray} (h : OwnS B w v l) : ∃ a cap, v = .slice a l.length cap ∧ StrsC w a l cap := by
  obtain ⟨h1, h2⟩ := h
  rcases h2 with ⟨rfl, h2⟩ | ⟨g, cap, cur, rfl, hg, hc, hcap, hm, hsz, ht⟩
  · have : l = [] := List.eq_nil_of_length_eq_zero h2
    subst this
    exact ⟨none, 0, rfl, StrsIn.nil _ _, Nat.le_refl _, fun _ => rfl⟩
  · refine ⟨_, cap, rfl, ⟨fun j hj => ⟨_, rfl, ?_⟩, hcap, fun e => by cases e⟩⟩
    have hu : (strV l)[j]? = some (.string l[j]) := by unfold strV; simp [hj]
    have e := congrArg (fun x => x[j]?) ht
    have hlt : j < l.length * 1 := by omega
    rw [hu, List.getElem?_take_of_lt hlt] at e
    rw [Addr.add_lit]
    simp only [World.cell?, hc, Nat.zero_add]
    simpa using e
theorem OwnS.up {B B' : Nat} {w : World} {v : Value} {l : List ByteArray} (h : OwnS B' w v l) (hB : B ≤ B') : OwnS B w v l := by
  obtain ⟨h1, h2⟩ := h
  refine ⟨h1, ?_⟩
  rcases h2 with h2 | ⟨g, cap, cur, hv, hg, hc, r⟩
  · exact .inl h2
  · exact .inr ⟨g, cap, cur, hv, Nat.le_trans hB hg, hc, r⟩
/-- An own slice with one block, empty and without room. -/
def Spec.ownS (B : Nat) (l : List ByteArray) : Spec := ⟨fun v w => OwnS B w v l, fun _ _ _ h hb => h.keep hb⟩
def Spec.own0 (B : Nat) : Spec := ⟨fun v w => (∃ g, v = .slice (some ⟨g, 0, none⟩) 0 0) ∧ OwnS B w v [], fun _ _ _ h hb => ⟨h.1, h.2.keep hb⟩⟩
/-- A slice that reads as the strings l. -/
def Spec.strsV (l : List ByteArray) : Spec := ⟨fun v w => ∃ a c, v = .slice a l.length c ∧ StrsC w a l c, fun _ _ _ h hb => by
  obtain ⟨a, c, h1, h2⟩ := h
  exact ⟨a, c, h1, h2.keep hb⟩⟩
/-- A slice of one string. -/
def Spec.strOne (s : ByteArray) : Spec := ⟨fun v w => ∃ b c, v = .slice (some ⟨b, 0, none⟩) 1 c ∧ w.cell? ⟨b, 0, none⟩ = some (.string s), fun _ _ _ h hb => by
  obtain ⟨b, c, h1, h2⟩ := h
  exact ⟨b, c, h1, below_cell hb h2⟩⟩
def Spec.nopeS : Spec := ⟨fun _ _ => False, fun _ _ _ h _ => h⟩
theorem sizeOf_strS (w : World) : (sizeOf (Tryz.prog.elem 27)).run Tryz.prog w = .ok 1 w := by
  rw [show Tryz.prog.elem 27 = 9 by kernel_rfl]
  obtain ⟨i0, hi, hz0, hz1, hz2⟩ := info_parts Tryz.info9
  simp [sizeOf, typeInfo, hi, hz1]
theorem run_part_s (W : World) (x : Addr) (len cap n : Nat) (hn : n ≤ len) :
    (Instr.sliceAt 27 (.slice (some x) len cap) (some (.int .i64 (n : Int))) none none).run Tryz.prog W = .ok (.slice (some (if cap = n then x else x.add n)) (len - n) (cap - n)) W := by
  rw [run_sliceAt_slice W 27 _ _ _ _ (by kernel_rfl), run_slice_l W 27 _ _ _ (by kernel_rfl) .i64 (n : Int) (by omega) (by omega), sizeOf_strS]
  simp only [Result.andThen, sliced, Int.toNat_natCast, Nat.mul_one]
  split <;> rfl
theorem add_addS (x : Addr) (n j : Nat) : (x.add n).add j = x.add (n + j) := by
  unfold Addr.add
  by_cases h0 : n = 0
  · subst h0; simp
  · by_cases hj0 : j = 0
    · subst hj0; simp [h0]
    · simp [h0, hj0, Nat.add_assoc]
theorem part_s {w : World} {a : Option Addr} {l : List ByteArray} {cap i : Nat} (h : StrsC w a l cap) (hi : i ≤ l.length) :
    ∃ a' c', (∀ W, (Instr.sliceAt 27 (.slice a l.length cap) (some (.int .i64 (i : Int))) none none).run Tryz.prog W = .ok (.slice a' (l.length - i) c') W) ∧ StrsC w a' (l.drop i) c' := by
  cases a with
  | some x =>
    refine ⟨_, _, fun W => run_part_s W x l.length cap i hi, fun j hj => ?_, by rw [List.length_drop]; have := h.2.1; omega, fun e => by cases e⟩
    have hj' : i + j < l.length := by rw [List.length_drop] at hj; omega
    refine ⟨_, rfl, ?_⟩
    have h1 := h.2.1
    rw [if_neg (by omega), add_addS, List.getElem_drop]
    obtain ⟨y, e, hc⟩ := h.1 (i + j) hj'
    obtain rfl := Option.some.inj e
    exact hc
  | none =>
    obtain ⟨rfl, rfl⟩ := h.nil rfl
    have h0 : i = 0 := by simpa using hi
    subst h0
    refine ⟨none, 0, fun W => ?_, StrsIn.nil _ _, Nat.le_refl _, fun _ => rfl⟩
    rw [run_sliceAt_slice W 27 _ _ _ _ (by kernel_rfl), run_slice_l W 27 _ _ _ (by kernel_rfl) .i64 ((0 : Nat) : Int) (by omega) (by simp), sizeOf_strS]
    rfl
section
variable {Q : Exit → Act → World → Prop} {act : Act} {w : World} {o : Oper} {s : Spec} {K : Act → World → Prop}
theorem loc_build0S (ho : o.op = .buildSlice 27 0 #[]) {B : Nat} (hBw : B ≤ w.heap.size) (hs : ∀ v w', (∃ g, v = .slice (some ⟨g, 0, none⟩) 0 0) ∧ OwnS B w' v [] → s.p v w') :
    o.wp Tryz.prog act w (fun a' w' => ∃ v, a' = act.put o.dst v ∧ Below w.heap.size w w' ∧ s.p v w') Q := by
  refine loc_run (v := .slice (some ⟨w.heap.size, 0, none⟩) 0 0) (w' := w.alloc (.cells #[] 9)) ?_ (below_oneF _ _) (hs _ _ ⟨⟨_, rfl⟩, rfl, .inr ⟨w.heap.size, 0, #[], rfl, hBw, heap_alloc_new _ _, Nat.le_refl _, Nat.zero_le _, rfl, rfl⟩⟩)
  obtain ⟨i0, hi, hz0, hz1, hz2⟩ := info_parts Tryz.info9
  unfold execOp
  simp [ho, Instr.buildSlice, run_underlying Tryz.underlying27, sizeOf, typeInfo, hi, Instr.fill, newRow, show Array.range 0 = #[] from rfl]
theorem loc_build1S {x : Operand} (ho : o.op = .buildSlice 27 1 #[(0, x)]) {f : ByteArray} (hx : act.eval x = .string f) (hs : ∀ v w', (∃ b c, v = .slice (some ⟨b, 0, none⟩) 1 c ∧ w'.cell? ⟨b, 0, none⟩ = some (.string f)) → s.p v w') :
    o.wp Tryz.prog act w (fun a' w' => ∃ v, a' = act.put o.dst v ∧ Below w.heap.size w w' ∧ s.p v w') Q := by
  obtain ⟨i0, hi, hz0, hz1, hz2⟩ := info_parts Tryz.info9
  have hrun := run_buildSlice (P := Tryz.prog) w 27 9 1 #[(0, .string f)] #[.string f] i0 _ Tryz.underlying27 hi hz0 (by rw [hz1]; decide) (by rw [hz1]; decide) (by rw [hz1]; simp [Instr.fill, Value.cells, Array.range_succ, show Array.range 0 = #[] from rfl])
  refine loc_run (v := .slice (some ⟨w.heap.size, 0, none⟩) 1 1) (w' := w.alloc (.cells #[.string f] 9)) ?_ (below_oneF _ _) (hs _ _ ⟨_, _, rfl, by rw [World.cell?_alloc_new]; rfl⟩)
  unfold execOp
  simp only [ho, List.map_toArray, List.map_cons, List.map_nil, hx]
  rw [Sem.run_bind, hrun]; rfl
theorem loc_uptoS {x y : Operand} (ho : o.op = .slice 27 x none (some y) none) {ad : Option Addr} {n c k : Nat} (hx : act.eval x = .slice ad n c) (hy : act.eval y = .int .i64 k) (hk : k ≤ n) (hc : n ≤ c) (hs : s.p (.slice ad k c) w) :
    o.wp Tryz.prog act w (fun a' w' => ∃ v, a' = act.put o.dst v ∧ Below w.heap.size w w' ∧ s.p v w') Q := by
  refine loc_run (v := .slice ad k c) ?_ (Below.refl _ _) hs
  have hrun : (Instr.sliceAt 27 (.slice ad n c) none (some (.int .i64 (k : Int))) none).run Tryz.prog w = .ok (.slice ad k c) w := by
    rw [run_sliceAt_slice w 27 _ _ _ _ (by kernel_rfl), run_slice_h w 27 _ _ _ (by kernel_rfl) .i64 (k : Int) (by omega) (by omega), sizeOf_strS]
    have ha : Option.map (fun x : Addr => x.add 0) ad = ad := by cases ad <;> simp [Addr.add]
    simp [Result.andThen, sliced, ha]
  unfold execOp
  simp only [ho, hx, hy, Option.map_some, Option.map_none, Sem.run_bind, hrun, Result.andThen_ok, Sem.run_pure]
/-- Append to an own empty slice without room. -/
theorem loc_append0S {x y : Operand} (ho : o.op = .call { callee := .builtin .append, args := #[x, y], argTypes := #[27, 27] }) {B g : Nat} (hx : act.eval x = .slice (some ⟨g, 0, none⟩) 0 0) (hown : OwnS B w (act.eval x) []) {a : Option Addr} {r : List ByteArray} {c : Nat}
    (hy : act.eval y = .slice a r.length c) (hr : StrsC w a r c) (hn : r.length ≤ 8000000) (hBw : B ≤ w.heap.size) (hs : ∀ v w', OwnS B w' v r → s.p v w') :
    o.wp Tryz.prog act w (fun a' w' => ∃ v, a' = act.put o.dst v ∧ Below w.heap.size w w' ∧ s.p v w') Q := by
  obtain ⟨i0, hi, hz0, hz1, hz2⟩ := info_parts Tryz.info9
  have fin : ∀ v w', (Builtin.append_ #[27, 27] o.type #[.slice (some ⟨g, 0, none⟩) 0 0, .slice a r.length c]).run Tryz.prog w = .ok v w' → Below w.heap.size w w' → OwnS B w' v r →
      o.wp Tryz.prog act w (fun a' w' => ∃ v, a' = act.put o.dst v ∧ Below w.heap.size w w' ∧ s.p v w') Q := fun v w' h1 h2 h3 => by
    refine loc_run (v := v) (w' := w') ?_ h2 (hs v w' h3)
    unfold execOp
    simp only [ho]
    simp [resolve, invoke, builtin, hx, hy, h1, Result.andThen]
  by_cases h0 : r = []
  · subst h0
    refine fin (.slice (some ⟨g, 0, none⟩) 0 0) w ?_ (Below.refl _ _) (by rw [← hx]; exact hown)
    cases a <;> simp [Builtin.append_, run_underlying Tryz.underlying27, sizeOf, typeInfo, hi, Builtin.lenOf, Builtin.firstCells, loadCells, storeCells, loadCellsFrom]
  · cases a with
    | none => exact absurd (hr.nil rfl).1 h0
    | some ad =>
      have hp : 0 < r.length := List.length_pos_iff.2 h0
      obtain ⟨v, w', h1, h2, h3⟩ := run_append_arg_grows (P := Tryz.prog) (w := w) 27 o.type 9 i0 _ 1 16 Tryz.underlying27 hi hz0 hz1 hz2 rfl (by decide) ⟨g, 0, none⟩ 0 0 [] rfl (fun j u hj => by simp at hj) ad r.length c (strV r) (by rw [strV_len, Nat.mul_one]) hr.1.cells (by omega) (by unfold maxLen; omega) (by omega)
      refine fin v w' h1 ((Below.refl _ _).grown h3 (Nat.le_refl _) (fun k hk => by cases hk)) ?_
      have h4 : w'.ownsRow w.heap.size 9 1 v r.length (strV r) := by simpa using h2
      exact OwnS.up (B' := w.heap.size) h4 hBw
/-- Append of a slice that is read to an own one, as one operation. -/
theorem wp_append_ownSs {x y : Operand} (ho : o.op = .call { callee := .builtin .append, args := #[x, y], argTypes := #[27, 27] }) {B : Nat} {l r : List ByteArray} {a : Option Addr} {c : Nat} (hx : OwnS B w (act.eval x) l)
    (hy : act.eval y = .slice a r.length c) (hr : StrsC w a r c) (hn : l.length + r.length ≤ 8000000) (hB : B ≤ w.heap.size)
    (h : ∀ v' w', OwnS B w' v' (l ++ r) → w.grownBy w' (act.eval x).ownBlock → K (act.put o.dst v') w') : o.wp Tryz.prog act w K Q := by
  obtain ⟨i0, hi, hz0, hz1, hz2⟩ := info_parts Tryz.info9
  have fin : ∀ v w', (Builtin.append_ #[27, 27] o.type #[act.eval x, .slice a r.length c]).run Tryz.prog w = .ok v w' → OwnS B w' v (l ++ r) → w.grownBy w' (act.eval x).ownBlock → o.wp Tryz.prog act w K Q := fun v w' h1 h2 h3 => by
    unfold Oper.wp execOp
    simp only [ho, resolve, invoke, builtin, Sem.run_bind, Sem.run_pure, Result.andThen_ok, List.map_toArray, List.map_cons, List.map_nil, hy, h1]
    exact h v w' h2 h3
  cases a with
  | none =>
    obtain ⟨rfl, rfl⟩ := hr.nil rfl
    refine fin (act.eval x) w (run_append_owned_none (P := Tryz.prog) (w := w) B 27 o.type 9 i0 1 Tryz.underlying27 hi (act.eval x) l.length (strV l) hx) ?_ ⟨rfl, rfl, rfl, Nat.le_refl _, fun _ _ _ => rfl⟩
    rw [List.append_nil]; exact hx
  | some ad =>
    obtain ⟨v', w', hr2, h2, h3, _, _⟩ := run_append_own_at (P := Tryz.prog) w B 27 o.type 9 i0 _ 1 16 Tryz.underlying27 hi hz0 hz1 hz2 rfl (by decide) (act.eval x) l.length (strV l) hx ad r.length c (strV r) (by rw [strV_len, Nat.mul_one]) (hr.1.cells) (strV_one r) (by unfold maxLen; omega) (by omega) hB
    refine fin v' w' hr2 ?_ h3
    unfold OwnS
    rw [List.length_append, strV_app]; exact h2
theorem wp_append_oneS {x y : Operand} (ho : o.op = .call { callee := .builtin .append, args := #[x, y], argTypes := #[27, 27] }) {B : Nat} {l : List ByteArray} (hx : OwnS B w (act.eval x) l) {b c : Nat} {f : ByteArray} (hy : act.eval y = .slice (some ⟨b, 0, none⟩) 1 c)
    (h0 : w.cell? ⟨b, 0, none⟩ = some (.string f)) (hn : l.length + 1 ≤ 8000000) (hB : B ≤ w.heap.size)
    (h : ∀ v' w', OwnS B w' v' (l ++ [f]) → w.grownBy w' (act.eval x).ownBlock → K (act.put o.dst v') w') : o.wp Tryz.prog act w K Q := by
  obtain ⟨i0, hi, hz0, hz1, hz2⟩ := info_parts Tryz.info9
  refine wp_append_lies w x y 27 ho B 9 i0 _ 1 16 Tryz.underlying27 hi hz0 hz1 hz2 rfl (by decide) (act.eval x) l.length (strV l) rfl hx ⟨b, 0, none⟩ 1 c [.string f] hy rfl ?_ ?_ (by decide) (by unfold maxLen; omega) (by omega) hB w.heap.size rfl ?_
  · intro j u hj
    match j, hj with
    | 0, hj => simp at hj; subst hj; rw [Addr.add_lit]; exact h0
    | j + 1, hj => simp at hj
  · intro u hu; simp at hu; rcases hu with rfl; rfl
  · intro g cap w' hown hgrow hg hlt
    refine h _ w' ?_ hgrow
    unfold OwnS
    rw [List.length_append, strV_app]; exact hown
end
end Go.Proofs.YtgmbfiikkogenaaGreatDoor
