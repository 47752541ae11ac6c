/- A region that draws its order, in phases: between its breaking operations the others come in whatever order. Parse of the reference. The plain mathematics of numerals: digits, their value with a limit, and that a numeral is read as its number. Contracts of the functions that read a number, of package number and of its reference. Contracts of the functions of the reference that read and write a number. A slice of bytes of the call's own, beside other memory: what an append leaves alone. Chunked bodies: the state of the decoder, one byte, many bytes. The reference's step: bytes of a line that is not complete. -/
import Derived.Test.YtbplpfcgmmflnaaDoorPk1
import Derived.Deep.Quiet
import Derived.Deep.QuietTactic
import Derived.Tactics
import Derived.KernelRfl
import Derived.Below
import Derived.Test.YtbplpfcgmmflnaaDoorRows
import Derived.WalkKit
import Derived.WalkSpells
import Derived.WalkLawsBesides
import Derived.BigQuiet
import Derived.Lib.Bytealg
import Derived.Lib.IndexLaws
import Derived.Lib.Hide
import Derived.ProofKit
import Derived.OpenShut
import Derived.Laws.IdiomStrings
import Derived.Lib.Strings
import Derived.Laws.Bits64
import Derived.Deep.AppendLies
import Derived.SliceStrings
import Derived.Lib.SlBytesConst
import Derived.Maps.AppendAt
import Derived.Laws.AppendOwnNone
import Derived.Great.BuildSlice
import Derived.Laws.Rows
import Derived.Lib.SlTrimSet
import Derived.Lib.IndexBytes
import Derived.Lib.Split
import Derived.Shelf.Strings.SlTrimAscii
import Derived.Shelf.Strings.SplitShaped
import Derived.Shelf.LaysM
import Derived.Shelf.Strings.BuilderK
import Derived.Shelf.Strconv.Itoa4
import Derived.Test.YtbplpfcgmmflnaaDoorProg
import Derived.Lib.SplitLaws
import Derived.WalkSmall
import Derived.Laws.BitsAllLaws
import Derived.Laws.Shifts
import Derived.Maps.OwnOps
import Derived.Maps.OwnSet
import Derived.Deep.SlicePairs
import Derived.Lib.AppendZerosOnto
import Derived.Lib.AppendStr
import Derived.Laws.CopyOwn
import Derived.OwnWalk
import Derived.Laws.Strings3
import Derived.Lib.ItoaMem
namespace Go.Proofs.YtbplpfcgmmflnaaDoor
open Go.RowKit

/-- c waits for i, by others too. -/
def beforeB (ops : Array Oper) : Nat → Nat → Nat → Bool
  | 0, _, _ => false
  | f + 1, c, i => match ops[c]? with
    | some o => waitsFor o i || (List.range c).any fun k => waitsFor o k && beforeB ops f k i
    | none => false
def StepP (P : Program) (Q : Exit → Act → World → Prop) (ops : Array Oper) (S : List Spec) (Inv : World → Prop) (a0 : Act) (o : Oper) (s : Spec) : Prop :=
  ∀ a w, Inv w → Fr ops a0 a → (∀ j, waitsFor o j = true → Holds ops S a w j) →
    Region.wanted o (yielded ops a.tmps) = true ∧ o.wp P a w (fun a' w' => ∃ v, a' = a.put o.dst v ∧ Below w.heap.size w w' ∧ s.p v w') Q
def SidesOK (P : Program) (Q : Exit → Act → World → Prop) (ops : Array Oper) (S : List Spec) (Inv : World → Prop) (a0 : Act) : List Nat → Prop
  | i :: r => (match ops[i]?, S[i]? with | some o, some s => StepP P Q ops S Inv a0 o s | _, _ => False) ∧ SidesOK P Q ops S Inv a0 r
  | [] => True
/-- What is known in one phase stays known in the next. -/
def Over (ops : Array Oper) (a : Act) (w w' : World) (c : Nat) : Nat → List Spec → List Spec → Prop
  | k, s :: ss, t :: ts => (k = c ∨ ∀ v, (∀ o d, ops[k]? = some o → o.dst = some d → v = a.eval (.tmp d)) → s.p v w → t.p v w') ∧ Over ops a w w' c (k + 1) ss ts
  | _, [], [] => True
  | _, _, _ => False
def ChainOK (P : Program) (Q : Exit → Act → World → Prop) (ops : Array Oper) (S S' : List Spec) (Inv Inv' : World → Prop) (a0 : Act) (c : Nat) : Prop :=
  match ops[c]?, S'[c]? with
  | some o, some s => ∀ a w, Inv w → Fr ops a0 a → (∀ j, waitsFor o j = true → Holds ops S a w j) →
      Region.wanted o (yielded ops a.tmps) = true ∧ o.wp P a w (fun a' w' => ∃ v, a' = a.put o.dst v ∧ Inv' w' ∧ s.p v w' ∧ Over ops a w w' c 0 S S') Q
  | _, _ => False
/-- The operations outside the chain that may come up in phase p are those listed. -/
def sidesB (ops : Array Oper) (chain : List Nat) (M : Nat) (sides : List Nat) (p : Nat) : Bool :=
  (List.range ops.size).all fun i => chain.contains i || sides.contains i || (List.range M).any fun q => match chain[q]? with
    | some c => if q < p then beforeB ops ops.size c i else beforeB ops ops.size i c
    | none => false
def chainB (ops : Array Oper) (chain : List Nat) : Bool :=
  (List.range chain.length).all fun p => (List.range chain.length).all fun q => decide (q ≤ p) || (match chain[p]?, chain[q]? with | some c, some d => beforeB ops ops.size d c && decide (c ≠ d) && decide (d < ops.size) && decide (c < ops.size) | _, _ => false)

section
variable {P : Program} {Q : Exit → Act → World → Prop} {ops : Array Oper} {a0 : Act} {w0 : World}
theorem sidesOK_at {S : List Spec} {Inv : World → Prop} : ∀ {l : List Nat}, SidesOK P Q ops S Inv a0 l → ∀ i, i ∈ l → ∀ o, ops[i]? = some o → ∃ s, S[i]? = some s ∧ StepP P Q ops S Inv a0 o s
  | k :: r, h, i, hi, o, ho => by
    rcases List.mem_cons.1 hi with rfl | hi
    · have := h.1
      rw [ho] at this
      cases hs : S[i]? with
      | none => rw [hs] at this; exact this.elim
      | some s => rw [hs] at this; exact ⟨s, rfl, this⟩
    · exact sidesOK_at h.2 i hi o ho
theorem over_at {a : Act} {w w' : World} {c : Nat} : ∀ {ss ts : List Spec} {k : Nat}, Over ops a w w' c k ss ts → ∀ j t, ts[j]? = some t → k + j ≠ c → ∃ s, ss[j]? = some s ∧ ∀ v, (∀ o d, ops[k + j]? = some o → o.dst = some d → v = a.eval (.tmp d)) → s.p v w → t.p v w'
  | s :: ss, t :: ts, k, h, 0, t', ht, hne => by
    simp at ht; subst ht
    rcases h.1 with h1 | h1
    · exact absurd h1 (by simpa using hne)
    · exact ⟨s, rfl, h1⟩
  | s :: ss, t :: ts, k, h, j + 1, t', ht, hne => by
    have e : k + 1 + j = k + (j + 1) := by omega
    have := over_at (k := k + 1) h.2 j t' (by simpa using ht) (by omega)
    rw [e] at this; exact this
  | [], [], _, _, j, t', ht, _ => by simp at ht
  | s :: ss, [], _, h, j, t', ht, _ => by simp at ht
  | [], t :: ts, _, h, j, t', ht, _ => h.elim
theorem before_marked {m : Array Bool} (hcl : ∀ j o, ops[j]? = some o → m.getD j false = true → ∀ i, waitsFor o i = true → m.getD i false = true) :
    ∀ (f c i : Nat), beforeB ops f c i = true → m.getD c false = true → m.getD i false = true
  | 0, _, _, h, _ => by simp [beforeB] at h
  | f + 1, c, i, h, hc => by
    unfold beforeB at h
    cases ho : ops[c]? with
    | none => rw [ho] at h; cases h
    | some o =>
      rw [ho] at h
      simp only [Bool.or_eq_true, List.any_eq_true, Bool.and_eq_true] at h
      rcases h with h | ⟨k, _, h1, h2⟩
      · exact hcl c o ho hc i h
      · exact before_marked hcl f k i h2 (hcl c o ho hc k h1)
/-- What is ready waits for marked ones alone. -/
theorem before_ready {m : Array Bool} (hcl : ∀ j o, ops[j]? = some o → m.getD j false = true → ∀ i, waitsFor o i = true → m.getD i false = true) {c i : Nat} {o : Oper} (ho : ops[c]? = some o)
    (hd : ∀ j, waitsFor o j = true → m.getD j false = true) {f : Nat} (h : beforeB ops f c i = true) : m.getD i false = true := by
  cases f with
  | zero => simp [beforeB] at h
  | succ f =>
    unfold beforeB at h
    rw [ho] at h
    simp only [Bool.or_eq_true, List.any_eq_true, Bool.and_eq_true] at h
    rcases h with h | ⟨k, _, h1, h2⟩
    · exact hd i h
    · exact before_marked hcl f k i h2 (hd k h1)

theorem wp_region_phases {id : Nat} (chain : List Nat) (sides : Nat → List Nat) (S : Nat → List Spec) (Inv : Nat → World → Prop) (hm : P.follows .mixedOrders = true)
    (hB : (List.range ops.size).all (fun i => match ops[i]? with | some x => x.after.all (fun e => !Region.binds .any e || decide (e.on < i)) | none => true) = true)
    (hd : dstsOk ops a0.tmps.size = true) (hc : chainB ops chain = true) (hlt : chain.all (fun c => decide (c < ops.size)) = true) (hsB : (List.range (chain.length + 1)).all (fun p => sidesB ops chain chain.length (sides p) p) = true)
    (hI : ∀ p w w', Inv p w → Below w.heap.size w w' → Inv p w') (h0 : Inv 0 w0) (hS : ∀ p, p ≤ chain.length → SidesOK P Q ops (S p) (Inv p) a0 (sides p))
    (hC : ∀ p (hp : p < chain.length), ChainOK P Q ops (S p) (S (p + 1)) (Inv p) (Inv (p + 1)) a0 chain[p])
    (hQ : ∀ a w, Inv chain.length w → Fr ops a0 a → (∀ j, j < ops.size → Holds ops (S chain.length) a w j) → Q .normal a w) : (Code.region id ops true).wp P Q a0 w0 := by
  have hchain : ∀ p q (hp : p < chain.length) (hq : q < chain.length), p < q → beforeB ops ops.size chain[q] chain[p] = true ∧ chain[p] ≠ chain[q] := fun p q hp hq hpq => by
    have h1 := List.all_eq_true.1 (List.all_eq_true.1 hc p (List.mem_range.2 hp)) q (List.mem_range.2 hq)
    simp only [List.getElem?_eq_getElem hp, List.getElem?_eq_getElem hq, Bool.or_eq_true, Bool.and_eq_true, decide_eq_true_eq] at h1
    rcases h1 with h1 | h1
    · omega
    · exact ⟨h1.1.1.1, h1.1.1.2⟩
  refine wp_region_inv hm (fun m a w => Fr ops a0 a ∧ (∀ j o, ops[j]? = some o → m.getD j false = true → ∀ i, waitsFor o i = true → m.getD i false = true) ∧
    ∃ p, p ≤ chain.length ∧ (∀ q (hq : q < chain.length), m.getD chain[q] false = decide (q < p)) ∧ Inv p w ∧ ∀ j, m.getD j false = true → Holds ops (S p) a w j) ?_ ?_ ?_
  · rintro m a w hs ⟨hf, hcl, p, hp, hph, hinv, hh⟩ i hi
    obtain ⟨h1, o, ho, hall⟩ := mem_ready.1 hi
    have hil : i < ops.size := (Array.getElem?_eq_some_iff.1 ho).1
    have him : i < m.size := by rw [hs]; exact hil
    have hmi : m.getD i false = false := by simp [him] at h1 ⊢; exact h1
    have hdeps : ∀ j, waitsFor o j = true → m.getD j false = true := fun j hj => by
      obtain ⟨e, he, h2⟩ := List.any_eq_true.1 hj
      simp only [Bool.and_eq_true, beq_iff_eq] at h2
      obtain ⟨h3, rfl⟩ := h2
      exact hall e (Array.mem_toList_iff.1 he) h3
    have hcl' : ∀ j o, ops[j]? = some o → (m.setIfInBounds i true).getD j false = true → ∀ k, waitsFor o k = true → (m.setIfInBounds i true).getD k false = true := fun j oj hoj hj k hk => by
      by_cases hji : j = i
      · subst hji
        obtain rfl : o = oj := Option.some.inj (ho.symm.trans hoj)
        exact getD_set_true (hdeps k hk)
      · rw [getD_set_ne false (fun e => hji e.symm)] at hj
        exact getD_set_true (hcl j oj hoj hj k hk)
    unfold wpOp
    simp only [ho]
    by_cases hic : i ∈ chain
    · obtain ⟨q, hq, rfl⟩ := List.getElem_of_mem hic
      have hqp : p ≤ q := by
        have := hph q hq
        rw [hmi] at this
        have := of_decide_eq_false this.symm
        omega
      have hqe : q = p := by
        rcases Nat.lt_or_ge p q with h2 | h2
        · exfalso
          have h3 := before_ready hcl ho hdeps (hchain p q (by omega) hq h2).1
          rw [hph p (by omega)] at h3
          simp at h3
        · omega
      subst hqe
      have hCp := hC q hq
      unfold ChainOK at hCp
      rw [ho] at hCp
      cases hsc : (S (q + 1))[chain[q]]? with
      | none => rw [hsc] at hCp; exact hCp.elim
      | some s =>
        rw [hsc] at hCp
        simp only at hCp
        obtain ⟨hw, hwp⟩ := hCp a w hinv hf fun j hj => hh j (hdeps j hj)
        rw [if_pos hw]
        refine .inl (Oper.wp_mono ?_ hwp)
        rintro a' w' ⟨v, rfl, hinv', hsp, hov⟩
        refine ⟨fr_put ho hf v, hcl', q + 1, hq, fun r hr => ?_, hinv', fun j hj => ?_⟩
        · by_cases hrq : r = q
          · subst hrq
            simp [him]
          · have hne : chain[q] ≠ chain[r] := by
              rcases Nat.lt_or_ge q r with h2 | h2
              · exact (hchain q r hq hr h2).2
              · exact fun e => (hchain r q hr hq (by omega)).2 e.symm
            rw [getD_set_ne false hne, hph r hr]
            by_cases hrl : r < q
            · simp [hrl, show r < q + 1 by omega]
            · simp [hrl, show ¬ r < q + 1 by omega]
        · by_cases hji : j = chain[q]
          · subst hji
            unfold Holds
            simp only [ho, hsc]
            cases hdo : o.dst with
            | none => trivial
            | some d =>
              show s.p ((a.put (some d) v).eval (.tmp d)) w'
              rw [eval_put_same]
              · exact hsp
              · rw [hf.size]; exact (dsts_lt hd ho hdo).1
          · have hj' : m.getD j false = true := by rw [getD_set_ne false (fun e => hji e.symm)] at hj; exact hj
            have h5 := holds_put (a := a) (v := v) hd ho hji (hh j hj')
            unfold Holds at *
            cases hoj : ops[j]? with
            | none => simp
            | some o' =>
              cases hsj : (S (q + 1))[j]? with
              | none => simp
              | some s' =>
                obtain ⟨s0, hs0, himp⟩ := over_at hov j s' hsj (by omega)
                simp only [hoj, hs0] at h5
                simp only
                cases hdo : o'.dst with
                | none => trivial
                | some d =>
                  simp only [hdo] at h5
                  refine himp _ (fun o2 d2 ho2 hd2 => ?_) h5
                  rw [Nat.zero_add, hoj] at ho2
                  obtain rfl := Option.some.inj ho2
                  rw [hdo] at hd2
                  obtain rfl := Option.some.inj hd2
                  exact eval_put_other fun e => (dsts_lt hd ho e).2 j o' hoj hji hdo
    · have hside : i ∈ sides p := by
        have := List.all_eq_true.1 (List.all_eq_true.1 hsB p (List.mem_range.2 (by omega))) i (List.mem_range.2 hil)
        simp only [Bool.or_eq_true, List.contains_iff_mem, List.any_eq_true] at this
        rcases this with (h2 | h2) | ⟨q, hq, h2⟩
        · exact absurd h2 hic
        · exact h2
        · exfalso
          have hql := List.mem_range.1 hq
          rw [List.getElem?_eq_getElem hql] at h2
          simp only at h2
          by_cases hqp : q < p
          · rw [if_pos hqp] at h2
            have h3 := before_marked hcl _ _ _ h2 (by rw [hph q hql]; simp [hqp])
            rw [hmi] at h3; cases h3
          · rw [if_neg hqp] at h2
            have h3 := before_ready hcl ho hdeps h2
            rw [hph q hql] at h3
            simp [hqp] at h3
      obtain ⟨s, hsi, hstep⟩ := sidesOK_at (hS p hp) i hside o ho
      obtain ⟨hw, hwp⟩ := hstep a w hinv hf fun j hj => hh j (hdeps j hj)
      rw [if_pos hw]
      refine .inl (Oper.wp_mono ?_ hwp)
      rintro a' w' ⟨v, rfl, hb', hsp⟩
      refine ⟨fr_put ho hf v, hcl', p, hp, fun r hr => ?_, hI p w w' hinv hb', fun j hj => ?_⟩
      · rw [getD_set_ne false (fun e => hic (by rw [e]; exact List.getElem_mem hr)), hph r hr]
      · by_cases hji : j = i
        · subst hji
          unfold Holds
          simp only [ho, hsi]
          cases hdo : o.dst with
          | none => trivial
          | some d =>
            show s.p ((a.put (some d) v).eval (.tmp d)) w'
            rw [eval_put_same]
            · exact hsp
            · rw [hf.size]; exact (dsts_lt hd ho hdo).1
        · have hj' : m.getD j false = true := by rw [getD_set_ne false (fun e => hji e.symm)] at hj; exact hj
          exact holds_put hd ho hji (holds_mono (hh j hj') hb')
  · rintro m a w hs ⟨hf, hcl, p, hp, hph, hinv, hh⟩ hr
    have hmarked : ∀ j, j < ops.size → m.getD j false = true := fun j => by
      induction j using Nat.strongRecOn with
      | _ j ih =>
        intro hj
        cases hmj : m.getD j false with
        | true => rfl
        | false =>
          exfalso
          have hoj : ops[j]? = some ops[j] := Array.getElem?_eq_getElem hj
          have hbk := List.all_eq_true.1 hB j (List.mem_range.2 hj)
          rw [hoj] at hbk
          simp only [Array.all_eq_true_iff_forall_mem, Bool.or_eq_true, Bool.not_eq_true', decide_eq_true_eq] at hbk
          have hlt : ∀ e ∈ ops[j].after, Region.binds .any e = true → e.on < j := fun e he hbd => by
            rcases hbk e he with h | h
            · rw [hbd] at h; cases h
            · exact h
          have : j ∈ Region.ready .any ops m := mem_ready.2 ⟨by
            have hs' : j < m.size := by rw [hs]; exact hj
            simp [hs'] at hmj ⊢; exact hmj, ops[j], hoj, fun e he hbd => ih _ (hlt e he hbd) (by have := hlt e he hbd; omega)⟩
          rw [hr] at this; cases this
    have hpe : p = chain.length := by
      rcases Nat.lt_or_ge p chain.length with h2 | h2
      · exfalso
        have h3 := hph p h2
        have h4 := hmarked chain[p] (of_decide_eq_true (List.all_eq_true.1 hlt _ (List.getElem_mem h2)))
        rw [h4] at h3
        simp at h3
      · omega
    subst hpe
    exact hQ a w hinv hf fun j hj => hh j (hmarked j hj)
  · have hz : ∀ j, (Array.replicate ops.size false).getD j false = false := fun j => by
      simp only [Array.getD_eq_getD_getElem?, Array.getElem?_replicate]; split <;> rfl
    refine ⟨⟨rfl, rfl, fun _ _ => rfl⟩, fun j o _ hj => (by rw [hz] at hj; cases hj), 0, Nat.zero_le _, fun q _ => by rw [hz]; rfl, hI 0 w0 _ h0 (Below.refl _ _).drew, fun j hj => (by rw [hz] at hj; cases hj)⟩

/-- The frame behind a region, out of the frame before it. -/
def putAll (a : Act) : List Oper → Act → Act
  | o :: os, b => putAll a os (match o.dst with | some d => b.put (some d) (a.eval (.tmp d)) | none => b)
  | [], b => b
theorem putAll_size (a : Act) : ∀ (l : List Oper) (b : Act), (putAll a l b).tmps.size = b.tmps.size
  | [], _ => rfl
  | o :: os, b => by
    unfold putAll
    rw [putAll_size a os]
    cases o.dst <;> simp [Act.put]
theorem putAll_defers (a : Act) : ∀ (l : List Oper) (b : Act), (putAll a l b).defers = b.defers
  | [], _ => rfl
  | o :: os, b => by
    unfold putAll
    rw [putAll_defers a os]
    cases o.dst <;> simp [Act.put]
theorem putAll_eval (a : Act) (k : Nat) : ∀ (l : List Oper) (b : Act), b.tmps.size = a.tmps.size → (b.eval (.tmp k) = a.eval (.tmp k) ∨ (l.any fun o => o.dst == some k) = true) → (putAll a l b).eval (.tmp k) = a.eval (.tmp k)
  | [], b, _, h => by
    rcases h with h | h
    · exact h
    · cases h
  | o :: os, b, hs, h => by
    unfold putAll
    refine putAll_eval a k os _ (by cases o.dst <;> simpa [Act.put] using hs) ?_
    cases hd : o.dst with
    | none =>
      rcases h with h | h
      · exact .inl h
      · simp [hd] at h; exact .inr (by simpa using h)
    | some d =>
      by_cases hdk : d = k
      · subst hdk
        by_cases hlt : d < b.tmps.size
        · exact .inl (eval_put_same hlt)
        · left
          have h1 : ¬ d < a.tmps.size := by rw [← hs]; exact hlt
          simp [Act.put, Act.eval, hlt, h1]
      · have e : (b.put (some d) (a.eval (.tmp d))).eval (.tmp k) = b.eval (.tmp k) := eval_put_other fun e => hdk (Option.some.inj e)
        rcases h with h | h
        · exact .inl (e.trans h)
        · simp [hd, hdk] at h; exact .inr (by simpa using h)
theorem fr_putAll {a : Act} (h : Fr ops a0 a) : a = putAll a ops.toList a0 := by
  have h1 := putAll_size a ops.toList a0
  have h2 := putAll_defers a ops.toList a0
  have h3 : ∀ k, (putAll a ops.toList a0).eval (.tmp k) = a.eval (.tmp k) := fun k => putAll_eval a k _ _ h.size.symm (by
    cases hk : isDst ops k with
    | true => exact .inr hk
    | false => exact .inl (h.base k hk).symm)
  generalize putAll a ops.toList a0 = p at *
  rw [act_eq (a := a) (a0 := a0) h.size h.defers, act_eq (a := p) (a0 := a0) h1 h2]
  congr 2
  exact List.map_congr_left fun k _ => (h3 k).symm
end
end Go.Proofs.YtbplpfcgmmflnaaDoor
namespace Go.Proofs.YtbplpfcgmmflnaaDoor
open Go.RowKit

theorem colonI_at (s : ByteArray) (k : Nat) (hk : k < s.size) (h : s[k] = (58 : UInt8)) (hp : ∀ j, j < k → s.data.toList[j]? ≠ some 58) : colonI s = k := by
  have hge := colonI_ge s
  have hkk : s.data.toList[k]? = some 58 := by
    rw [List.getElem?_eq_getElem (by simpa using hk)]
    exact congrArg some h
  by_cases h1 : colonI s = -1
  · exact absurd hkk (Lib.indexByte_none h1 k)
  · obtain ⟨o, ho⟩ : ∃ o : Nat, colonI s = o := ⟨(colonI s).toNat, by omega⟩
    have h2 := Lib.indexByte_some ho
    rw [ho]
    congr 1
    rcases Nat.lt_trichotomy o k with h3 | h3 | h3
    · exact absurd h2.1 (hp o h3)
    · exact h3
    · exact absurd hkk (h2.2 k h3)
theorem colonI_none (s : ByteArray) (k : Nat) (hk : k ≤ s.size) (hlt : ¬ k < s.size) (hp : ∀ j, j < k → s.data.toList[j]? ≠ some 58) : colonI s = -1 := by
  have hge := colonI_ge s
  by_cases h1 : colonI s = -1
  · exact h1
  · obtain ⟨o, ho⟩ : ∃ o : Nat, colonI s = o := ⟨(colonI s).toNat, by omega⟩
    have h2 := Lib.indexByte_some ho
    have h3 := colonI_lt s ho
    exact absurd h2.1 (hp o (by omega))

section
variable {Q : Exit → Act → World → Prop} {a : Act} {w : World} {o : Oper} {s : Spec}
theorem loc_sub_to {x y : Operand} (ho : o.op = .slice 9 x none (some y) none) {b : ByteArray} {k : Nat} (hx : a.eval x = .string b) (hy : a.eval y = .int .i64 k) (hk : k ≤ b.size) (hs : s.p (.string (b.extract 0 k)) w) :
    o.wp Tryd.prog a w (fun a' w' => ∃ v, a' = a.put o.dst v ∧ Below w.heap.size w w' ∧ s.p v w') Q := by
  have hrun : (Instr.slice 9 (.string b) none (some (.int .i64 (k : Int))) none).run Tryd.prog w = .ok (.string (b.extract 0 k)) w := by
    rw [run_slice_string_to_if w 9 b .i64 (k : Int) Tryd.underlying9, if_pos (by omega)]
    rfl
  refine loc_run (v := .string (b.extract 0 k)) ?_ (Below.refl _ _) hs
  unfold execOp
  simp only [ho, hx, hy, Option.map_some, Option.map_none, Sem.run_bind, run_sliceAt_string w _ _ _ _ _ Tryd.underlying9, hrun, Result.andThen_ok, Sem.run_pure]
theorem loc_sub_from {x y : Operand} (ho : o.op = .slice 9 x (some y) none none) {b : ByteArray} {k : Nat} (hx : a.eval x = .string b) (hy : a.eval y = .int .i64 k) (hk : k ≤ b.size) (hs : s.p (.string (b.extract k b.size)) w) :
    o.wp Tryd.prog a w (fun a' w' => ∃ v, a' = a.put o.dst v ∧ Below w.heap.size w w' ∧ s.p v w') Q := by
  have hrun : (Instr.slice 9 (.string b) (some (.int .i64 (k : Int))) none none).run Tryd.prog w = .ok (.string (b.extract k b.size)) w := by
    rw [run_slice_string_from_if w 9 b .i64 (k : Int) Tryd.underlying9, if_pos (by omega)]
    rfl
  refine loc_run (v := .string (b.extract k b.size)) ?_ (Below.refl _ _) hs
  unfold execOp
  simp only [ho, hx, hy, Option.map_some, Option.map_none, Sem.run_bind, run_sliceAt_string w _ _ _ _ _ Tryd.underlying9, hrun, Result.andThen_ok, Sem.run_pure]
theorem loc_addF {x y : Operand} {t : TypeId} (ho : o.op = .binOp .add 3 x y t) {m k : Nat} (hx : a.eval x = .int .i64 m) (hy : a.eval y = .int .i64 k) (hn : m + k ≤ 9223372036854775807) (hs : s.p (.int .i64 ((m + k : Nat) : Int)) w) :
    o.wp Tryd.prog a w (fun a' w' => ∃ v, a' = a.put o.dst v ∧ Below w.heap.size w w' ∧ s.p v w') Q :=
  loc_run (v := .int .i64 ((m + k : Nat) : Int)) (by
    have e : IntKind.i64.wrap ((m : Int) + k) = ((m + k : Nat) : Int) := by
      simp only [IntKind.wrap, IntKind.bits, IntKind.signed]; simp; omega
    have h : (Op.intArith .add .i64 (m : Int) (k : Int)).run Tryd.prog w = .ok (.int .i64 ((m + k : Nat) : Int)) w := by
      unfold Op.intArith
      rw [← e]; rfl
    unfold execOp
    simp only [ho, hx, hy]
    simp [eqGuard, binOp, h, Result.andThen]) (Below.refl _ _) hs
theorem loc_buildF {x y : Operand} (ho : o.op = .build 67 #[(0, x), (1, y)]) {b c : ByteArray} (hx : a.eval x = .string b) (hy : a.eval y = .string c) (hs : s.p (.agg #[.string b, .string c]) w) :
    o.wp Tryd.prog a w (fun a' w' => ∃ v, a' = a.put o.dst v ∧ Below w.heap.size w w' ∧ s.p v w') Q := by
  refine loc_run (v := .agg #[.string b, .string c]) ?_ (Below.refl _ _) hs
  have hb := run_build (P := Tryd.prog) w 67 #[(0, .string b), (1, .string c)] #[.string b, .string c] (by kernel_rfl)
  unfold execOp
  simp only [ho, List.map_toArray, List.map_cons, List.map_nil, hx, hy, Sem.run_bind, hb, Result.andThen_ok, Sem.run_pure]
def FRow (B : Nat) (w : World) (v : Value) : Prop := ∃ g, v = .pointer (some ⟨g, 0, none⟩) ∧ B ≤ g ∧ FVar w g ⟨#[]⟩ ⟨#[]⟩
def Spec.frow (B : Nat) : Spec := ⟨fun v w => FRow B w v, fun v w w' h hb => by
  obtain ⟨g, h1, h2, h3⟩ := h
  exact ⟨g, h1, h2, h3.keep hb⟩⟩
theorem loc_allocF (ho : o.op = .alloc 67) {B : Nat} (hB : B ≤ w.heap.size) (hs : ∀ v w', FRow B w' v → s.p v w') :
    o.wp Tryd.prog a w (fun a' w' => ∃ v, a' = a.put o.dst v ∧ Below w.heap.size w w' ∧ s.p v w') Q := by
  have hz : (Tryd.prog.info? 67).bind (·.zero) = some (.agg #[.string ⟨#[]⟩, .string ⟨#[]⟩]) := by kernel_rfl
  refine loc_run (v := .pointer (some ⟨w.heap.size, 0, none⟩)) (w' := w.alloc (.cells #[.string ⟨#[]⟩, .string ⟨#[]⟩] 67)) ?_ (below_oneF _ _) (hs _ _ ⟨_, rfl, hB, heap_alloc_new _ _⟩)
  cases hq : Tryd.prog.info? 67 with
  | none => rw [hq] at hz; cases hz
  | some i =>
    rw [hq] at hz
    simp only [Option.bind_some] at hz
    unfold execOp
    simp [ho, Instr.alloc, zeroValue, typeInfo, hq, hz, newRow, newVar, Value.cells]
end

set_option maxRecDepth 100000 in
set_option maxHeartbeats 2000000 in
theorem refParse_any (s : ByteArray) (w : World) (hs : s.size ≤ maxLen) :
    Calls Tryd.prog 35 #[.string s] w fun e w' => e = .returned (parseV (parseF s)) ∧ Below w.heap.size w w' := by
  have hs0 := Box.mk hs
  unfold maxLen at hs
  go_enter Tryd.func35, Tryd.ntmps35
  go_wp2_with fail
  obtain ⟨W, hW⟩ : ∃ W, W = w.alloc (.cells #[.string ⟨#[]⟩, .string ⟨#[]⟩] 67) := ⟨_, rfl⟩
  have HB := Box.mk (below_oneF w (.cells #[.string ⟨#[]⟩, .string ⟨#[]⟩] 67))
  have HR := Box.mk (FVar.new w ⟨#[]⟩ ⟨#[]⟩)
  rw [← hW] at HB HR ⊢
  clear hW
  generalize hg : w.heap.size = g at *
  have HG := Box.mk hg
  clear hg
  go_loop [4] (fun iv => ∃ k : Nat, k ≤ s.size ∧ iv = .int .i64 k ∧ Box (∀ j, j < k → s.data.toList[j]? ≠ some 58)) (fun iv => s.size - (intOf iv).toNat)
  case atStart => exact ⟨0, Nat.zero_le _, rfl, ⟨fun j hj => absurd hj (Nat.not_lt_zero _)⟩⟩
  case round =>
    obtain ⟨k, hk, rfl, HM⟩ := hrel
    by_cases hlt : k < s.size
    · by_cases hc : s[k] = 58
      · have HC := Box.mk (colonI_at s k hlt hc HM.out)
        have HP0 := Box.mk (parseF_at HC.out)
        have HZ := Box.mk (And.intro (Nat.le_trans (extract_le s 0 k) hs0.out) (Nat.le_trans (extract_le s (k + 1) s.size) hs0.out))
        have hb : ((s[k].toNat : Int) == 58) = true := by rw [hc]; rfl
        clear hc
        go_wp2_with fail

        rename_i K hK _
        refine wp_region_last (S := [some (.val (.string s)), some (.val (.int .i64 k)), some (.val (.string (s.extract 0 k))), some (.val (.string s)), some (.val (.int .i64 k)), some (.val (.int .i64 ((k + 1 : Nat) : Int))), some (.val (.string (s.extract (k + 1) s.size))),
          some (.val (.string (trimBA (s.extract (k + 1) s.size)))), some (.val (.agg #[.string (s.extract 0 k), .string (trimBA (s.extract (k + 1) s.size))])), some (.of (.frow W.heap.size)), none]) 10 (by kernel_rfl) (by kernel_rfl) (by kernel_rfl) (by kernel_rfl) rfl rfl rfl ?_ ?_
        · refine ⟨?_, ?_, ?_, ?_, ?_, ?_, ?_, ?_, ?_, ?_, trivial⟩ <;> intro a w1 hb1 hf hd
          · exact ⟨wanted_none rfl, loc_move rfl (hf.base 0 rfl)⟩
          · exact ⟨wanted_none rfl, loc_move rfl (hf.base 4 rfl)⟩
          · exact ⟨wanted_none rfl, loc_sub_to rfl (hd 0 rfl) (hd 1 rfl) hk rfl⟩
          · exact ⟨wanted_none rfl, loc_move rfl (hf.base 0 rfl)⟩
          · exact ⟨wanted_none rfl, loc_move rfl (hf.base 4 rfl)⟩
          · exact ⟨wanted_none rfl, loc_addF rfl (m := k) (k := 1) (hd 4 rfl) rfl (by omega) rfl⟩
          · exact ⟨wanted_none rfl, loc_sub_from rfl (hd 3 rfl) (hd 5 rfl) hlt rfl⟩
          · refine ⟨wanted_none rfl, loc_call rfl (by kernel_rfl) ?_⟩
            show Calls _ _ #[a.eval (.tmp 22)] w1 _
            rw [show a.eval (.tmp 22) = .string (s.extract (k + 1) s.size) from hd 6 rfl]
            refine (refTrim_any _ w1 HZ.out.2).mono ?_
            rintro e w' ⟨rfl, rfl⟩
            exact ⟨_, rfl, Below.refl _ _, rfl⟩
          · exact ⟨wanted_none rfl, loc_buildF rfl (hd 2 rfl) (hd 7 rfl) rfl⟩
          · exact ⟨wanted_none rfl, loc_allocF rfl hb1.size fun v w' h => h⟩
        · intro a2 w2 hb2 hf hh
          refine ⟨wanted_none rfl, ?_⟩
          obtain ⟨q, e5, hqB, hq⟩ := hh 9 (by decide) (by decide)
          have e24 : a2.eval (.tmp 24) = .agg #[.string (s.extract 0 k), .string (trimBA (s.extract (k + 1) s.size))] := hh 8 (by decide) (by decide)
          refine wp_store_row 67 _ _ rfl q #[.string (s.extract 0 k), .string (trimBA (s.extract (k + 1) s.size))] e5 e24 67 _ hq sizeF rfl (oneF _ _) ?_
          have e5' : a2.eval (.tmp 5) = .pointer (some ⟨q, 0, none⟩) := e5
          have HQ3 := Box.mk (show FVar (w2.setRow q #[.string (s.extract 0 k), .string (trimBA (s.extract (k + 1) s.size))]) q (s.extract 0 k) (trimBA (s.extract (k + 1) s.size)) from setRow_heap _ _ _ _ _ _ hq)
          have HB3 := Box.mk (below_setRow (g := q) (below_trans (show Below w.heap.size w W by rw [HG.out]; exact HB.out) hb2) (by have := (show Below w.heap.size w W by rw [HG.out]; exact HB.out).size; omega) #[.string (s.extract 0 k), .string (trimBA (s.extract (k + 1) s.size))])
          have HR3 := Box.mk (show FVar (w2.setRow q #[.string (s.extract 0 k), .string (trimBA (s.extract (k + 1) s.size))]) g ⟨#[]⟩ ⟨#[]⟩ from (setRow_other w2 q g _ (by have := HR.out.lt; omega)).trans (HR.out.keep hb2))
          refine hK a2 _ ?_
          rw [fr_putAll hf]
          simp only [putAll, e5', e24]
          clear hf hh e5 e24 e5' hq hb2 HR
          generalize a2.eval (.tmp 16) = u16
          generalize a2.eval (.tmp 17) = u17
          generalize a2.eval (.tmp 18) = u18
          generalize a2.eval (.tmp 19) = u19
          generalize a2.eval (.tmp 20) = u20
          generalize a2.eval (.tmp 21) = u21
          generalize a2.eval (.tmp 22) = u22
          generalize a2.eval (.tmp 23) = u23
          clear a2
          simp only [Act.put, List.setIfInBounds_toArray, List.set_cons_succ, List.set_cons_zero]
          generalize (w2.setRow q #[.string (s.extract 0 k), .string (trimBA (s.extract (k + 1) s.size))]) = w3 at *
          have hvz := Box.mk (Nat.le_trans (trimBA_size (s.extract (k + 1) s.size)) HZ.out.2)
          generalize s.extract 0 k = n at *
          generalize trimBA (s.extract (k + 1) s.size) = v at *
          have hd0 := HQ3.out.c0
          have hd1 := HQ3.out.c1
          by_cases hv : fldB n v = true
          · have HP := Box.mk (show parseF s = some (n, v) by rw [HP0.out, if_pos hv])
            have HV := Box.mk hv
            clear hv HP0
            go_wp2_with fail
            refine (refFieldValid_any n v _ HZ.out.1 hvz.out).mono ?_
            rintro e w4 ⟨he, hb4⟩
            rw [HV.out] at he
            subst he
            have HB4 := Box.mk (below_trans HB3.out hb4)
            have HR4 := Box.mk (HR3.out.keep hb4)
            have hd0 := below_cell hb4 HQ3.out.c0
            have hd1 := below_cell hb4 HQ3.out.c1
            clear hb4
            go_wp2_with (refine wpList_store_row rfl 67 _ _ rfl g #[.string n, .string v] rfl rfl 67 _ HR4.out sizeF rfl (oneF _ _) ?_)
            (try simp only [Exit.inBlock, Exit.then])
            refine bodyPost_ret (results_row_tmpF rfl _ _ g _ _ _ _ rfl (setRow_heap _ _ _ _ _ _ HR4.out) Tryd.underlying67 rfl sizeF) rfl ?_
            exact ⟨by rw [HP.out]; rfl, below_setRow HB4.out (by have := HG.out; omega) _⟩
          · have HP := Box.mk (show parseF s = none by rw [HP0.out, if_neg hv])
            have HV := Box.mk (show fldB n v = false by simpa using hv)
            clear hv HP0
            go_wp2_with fail
            refine (refFieldValid_any n v _ HZ.out.1 hvz.out).mono ?_
            rintro e w4 ⟨he, hb4⟩
            rw [HV.out] at he
            subst he
            have HB4 := Box.mk (below_trans HB3.out hb4)
            have HR4 := Box.mk (HR3.out.keep hb4)
            clear hb4
            go_wp2_with (refine wpList_store_row rfl 67 _ _ rfl g #[.string ⟨#[]⟩, .string ⟨#[]⟩] rfl rfl 67 _ HR4.out sizeF rfl (oneF _ _) ?_)
            (try simp only [Exit.inBlock, Exit.then])
            refine bodyPost_ret (results_row_tmpF rfl _ _ g _ _ _ _ rfl (setRow_heap _ _ _ _ _ _ HR4.out) Tryd.underlying67 rfl sizeF) rfl ?_
            exact ⟨by rw [HP.out]; rfl, below_setRow HB4.out (by have := HG.out; omega) _⟩
      · have hb : ((s[k].toNat : Int) == 58) = false := by
          rw [Bool.eq_false_iff]; intro h; exact hc (UInt8.toNat_inj.1 (by simp at h; show s[k].toNat = 58; omega))
        have HM2 := Box.mk (show ∀ j, j < k + 1 → s.data.toList[j]? ≠ some 58 from fun j hj => by
          by_cases e : j = k
          · subst e
            rw [List.getElem?_eq_getElem (by simpa using hlt)]
            intro h
            exact hc (Option.some.inj h)
          · exact HM.out j (by omega))
        clear hc
        go_wp2_with fail
        go_round
        case rel => exact ⟨k + 1, by omega, by go_num, HM2⟩
        case measure => simp [intOf]; omega
    · have HP := Box.mk (parseF_no (colonI_none s k hk hlt HM.out))
      go_wp2_with (refine wpList_store_row rfl 67 _ _ rfl g #[.string ⟨#[]⟩, .string ⟨#[]⟩] rfl rfl 67 _ HR.out sizeF rfl (oneF _ _) ?_)
      (try simp only [Exit.inBlock, Exit.then])
      refine bodyPost_ret (results_row_tmpF rfl _ _ g _ _ _ _ rfl (setRow_heap _ _ _ _ _ _ HR.out) Tryd.underlying67 rfl sizeF) rfl ?_
      exact ⟨by rw [HP.out]; rfl, below_setRow (show Below w.heap.size w W by rw [HG.out]; exact HB.out) (by have := HG.out; omega) _⟩
end Go.Proofs.YtbplpfcgmmflnaaDoor
namespace Go.Proofs.YtbplpfcgmmflnaaDoor
open Go.RowKit

/-- The value of a digit; 16 for any other byte. -/
def dv (c : Int) : Int := if 48 ≤ c ∧ c ≤ 57 then c - 48 else if 97 ≤ c ∧ c ≤ 102 then c - 87 else if 65 ≤ c ∧ c ≤ 70 then c - 55 else 16
theorem dv_bd (c : Int) : 0 ≤ dv c ∧ dv c ≤ 16 := by unfold dv; (repeat' split) <;> omega
def numB (b : Int) (c : UInt8) : Bool := decide (dv c.toNat < b)
def numS (b : Int) (s : ByteArray) : Bool := s.data.toList.all (numB b) && !s.data.toList.isEmpty
/-- What is read of the digits, from acc on, with the limit most. -/
def pgo (b most : Int) : Int → List UInt8 → Int × Int
  | acc, [] => (acc, 0)
  | acc, c :: r => if dv c.toNat > most ∨ acc > (most - dv c.toNat) / b then (0, 3) else pgo b most (acc * b + dv c.toNat) r
def parseS (b most : Int) (s : ByteArray) : Int × Int := if numS b s then pgo b most 0 s.data.toList else (0, 2)
theorem pgo_no {b most acc : Int} {c : UInt8} {r : List UInt8} (h : dv c.toNat > most ∨ acc > (most - dv c.toNat) / b) : pgo b most acc (c :: r) = (0, 3) := by rw [pgo, if_pos h]
theorem pgo_go {b most acc : Int} {c : UInt8} {r : List UInt8} (h1 : dv c.toNat ≤ most) (h2 : acc ≤ (most - dv c.toNat) / b) : pgo b most acc (c :: r) = pgo b most (acc * b + dv c.toNat) r := by rw [pgo, if_neg (by omega)]
theorem drop_cons (s : ByteArray) (k : Nat) (h : k < s.size) : s.data.toList.drop k = s[k] :: s.data.toList.drop (k + 1) := by
  rw [List.drop_eq_getElem_cons (by simpa using h)]; rfl

/-- The value of digits. -/
def vgo (b : Int) : Int → List UInt8 → Int
  | acc, [] => acc
  | acc, c :: r => vgo b (acc * b + dv c.toNat) r
theorem vgo_append (b : Int) : ∀ (l r : List UInt8) (acc : Int), vgo b acc (l ++ r) = vgo b (vgo b acc l) r
  | [], r, acc => rfl
  | c :: l, r, acc => by simp only [List.cons_append, vgo]; exact vgo_append b l r _
theorem mul_ge (b acc : Int) (hb : 1 ≤ b) (ha : 0 ≤ acc) : acc ≤ acc * b := by
  have := Int.mul_le_mul_of_nonneg_left hb ha; omega
theorem vgo_ge (b : Int) (hb : 1 ≤ b) : ∀ (l : List UInt8) (acc : Int), 0 ≤ acc → acc ≤ vgo b acc l
  | [], acc, _ => Int.le_refl _
  | c :: l, acc, ha => by
    have h1 := mul_ge b acc hb ha
    have h2 := dv_bd c.toNat
    have h3 := vgo_ge b hb l (acc * b + dv c.toNat) (by omega)
    rw [vgo]; omega
theorem pgo_eq (b most : Int) (hb : 1 ≤ b) : ∀ (l : List UInt8) (acc : Int), 0 ≤ acc → (acc ≤ most ∨ l ≠ []) → pgo b most acc l = if vgo b acc l ≤ most then (vgo b acc l, 0) else (0, 3)
  | [], acc, ha, h => by
    rcases h with h | h
    · rw [pgo, vgo, if_pos h]
    · exact absurd rfl h
  | c :: l, acc, ha, _ => by
    have h1 := mul_ge b acc hb ha
    have h2 := dv_bd c.toNat
    have hge := vgo_ge b hb l (acc * b + dv c.toNat) (by omega)
    have hiff : acc ≤ (most - dv c.toNat) / b ↔ acc * b ≤ most - dv c.toNat := Int.le_ediv_iff_mul_le (by omega)
    rw [pgo, vgo]
    by_cases h : dv c.toNat > most ∨ acc > (most - dv c.toNat) / b
    · rw [if_pos h, if_neg]
      rcases h with h | h
      · omega
      · have : ¬ acc * b ≤ most - dv c.toNat := fun hh => by have := hiff.2 hh; omega
        omega
    · have hm : acc * b ≤ most - dv c.toNat := hiff.1 (by omega)
      rw [if_neg h]
      exact pgo_eq b most hb l _ (by omega) (.inl (by omega))

/-- The byte of a digit. -/
def dgc (d : Nat) : UInt8 := if d < 10 then UInt8.ofNat (48 + d) else UInt8.ofNat (87 + d)
theorem dgc_toNat {d : Nat} (h : d < 16) : (dgc d).toNat = if d < 10 then 48 + d else 87 + d := by
  unfold dgc; split
  · rw [UInt8.toNat_ofNat']; omega
  · rw [UInt8.toNat_ofNat']; omega
theorem dv_dgc {d : Nat} (h : d < 16) : dv (dgc d).toNat = d := by
  rw [dgc_toNat h]; unfold dv; by_cases h10 : d < 10
  · rw [if_pos h10, if_pos (by omega)]; omega
  · rw [if_neg h10, if_neg (by omega), if_pos (by omega)]; omega
/-- The digits of n to base b (the step: f is fuel that is never used up). -/
def digsF (b : Nat) : Nat → Nat → List UInt8
  | 0, n => [dgc (n % b)]
  | f + 1, n => if n < b then [dgc n] else digsF b f (n / b) ++ [dgc (n % b)]
def digs (b n : Nat) : List UInt8 := digsF b n n
theorem digsF_fuel (b : Nat) (hb : 2 ≤ b) : ∀ (f n : Nat), n ≤ f → digsF b f n = digsF b n n
  | 0, n, h => by obtain rfl : n = 0 := by omega
                  rfl
  | f + 1, n, h => by
    match n with
    | 0 => simp [digsF, show 0 < b by omega]
    | n + 1 =>
      have hd : (n + 1) / b ≤ n := by
        have : (n + 1) / b < n + 1 := Nat.div_lt_self (by omega) (by omega)
        omega
      simp only [digsF]
      rw [digsF_fuel b hb f _ (by omega), digsF_fuel b hb n _ hd]
theorem digs_small {b n : Nat} (h : n < b) : digs b n = [dgc n] := by
  unfold digs
  match n with
  | 0 => rw [digsF, Nat.zero_mod]
  | n + 1 => rw [digsF, if_pos h]
theorem digs_big {b n : Nat} (hb : 2 ≤ b) (h : ¬ n < b) : digs b n = digs b (n / b) ++ [dgc (n % b)] := by
  unfold digs
  match n with
  | 0 => omega
  | n + 1 =>
    have hd : (n + 1) / b ≤ n := by
      have : (n + 1) / b < n + 1 := Nat.div_lt_self (by omega) (by omega)
      omega
    rw [digsF, if_neg h, digsF_fuel b hb n _ hd]
theorem digs_ne (b n : Nat) : digs b n ≠ [] := by
  unfold digs
  match n with
  | 0 => simp [digsF]
  | n + 1 => rw [digsF]; split <;> simp
theorem digs_dec (n : Nat) : digs 10 n = Lib.decDigits n := by
  induction n using Nat.strongRecOn with
  | _ n ih =>
    by_cases h : n < 10
    · rw [digs_small h, Lib.decDigits, dif_pos h]; unfold dgc; rw [if_pos h]
    · rw [digs_big (by omega) h, Lib.decDigits, dif_neg h, ih _ (by omega)]
      congr 1; unfold dgc; rw [if_pos (by omega)]
theorem digs_num {b : Nat} (hb : 2 ≤ b) (hb16 : b ≤ 16) (n : Nat) : (digs b n).all (numB b) = true := by
  induction n using Nat.strongRecOn with
  | _ n ih =>
    have hd : ∀ d, d < b → numB b (dgc d) = true := fun d h => by
      unfold numB; rw [dv_dgc (by omega)]; simpa using h
    by_cases h : n < b
    · rw [digs_small h]; simpa using hd n h
    · rw [digs_big hb h, List.all_append, ih _ (Nat.div_lt_self (by omega) (by omega))]
      simpa using hd (n % b) (Nat.mod_lt _ (by omega))
theorem digs_val {b : Nat} (hb : 2 ≤ b) (hb16 : b ≤ 16) (n : Nat) : vgo b 0 (digs b n) = n := by
  induction n using Nat.strongRecOn with
  | _ n ih =>
    by_cases h : n < b
    · rw [digs_small h, vgo, vgo, dv_dgc (by omega)]; omega
    · rw [digs_big hb h, vgo_append, ih _ (Nat.div_lt_self (by omega) (by omega)), vgo, vgo, dv_dgc (by have := Nat.mod_lt n (show 0 < b by omega); omega)]
      have := Nat.div_add_mod n b
      rw [Nat.mul_comm] at this
      exact_mod_cast this
def numeral (b n : Nat) : ByteArray := ⟨(digs b n).toArray⟩
theorem parse_numeral {b : Nat} (hb : 2 ≤ b) (hb16 : b ≤ 16) (n : Nat) (most : Int) : parseS b most (numeral b n) = if (n : Int) ≤ most then ((n : Int), 0) else (0, 3) := by
  have hn : numS b (numeral b n) = true := by
    unfold numS numeral
    rw [digs_num hb hb16 n]
    simpa using digs_ne b n
  unfold parseS
  rw [if_pos hn]
  show pgo b most 0 (digs b n) = _
  rw [pgo_eq b most (by omega) _ 0 (Int.le_refl _) (.inr (digs_ne b n)), digs_val hb hb16]
end Go.Proofs.YtbplpfcgmmflnaaDoor
namespace Go.Proofs.YtbplpfcgmmflnaaDoor
open Go.RowKit

theorem ret_pair {k : IntKind} {a b : Int} {p : Int × Int} (h : p = (a, b)) : Ending.returned (.tuple #[.int .i64 a, .int k b]) = .returned (.tuple #[.int .i64 p.1, .int k p.2]) := by rw [h]

set_option maxHeartbeats 400000 in
theorem numDigit_any (c : Int) (w : World) (h0 : 0 ≤ c) (h1 : c ≤ 255) :
    Calls Tryd.prog 68 #[.int .u8 c] w fun e w' => e = .returned (.int .i64 (dv c)) ∧ w = w' := by
  go_enter Tryd.func68, Tryd.ntmps68
  go_wp2
  all_goals go_ret
  all_goals exact ⟨ret_int (by unfold dv; (repeat' split) <;> omega), rfl⟩

def dr (b c : Int) : Int := if dv c < b then dv c else -1
set_option maxHeartbeats 400000 in
theorem refDigit_any (c b : Int) (w : World) (h0 : 0 ≤ c) (h1 : c ≤ 255) (hb1 : 2 ≤ b) (hb2 : b ≤ 16) :
    Calls Tryd.prog 49 #[.int .u8 c, .int .i64 b] w fun e w' => e = .returned (.int .i64 (dr b c)) ∧ w = w' := by
  go_enter Tryd.func49, Tryd.ntmps49
  go_wp2_with (go_at_call 59; go_in)
  all_goals go_ret
  all_goals exact ⟨ret_int (by unfold dr dv; (repeat' split) <;> omega), rfl⟩

theorem numS_no {b : Int} {s : ByteArray} {k : Nat} (hlt : k < s.size) (hc : numB b s[k] = false) : numS b s = false := by
  unfold numS
  have : s.data.toList.all (numB b) = false := by
    rw [Bool.eq_false_iff]; intro h
    have := List.all_eq_true.1 h _ (mem_at s k hlt); rw [hc] at this; cases this
  rw [this]; rfl
theorem numS_yes {b : Int} {s : ByteArray} {k : Nat} (hk : k ≤ s.size) (hlt : ¬ k < s.size) (h : (s.data.toList.take k).all (numB b) = true) : numS b s = !s.data.toList.isEmpty := by
  rw [take_all s k hk hlt] at h; unfold numS; rw [h]; rfl

set_option maxHeartbeats 400000 in
theorem isNumeral_any (s : ByteArray) (b : Int) (w : World) (hs : s.size ≤ maxLen) :
    Calls Tryd.prog 67 #[.string s, .int .i64 b] w fun e w' => e = .returned (.bool (numS b s)) ∧ w = w' := by
  unfold maxLen at hs
  go_enter Tryd.func67, Tryd.ntmps67
  go_wp2
  go_loop [8] (fun i => ∃ k : Nat, k ≤ s.size ∧ i = .int .i64 k ∧ Hid ((s.data.toList.take k).all (numB b) = true)) (fun i => s.size - (intOf i).toNat)
  case atStart => exact ⟨0, Nat.zero_le _, rfl, Lib.hid (by simp)⟩
  case round =>
    obtain ⟨k, hk, rfl, HP⟩ := hrel
    by_cases hlt : k < s.size
    · have b1 : (s[k].toNat : Int) ≤ 255 := by have := s[k].toNat_lt; omega
      by_cases hc : b ≤ dv s[k].toNat
      · go_wp2_with (go_at_call 68; refine (numDigit_any _ _ (by omega) (by omega)).mono ?_; rintro e w' ⟨rfl, rfl⟩)
        go_ret
        exact ⟨ret_bool (numS_no hlt (by unfold numB; simpa using hc)).symm, rfl⟩
      · go_wp2_with (go_at_call 68; refine (numDigit_any _ _ (by omega) (by omega)).mono ?_; rintro e w' ⟨rfl, rfl⟩)
        go_round
        case rel => exact ⟨k + 1, by omega, by go_num, Lib.hid (by rw [take_snoc s k hlt, List.all_append, HP.out]; unfold numB; simpa using hc)⟩
        case measure => simp [intOf]; omega
    · go_wp2
      go_ret
      exact ⟨ret_bool (by rw [numS_yes hk hlt HP.out]; simp [toList_isEmpty]), rfl⟩

set_option maxHeartbeats 1000000 in
theorem numParse_yes10 (s : ByteArray) (most : Int) (w : World) (hs : s.size ≤ maxLen) (hn : numS 10 s = true) (hm0 : -9223372036854775808 ≤ most) (hm1 : most ≤ 9223372036854775807) :
    Calls Tryd.prog 56 #[.string s, .int .i64 10, .int .i64 most] w fun e w' => e = .returned (.tuple #[.int .i64 (parseS 10 most s).1, .int .i64 (parseS 10 most s).2]) ∧ w = w' := by
  unfold maxLen at hs
  have hp : parseS 10 most s = pgo 10 most 0 s.data.toList := by unfold parseS; rw [if_pos hn]
  have HP := Lib.hid hp
  clear hp
  go_enter Tryd.func56, Tryd.ntmps56
  go_wp2_with (go_at_call 67; refine (isNumeral_any _ _ _ (by unfold maxLen; omega)).mono ?_; rintro e w' ⟨rfl, rfl⟩)
  go_loop [8, 17] (fun n i => ∃ (k : Nat) (acc : Int), k ≤ s.size ∧ i = .int .i64 k ∧ n = .int .i64 acc ∧ 0 ≤ acc ∧ acc ≤ 9223372036854775807 ∧ Hid (parseS 10 most s = pgo 10 most acc (s.data.toList.drop k))) (fun _ i => s.size - (intOf i).toNat)
  case atStart => exact ⟨0, 0, Nat.zero_le _, rfl, rfl, by omega, by omega, Lib.hid (by rw [HP.out]; rfl)⟩
  case round =>
    obtain ⟨k, acc, hk, rfl, rfl, ha0, ha1, HG⟩ := hrel
    by_cases hlt : k < s.size
    · have b1 : (s[k].toNat : Int) ≤ 255 := by have := s[k].toNat_lt; omega
      have b2 := dv_bd s[k].toNat
      obtain ⟨b20, b21⟩ := b2
      by_cases hd : dv s[k].toNat ≤ most
      · by_cases hq : acc ≤ (most - dv s[k].toNat) / 10
        · go_wp2_with (go_at_call 68; refine (numDigit_any _ _ (by omega) (by omega)).mono ?_; rintro e w' ⟨rfl, rfl⟩)
          go_round
          case rel => exact ⟨k + 1, _, by omega, by go_num, rfl, by omega, by omega, Lib.hid (by rw [HG.out, drop_cons s k hlt, pgo_go hd hq])⟩
          case measure => simp [intOf]; omega
        · go_wp2_with (go_at_call 68; refine (numDigit_any _ _ (by omega) (by omega)).mono ?_; rintro e w' ⟨rfl, rfl⟩)
          go_ret2
          exact ⟨ret_pair (by rw [HG.out, drop_cons s k hlt, pgo_no (.inr (by omega))]), rfl⟩
      · go_wp2_with (go_at_call 68; refine (numDigit_any _ _ (by omega) (by omega)).mono ?_; rintro e w' ⟨rfl, rfl⟩)
        go_ret2
        exact ⟨ret_pair (by rw [HG.out, drop_cons s k hlt, pgo_no (.inl (by omega))]), rfl⟩
    · go_wp2
      go_ret2
      exact ⟨ret_pair (by rw [HG.out, List.drop_of_length_le (by simp; omega)]; rfl), rfl⟩

set_option maxHeartbeats 1000000 in
theorem numParse_yes16 (s : ByteArray) (most : Int) (w : World) (hs : s.size ≤ maxLen) (hn : numS 16 s = true) (hm0 : -9223372036854775808 ≤ most) (hm1 : most ≤ 9223372036854775807) :
    Calls Tryd.prog 56 #[.string s, .int .i64 16, .int .i64 most] w fun e w' => e = .returned (.tuple #[.int .i64 (parseS 16 most s).1, .int .i64 (parseS 16 most s).2]) ∧ w = w' := by
  unfold maxLen at hs
  have hp : parseS 16 most s = pgo 16 most 0 s.data.toList := by unfold parseS; rw [if_pos hn]
  have HP := Lib.hid hp
  clear hp
  go_enter Tryd.func56, Tryd.ntmps56
  go_wp2_with (go_at_call 67; refine (isNumeral_any _ _ _ (by unfold maxLen; omega)).mono ?_; rintro e w' ⟨rfl, rfl⟩)
  go_loop [8, 17] (fun n i => ∃ (k : Nat) (acc : Int), k ≤ s.size ∧ i = .int .i64 k ∧ n = .int .i64 acc ∧ 0 ≤ acc ∧ acc ≤ 9223372036854775807 ∧ Hid (parseS 16 most s = pgo 16 most acc (s.data.toList.drop k))) (fun _ i => s.size - (intOf i).toNat)
  case atStart => exact ⟨0, 0, Nat.zero_le _, rfl, rfl, by omega, by omega, Lib.hid (by rw [HP.out]; rfl)⟩
  case round =>
    obtain ⟨k, acc, hk, rfl, rfl, ha0, ha1, HG⟩ := hrel
    by_cases hlt : k < s.size
    · have b1 : (s[k].toNat : Int) ≤ 255 := by have := s[k].toNat_lt; omega
      have b2 := dv_bd s[k].toNat
      obtain ⟨b20, b21⟩ := b2
      by_cases hd : dv s[k].toNat ≤ most
      · by_cases hq : acc ≤ (most - dv s[k].toNat) / 16
        · go_wp2_with (go_at_call 68; refine (numDigit_any _ _ (by omega) (by omega)).mono ?_; rintro e w' ⟨rfl, rfl⟩)
          go_round
          case rel => exact ⟨k + 1, _, by omega, by go_num, rfl, by omega, by omega, Lib.hid (by rw [HG.out, drop_cons s k hlt, pgo_go hd hq])⟩
          case measure => simp [intOf]; omega
        · go_wp2_with (go_at_call 68; refine (numDigit_any _ _ (by omega) (by omega)).mono ?_; rintro e w' ⟨rfl, rfl⟩)
          go_ret2
          exact ⟨ret_pair (by rw [HG.out, drop_cons s k hlt, pgo_no (.inr (by omega))]), rfl⟩
      · go_wp2_with (go_at_call 68; refine (numDigit_any _ _ (by omega) (by omega)).mono ?_; rintro e w' ⟨rfl, rfl⟩)
        go_ret2
        exact ⟨ret_pair (by rw [HG.out, drop_cons s k hlt, pgo_no (.inl (by omega))]), rfl⟩
    · go_wp2
      go_ret2
      exact ⟨ret_pair (by rw [HG.out, List.drop_of_length_le (by simp; omega)]; rfl), rfl⟩

set_option maxHeartbeats 1000000 in
theorem numParse_any (s : ByteArray) (b most : Int) (w : World) (hs : s.size ≤ maxLen) (hb : b = 10 ∨ b = 16) (hm0 : -9223372036854775808 ≤ most) (hm1 : most ≤ 9223372036854775807) :
    Calls Tryd.prog 56 #[.string s, .int .i64 b, .int .i64 most] w fun e w' => e = .returned (.tuple #[.int .i64 (parseS b most s).1, .int .i64 (parseS b most s).2]) ∧ w = w' := by
  by_cases hn : numS b s = true
  · rcases hb with rfl | rfl
    · exact numParse_yes10 s most w hs hn hm0 hm1
    · exact numParse_yes16 s most w hs hn hm0 hm1
  · unfold maxLen at hs
    have hn' : numS b s = false := by simpa using hn
    clear hn
    have hp : parseS b most s = (0, 2) := by unfold parseS; rw [hn']; rfl
    have HP := Lib.hid hp
    clear hp
    go_enter Tryd.func56, Tryd.ntmps56
    go_wp2_with (go_at_call 67; refine (isNumeral_any _ _ _ (by unfold maxLen; omega)).mono ?_; rintro e w' ⟨rfl, rfl⟩)
    go_ret2
    exact ⟨ret_pair HP.out, rfl⟩

theorem parseHex_any (s : ByteArray) (most : Int) (w : World) (hs : s.size ≤ maxLen) (hm0 : -9223372036854775808 ≤ most) (hm1 : most ≤ 9223372036854775807) :
    Calls Tryd.prog 46 #[.string s, .int .i64 most] w fun e w' => e = .returned (.tuple #[.int .i64 (parseS 16 most s).1, .int .i64 (parseS 16 most s).2]) ∧ w = w' := by
  go_enter Tryd.func46, Tryd.ntmps46
  go_wp2_with (go_at_call 56; refine (numParse_any _ _ _ _ hs (by omega) hm0 hm1).mono ?_; rintro e w' ⟨rfl, rfl⟩)
  go_ret2
  exact ⟨rfl, rfl⟩
end Go.Proofs.YtbplpfcgmmflnaaDoor
namespace Go.Proofs.YtbplpfcgmmflnaaDoor
open Go.RowKit

theorem dr_neg {b c : Int} (h : ¬ dv c < b) : dr b c = -1 := by unfold dr; rw [if_neg h]
theorem dr_pos {b c : Int} (h : dv c < b) : dr b c = dv c := by unfold dr; rw [if_pos h]
theorem numS_at {b : Int} {s : ByteArray} (h : numS b s = true) {k : Nat} (hlt : k < s.size) : dv s[k].toNat < b := by
  unfold numS at h
  have h1 : s.data.toList.all (numB b) = true := by simp only [Bool.and_eq_true] at h; exact h.1
  have := List.all_eq_true.1 h1 _ (mem_at s k hlt)
  unfold numB at this; simpa using this
theorem numS_empty {b : Int} {s : ByteArray} (h : s.toList.isEmpty = true) : numS b s = false := by
  unfold numS; rw [toList_isEmpty] at h
  have : s.data.toList.isEmpty = true := by simpa using h
  rw [this]; simp

set_option maxHeartbeats 1000000 in
theorem refParse_go16 (s : ByteArray) (most : Int) (w : World) (hs : s.size ≤ maxLen) (hm0 : -9223372036854775808 ≤ most) (hm1 : most ≤ 9223372036854775807) :
    Calls Tryd.prog 40 #[.string s, .int .i64 most, .int .i64 16] w fun e w' => e = .returned (.tuple #[.int .i64 (parseS 16 most s).1, .int .i64 (parseS 16 most s).2]) ∧ w = w' := by
  unfold maxLen at hs
  by_cases hem : s.toList.isEmpty = true
  · have HP := Lib.hid (show parseS 16 most s = (0, 2) by unfold parseS; rw [numS_empty hem]; rfl)
    go_enter Tryd.func40, Tryd.ntmps40
    have hem2 : s.toList = [] := by simpa using hem
    go_wp2
    go_ret2
    exact ⟨ret_pair HP.out, rfl⟩
  · have hem' : s.toList.isEmpty = false := by simpa using hem
    have hem2 : (!s.toList.isEmpty) = true := by rw [hem']; rfl
    have HE := Lib.hid hem'
    clear hem
    go_enter Tryd.func40, Tryd.ntmps40
    go_wp2
    clear hem' hem2
    go_loop [8] (fun i => ∃ k : Nat, k ≤ s.size ∧ i = .int .i64 k ∧ Hid ((s.data.toList.take k).all (numB 16) = true)) (fun i => s.size - (intOf i).toNat)
    case atStart => exact ⟨0, Nat.zero_le _, rfl, Lib.hid (by simp)⟩
    case round =>
      obtain ⟨k, hk, rfl, HP⟩ := hrel
      by_cases hlt : k < s.size
      · have b1 : (s[k].toNat : Int) ≤ 255 := by have := s[k].toNat_lt; omega
        have b2 := dv_bd s[k].toNat
        obtain ⟨b20, b21⟩ := b2
        by_cases hc : dv s[k].toNat < 16
        · have hr := dr_pos hc
          go_wp2_with (go_at_call 49; refine (refDigit_any _ _ _ (by omega) (by omega) (by omega) (by omega)).mono ?_; rintro e w' ⟨rfl, rfl⟩)
          go_round
          case rel => exact ⟨k + 1, by omega, by go_num, Lib.hid (by rw [take_snoc s k hlt, List.all_append, HP.out]; unfold numB; simpa using hc)⟩
          case measure => simp [intOf]; omega
        · have hr := dr_neg hc
          go_wp2_with (go_at_call 49; refine (refDigit_any _ _ _ (by omega) (by omega) (by omega) (by omega)).mono ?_; rintro e w' ⟨rfl, rfl⟩)
          go_ret2
          exact ⟨ret_pair (by unfold parseS; rw [numS_no hlt (by unfold numB; simpa using hc)]; rfl), rfl⟩
      · have hn : numS 16 s = true := by rw [numS_yes hk hlt HP.out]; have := HE.out; rw [toList_isEmpty] at this; simpa using this
        have HN := Lib.hid hn
        have HQ := Lib.hid (show parseS 16 most s = pgo 16 most 0 s.data.toList by unfold parseS; rw [if_pos hn])
        clear hn
        go_wp2
        go_loop [9, 10] (fun n i => ∃ (k : Nat) (acc : Int), k ≤ s.size ∧ i = .int .i64 k ∧ n = .int .i64 acc ∧ 0 ≤ acc ∧ acc ≤ 9223372036854775807 ∧ Hid (parseS 16 most s = pgo 16 most acc (s.data.toList.drop k))) (fun _ i => s.size - (intOf i).toNat)
        case atStart => exact ⟨0, 0, Nat.zero_le _, rfl, rfl, by omega, by omega, Lib.hid (by rw [HQ.out]; rfl)⟩
        case round =>
          obtain ⟨k, acc, hk, rfl, rfl, ha0, ha1, HG⟩ := hrel
          by_cases hlt : k < s.size
          · have b1 : (s[k].toNat : Int) ≤ 255 := by have := s[k].toNat_lt; omega
            have b2 := dv_bd s[k].toNat
            obtain ⟨b20, b21⟩ := b2
            have hr := dr_pos (numS_at HN.out hlt)
            by_cases hd : dv s[k].toNat ≤ most
            · by_cases hq : acc ≤ (most - dv s[k].toNat) / 16
              · go_wp2_with (go_at_call 49; refine (refDigit_any _ _ _ (by omega) (by omega) (by omega) (by omega)).mono ?_; rintro e w' ⟨rfl, rfl⟩)
                go_round
                case rel => exact ⟨k + 1, _, by omega, by go_num, rfl, by omega, by omega, Lib.hid (by rw [HG.out, drop_cons s k hlt, pgo_go hd hq])⟩
                case measure => simp [intOf]; omega
              · go_wp2_with (go_at_call 49; refine (refDigit_any _ _ _ (by omega) (by omega) (by omega) (by omega)).mono ?_; rintro e w' ⟨rfl, rfl⟩)
                go_ret2
                exact ⟨ret_pair (by rw [HG.out, drop_cons s k hlt, pgo_no (.inr (by omega))]), rfl⟩
            · go_wp2_with (go_at_call 49; refine (refDigit_any _ _ _ (by omega) (by omega) (by omega) (by omega)).mono ?_; rintro e w' ⟨rfl, rfl⟩)
              go_ret2
              exact ⟨ret_pair (by rw [HG.out, drop_cons s k hlt, pgo_no (.inl (by omega))]), rfl⟩
          · go_wp2
            go_ret2
            exact ⟨ret_pair (by rw [HG.out, List.drop_of_length_le (by simp; omega)]; rfl), rfl⟩

theorem refParseHex_any (s : ByteArray) (most : Int) (w : World) (hs : s.size ≤ maxLen) (hm0 : -9223372036854775808 ≤ most) (hm1 : most ≤ 9223372036854775807) :
    Calls Tryd.prog 33 #[.string s, .int .i64 most] w fun e w' => e = .returned (.tuple #[.int .i64 (parseS 16 most s).1, .int .i64 (parseS 16 most s).2]) ∧ w = w' := by
  go_enter Tryd.func33, Tryd.ntmps33
  go_wp2_with (go_at_call 40; refine (refParse_go16 _ _ _ hs hm0 hm1).mono ?_; rintro e w' ⟨rfl, rfl⟩)
  go_ret2
  exact ⟨rfl, rfl⟩
end Go.Proofs.YtbplpfcgmmflnaaDoor
namespace Go.Proofs.YtbplpfcgmmflnaaDoor
open Go.RowKit

/-- v is a slice with the bytes l in a block of its own, at B or beyond. -/
def Own (B : Nat) (w : World) (v : Value) (l : List UInt8) : Prop := w.ownsRow B 5 1 v l.length (bytesV l)
theorem Own.start (B : Nat) (w : World) : Own B w (.slice none 0 0) [] := World.ownsRow_nil _ _ _ _
theorem Own.same {B : Nat} {w w' : World} {v : Value} {l : List UInt8} (h : Own B w v l) (hs : ∀ k, v.ownBlock = some k → w'.heap[k]? = w.heap[k]?) : Own B w' v l := by
  obtain ⟨h1, h2⟩ := h
  refine ⟨h1, ?_⟩
  rcases h2 with h2 | ⟨g, cap, cur, hv, hg, hc, r⟩
  · exact .inl h2
  · exact .inr ⟨g, cap, cur, hv, hg, by rw [hs g (by rw [hv]; rfl)]; exact hc, r⟩
theorem Own.lt {B : Nat} {w : World} {v : Value} {l : List UInt8} (h : Own B w v l) {k : Nat} (hk : v.ownBlock = some k) : B ≤ k ∧ k < w.heap.size := World.ownsRow.lt h k hk
theorem Own.keep {B : Nat} {w w' : World} {v : Value} {l : List UInt8} (h : Own B w v l) (hb : Below w.heap.size w w') : Own B w' v l :=
  h.same fun k hk => hb.block k (h.lt hk).2
theorem Own.val {B : Nat} {w : World} {v : Value} {l : List UInt8} (h : Own B w v l) : BytesV w v l := by
  obtain ⟨h1, h2⟩ := h
  rcases h2 with ⟨rfl, h2⟩ | ⟨g, cap, cur, rfl, hg, hc, hcap, hm, hsz, ht⟩
  · have : l = [] := List.eq_nil_of_length_eq_zero h2
    subst this
    exact ⟨none, 0, rfl, .inl ⟨rfl, rfl, rfl⟩⟩
  · refine ⟨_, cap, rfl, .inr ⟨_, rfl, hcap, hm, fun j hj => ?_⟩⟩
    have e : cur.toList[j]? = some (Value.int .u8 (l[j].toNat : Int)) := by
      have := congrArg (fun x => x[j]?) ht
      simp only [Nat.mul_one, bytesV] at this
      rw [List.getElem?_take_of_lt hj, List.getElem?_map, List.getElem?_eq_getElem hj] at this
      exact this
    rw [Addr.add_lit]
    simp only [World.cell?, hc, Nat.zero_add]
    simpa using e
theorem cell_same {w w' : World} {p : Addr} (h : w'.heap[p.block]? = w.heap[p.block]?) : w'.cell? p = w.cell? p := by
  unfold World.cell?
  rw [h]
theorem add_block (x : Addr) (j : Nat) : (x.add j).block = x.block := by unfold Addr.add; split <;> rfl
theorem IsBytes.same {w w' : World} {a : Option Addr} {l : List UInt8} {c : Nat} (h : IsBytes w a l c) (hs : ∀ x, a = some x → l ≠ [] → w'.heap[x.block]? = w.heap[x.block]?) : IsBytes w' a l c := by
  rcases h with h | ⟨x, h1, h2, h3, h4⟩
  · exact .inl h
  · refine .inr ⟨x, h1, h2, h3, fun j hj => ?_⟩
    have e : w'.heap[(x.add j).block]? = w.heap[(x.add j).block]? := by
      rw [add_block]
      exact hs x h1 (fun e => by rw [e] at hj; exact absurd hj (Nat.not_lt_zero _))
    rw [cell_same e]
    exact h4 j hj
theorem IsBytes.lt {w : World} {x : Addr} {l : List UInt8} {c : Nat} (h : IsBytes w (some x) l c) (hl : l ≠ []) : x.block < w.heap.size := by
  rcases h with ⟨h, _⟩ | ⟨y, h1, h2, h3, h4⟩
  · cases h
  · obtain rfl := Option.some.inj h1
    have h0 : 0 < l.length := List.length_pos_iff.2 hl
    have := h4 0 h0
    have h5 := World.block_lt_of_cell? w _ this
    rw [add_block] at h5; exact h5
section
variable {ops : Array Oper} {rest : List Oper} {o : Oper} {act : Act} {Q : Exit → Act → World → Prop}
/-- APPEND of a slice of bytes that is read; all other blocks stay as they are. -/
theorem wpList_append_ownb (w : World) (hgd : o.guard = none) (s x : Operand) (ho : o.op = .call { callee := .builtin .append, args := #[s, x], argTypes := #[23, 23] })
    {B : Nat} {v : Value} {l : List UInt8} (hs : act.eval s = v) (h : Own B w v l) {a : Option Addr} {r : List UInt8} {c : Nat} (hx : act.eval x = .slice a r.length c) (hr : IsBytes w a r c)
    (hn : l.length + r.length ≤ 140737488355328) (hB : B ≤ w.heap.size)
    (K : ∀ v' w', Own B w' v' (l ++ r) → w.grownBy w' v.ownBlock → (v'.ownBlock = v.ownBlock ∨ v'.ownBlock = some w.heap.size) → wpList Tryd.prog ops Q rest (act.put o.dst v') w') : wpList Tryd.prog ops Q (o :: rest) act w := by
  obtain ⟨i0, hi, hz0, hz1, hz2⟩ := info_parts Tryd.info5
  rcases hr with ⟨rfl, rfl, rfl⟩ | ⟨ad, rfl, hr1, hr2, hr3⟩
  · refine wpList_append_own_none hgd s x 23 ho B 5 i0 1 Tryd.underlying23 hi v l.length (bytesV l) hs h hx (K _ _ ?_ (World.grownBy.refl _ _) (.inl rfl))
    rw [List.append_nil]; exact h
  · refine wpList_append_own_at w hgd s x 23 ho B 5 i0 (.int .u8 0) 1 1 Tryd.underlying23 hi hz0 hz1 hz2 rfl (by decide) v l.length (bytesV l) hs h ad r.length c (bytesV r) hx (by rw [bytesV_len, Nat.mul_one]) ?_ ?_ (by unfold maxLen; omega) (by omega) hB ?_
    · intro j u hj
      unfold bytesV at hj
      rw [List.getElem?_map] at hj
      obtain ⟨c', hc', rfl⟩ := Option.map_eq_some_iff.1 hj
      obtain ⟨hlt, rfl⟩ := List.getElem?_eq_some_iff.1 hc'
      exact hr3 j hlt
    · intro u hu
      unfold bytesV at hu
      obtain ⟨c', _, rfl⟩ := List.mem_map.1 hu
      rfl
    · intro v' w' hown hgrow _ h5
      refine K v' w' ?_ hgrow h5
      unfold Own
      rw [List.length_append]
      have e : bytesV (l ++ r) = bytesV l ++ bytesV r := by unfold bytesV; rw [List.map_append]
      rw [e]; exact hown
end
end Go.Proofs.YtbplpfcgmmflnaaDoor
namespace Go.Proofs.YtbplpfcgmmflnaaDoor
open Go.RowKit

/-- The state of the decoder: the phase, the bytes left, the size of the trailer section, the line so far. -/
structure Chk where
  ph : Int
  left : Int
  tr : Int
  line : List UInt8
def zeroC : Chk := ⟨0, 0, 0, []⟩
/-- What stands ahead of the first semicolon. -/
def szS (y : ByteArray) : ByteArray := ((splitS 59 y)[0]?).getD ⟨#[]⟩
/-- What a complete line leads to: an error, or the state. -/
def lineS (s : Chk) (y : ByteArray) : Int × Chk :=
  if s.ph = 0 then
    (if (parseS 16 1000000000 (szS y)).2 = 2 ∨ visS y = false then (2, zeroC)
    else if (parseS 16 1000000000 (szS y)).2 = 0 then (0, ⟨if (parseS 16 1000000000 (szS y)).1 = 0 then 3 else 1, (parseS 16 1000000000 (szS y)).1, s.tr, []⟩)
    else ((parseS 16 1000000000 (szS y)).2, zeroC))
  else if s.ph = 2 then (if y.size = 0 then (0, ⟨0, s.left, s.tr, []⟩) else (2, zeroC))
  else if s.ph = 3 then (if y.size = 0 then (0, ⟨4, s.left, s.tr, []⟩) else if (parseF y).isSome = true then (0, ⟨3, s.left, s.tr, []⟩) else (2, zeroC))
  else (0, ⟨s.ph, s.left, s.tr, []⟩)
/-- The line ends with CR. -/
def crB (l : List UInt8) : Bool := l.getLast? == some 13
/-- One byte that belongs to a line, with the trailer section at t. -/
def byteS (s : Chk) (t : Int) (x : UInt8) : Int × Chk :=
  if crB s.line = false then
    (if x = 10 then (2, zeroC) else if 128 < s.line.length + 1 ∧ ¬ x = 13 then (3, zeroC) else (0, ⟨s.ph, s.left, t, s.line ++ [x]⟩))
  else if x = 10 then lineS ⟨s.ph, s.left, t, []⟩ ⟨s.line.dropLast.toArray⟩ else (2, zeroC)
/-- One byte that is not one of the body. -/
def stepS (s : Chk) (x : UInt8) : Int × Chk :=
  if s.ph = 3 then (if 1024 < s.tr + 1 then (3, zeroC) else byteS s (s.tr + 1) x) else byteS s s.tr x
/-- The decoder over many bytes: error, state, bytes of the body, number of bytes read. -/
def feedS (room : Int) : Chk → List UInt8 → Nat → List UInt8 → Int × Chk × List UInt8 × Nat
  | s, out, i, [] => (0, s, out, i)
  | s, out, i, x :: r =>
    if s.ph = 4 ∨ s.ph = 1 ∧ room ≤ out.length then (0, s, out, i)
    else if s.ph = 1 then feedS room ⟨if s.left - 1 = 0 then 2 else 1, s.left - 1, s.tr, s.line⟩ (out ++ [x]) (i + 1) r
    else if (stepS s x).1 = 0 then feedS room (stepS s x).2 out (i + 1) r
    else ((stepS s x).1, zeroC, [], 0)

/-- A variable with a state. -/
def CVar (w : World) (g : Nat) (p l t : Int) (v : Value) : Prop := w.heap[g]? = some (.cells #[.int .i64 p, .int .i64 l, .int .i64 t, v] 27 (0, 0))
theorem CVar.keep {w w' : World} {g : Nat} {p l t : Int} {v : Value} (h : CVar w g p l t v) (hb : Below w.heap.size w w') : CVar w' g p l t v := by
  unfold CVar at *
  rw [hb.block g (Array.getElem?_eq_some_iff.1 h).1]; exact h
theorem CVar.lt {w : World} {g : Nat} {p l t : Int} {v : Value} (h : CVar w g p l t v) : g < w.heap.size := (Array.getElem?_eq_some_iff.1 h).1
theorem CVar.cells {w : World} {g : Nat} {p l t : Int} {v : Value} (h : CVar w g p l t v) : w.cell? ⟨g, 0, none⟩ = some (.int .i64 p) ∧ w.cell? ⟨g, 1, none⟩ = some (.int .i64 l) ∧ w.cell? ⟨g, 2, none⟩ = some (.int .i64 t) ∧ w.cell? ⟨g, 3, none⟩ = some v := by
  refine ⟨?_, ?_, ?_, ?_⟩ <;> rw [cell_of_row _ _ _ _ _ _ h] <;> rfl
theorem sizeC : (Tryd.prog.info? 27).map (·.size) = some 4 := by kernel_rfl
theorem oneC (p l t : Int) (a : Option Addr) (n c : Nat) : (#[.int .i64 p, .int .i64 l, .int .i64 t, .slice a n c] : Array Value).all (·.oneCell') = true := by simp [Value.oneCell']
def RetStep (w : World) (r : Int × Chk) (e : Ending) (w' : World) : Prop :=
  ∃ p l t a n c, e = .returned (.tuple #[.agg #[.int .i64 p, .int .i64 l, .int .i64 t, .slice a n c], .int .i64 r.1]) ∧ (r.1 = 0 → p = r.2.ph ∧ l = r.2.left ∧ t = r.2.tr ∧ n = r.2.line.length ∧ IsBytes w' a r.2.line c) ∧ Below w.heap.size w w'
theorem RetStep.err {w w' : World} {r : Int × Chk} {e : Ending} {p l t er : Int} {a : Option Addr} {n c : Nat} (he : e = .returned (.tuple #[.agg #[.int .i64 p, .int .i64 l, .int .i64 t, .slice a n c], .int .i64 er])) (hr : r = (er, zeroC)) (h0 : er ≠ 0) (hb : Below w.heap.size w w') : RetStep w r e w' := by
  subst hr
  exact ⟨p, l, t, a, n, c, he, fun h => absurd h h0, hb⟩
theorem RetStep.ok {w w' : World} {r : Int × Chk} {e : Ending} {p l t : Int} {a : Option Addr} {n c : Nat} {line : List UInt8} (he : e = .returned (.tuple #[.agg #[.int .i64 p, .int .i64 l, .int .i64 t, .slice a n c], .int .i64 0])) (hr : r = (0, ⟨p, l, t, line⟩)) (hn : n = line.length) (hy : IsBytes w' a line c) (hb : Below w.heap.size w w') : RetStep w r e w' := by
  subst hr
  exact ⟨p, l, t, a, n, c, he, fun _ => ⟨rfl, rfl, rfl, hn, hy⟩, hb⟩
theorem CVar.setV {w : World} {g : Nat} {p l t : Int} {v u : Value} (h : CVar w g p l t v) : CVar (w.setCell ⟨g, 3, none⟩ u) g p l t u := by
  unfold CVar; rw [heap_setCell_same _ _ _ _ _ _ h]; rfl
theorem CVar.setP {w : World} {g : Nat} {p l t z : Int} {v : Value} (h : CVar w g p l t v) : CVar (w.setCell ⟨g, 0, none⟩ (.int .i64 z)) g z l t v := by
  unfold CVar; rw [heap_setCell_same _ _ _ _ _ _ h]; rfl
theorem CVar.setL {w : World} {g : Nat} {p l t z : Int} {v : Value} (h : CVar w g p l t v) : CVar (w.setCell ⟨g, 1, none⟩ (.int .i64 z)) g p z t v := by
  unfold CVar; rw [heap_setCell_same _ _ _ _ _ _ h]; rfl
theorem CVar.setT {w : World} {g : Nat} {p l t z : Int} {v : Value} (h : CVar w g p l t v) : CVar (w.setCell ⟨g, 2, none⟩ (.int .i64 z)) g p l z v := by
  unfold CVar; rw [heap_setCell_same _ _ _ _ _ _ h]; rfl
theorem CVar.other {w : World} {g : Nat} {p l t : Int} {v u : Value} {x : Addr} (h : CVar w g p l t v) (hne : g ≠ x.block) : CVar (w.setCell x u) g p l t v := by
  unfold CVar; rw [heap_setCell_other _ _ _ _ hne]; exact h
theorem CVar.frozen {w : World} {g i : Nat} {p l t : Int} {v : Value} (h : CVar w g p l t v) : w.frozen? ⟨g, i, none⟩ = false := by
  unfold CVar at h; simp [World.frozen?, h]
section
variable {ops : Array Oper} {rest : List Oper} {o : Oper} {act : Act} {Q : Exit → Act → World → Prop} {w : World}
theorem wpList_store_slice {P : Program} (hgd : o.guard = none) (ty : TypeId) (x y : Operand) (ho : o.op = .store ty x y) {p : Addr} {sa : Option Addr} {sn sc : Nat} {u : Value} (hx : act.eval x = .pointer (some p)) (hy : act.eval y = .slice sa sn sc) (hi : (P.info? ty).map (·.size) = some 1)
    (hc : w.cell? p = some u) (hf : w.frozen? p = false) (h : wpList P ops Q rest (act.put o.dst undef) (w.setCell p (.slice sa sn sc))) : wpList P ops Q (o :: rest) act w :=
  wpList_plain hgd fun K hK => by
    have hz : (sizeOf ty).run P w = .ok 1 w := by
      cases hq : P.info? ty with
      | none => rw [hq] at hi; cases hi
      | some i => rw [hq] at hi; simp at hi; simp [sizeOf, typeInfo, hq, hi]
    have h2 := hK _ _ h
    unfold Oper.wp execOp
    simp_all [Instr.storeAt, Instr.sureAddr, storeVar, storeCells, Value.cells, go_sem]
end
theorem Own.setC {B g i : Nat} {w : World} {v u : Value} {l : List UInt8} (h : Own B w v l) (hg : g < B) : Own B (w.setCell ⟨g, i, none⟩ u) v l :=
  h.same fun k hk => heap_setCell_other _ _ _ _ (by have := (h.lt hk).1; show k ≠ g; omega)
theorem Own.setR {B g : Nat} {w : World} {v : Value} {cs : Array Value} {l : List UInt8} (h : Own B w v l) (hg : g < B) : Own B (w.setRow g cs) v l :=
  h.same fun k hk => setRow_other _ _ _ _ (by have := (h.lt hk).1; omega)
theorem Own.bytes {B : Nat} {w : World} {a : Option Addr} {l : List UInt8} {n c : Nat} (h : Own B w (.slice a n c) l) : IsBytes w a l c := by
  obtain ⟨a', c', e, hb⟩ := h.val
  injection e with e1 e2 e3
  subst e1 e3
  exact hb
theorem last_cases (l : List UInt8) : l = [] ∨ ∃ m z, l = m ++ [z] := by
  rcases List.eq_nil_or_concat l with h | ⟨m, z, h⟩
  · exact .inl h
  · exact .inr ⟨m, z, by rw [h, List.concat_eq_append]⟩
theorem crB_app (m : List UInt8) (z : UInt8) : crB (m ++ [z]) = (z == 13) := by unfold crB; simp
end Go.Proofs.YtbplpfcgmmflnaaDoor
namespace Go.Proofs.YtbplpfcgmmflnaaDoor
open Go.RowKit

theorem byteS_ten {s : Chk} {t : Int} (h : crB s.line = false) : byteS s t 10 = (2, zeroC) := by unfold byteS; rw [if_pos h, if_pos rfl]
theorem byteS_long {s : Chk} {t : Int} {x : UInt8} (h : crB s.line = false) (hx : ¬ x = 10) (hl : 128 < s.line.length + 1) (h13 : ¬ x = 13) : byteS s t x = (3, zeroC) := by
  unfold byteS; rw [if_pos h, if_neg hx, if_pos ⟨hl, h13⟩]
theorem byteS_more {s : Chk} {t : Int} {x : UInt8} (h : crB s.line = false) (hx : ¬ x = 10) (hl : ¬ (128 < s.line.length + 1 ∧ ¬ x = 13)) : byteS s t x = (0, ⟨s.ph, s.left, t, s.line ++ [x]⟩) := by
  unfold byteS; rw [if_pos h, if_neg hx, if_neg hl]
theorem byteS_bad {s : Chk} {t : Int} {x : UInt8} (h : crB s.line = true) (hx : ¬ x = 10) : byteS s t x = (2, zeroC) := by
  unfold byteS; rw [if_neg (by rw [h]; decide), if_neg hx]
theorem byteS_line {m : List UInt8} {p l t0 t : Int} : byteS ⟨p, l, t0, m ++ [13]⟩ t 10 = lineS ⟨p, l, t, []⟩ ⟨m.toArray⟩ := by
  unfold byteS; rw [if_neg (by rw [crB_app]; decide), if_pos rfl]; simp
theorem ownsB_setC {B g i : Nat} {w : World} {v u : Value} {l : List UInt8} (h : Own B w v l) (hg : g < B) : Own B (w.setCell ⟨g, i, none⟩ u) v l := h.setC hg
theorem isBytes_front {w : World} {a : Option Addr} {m : List UInt8} {z : UInt8} {c : Nat} (h : IsBytes w a (m ++ [z]) c) : IsBytes w a m c := by
  rcases h with ⟨_, e, _⟩ | ⟨x, e, h1, h2, h3⟩
  · simp at e
  · refine .inr ⟨x, e, by simp at h1; omega, h2, fun j hj => ?_⟩
    have := h3 j (by simp; omega)
    rwa [List.getElem_append_left hj] at this

set_option maxRecDepth 100000 in
set_option maxHeartbeats 4000000 in
theorem refStep_open (p : Int) (l t : Int) (m : List UInt8) (z : UInt8) (ad : Addr) (x : UInt8) (lc : Nat) (w : World) (h : IsBytes w (some ad) (m ++ [z]) lc) (hz : ¬ z = 13) (hl : m.length ≤ 1000) (hp : ¬ p = 3) :
    Calls Tryd.prog 26 #[.agg #[.int .i64 p, .int .i64 l, .int .i64 t, .slice (some ad) (m.length + 1) lc], .int .u8 x.toNat] w (RetStep w (byteS ⟨p, l, t, m ++ [z]⟩ t x)) := by
  have ep : (p == 3) = false := by rw [beq_eq_false_iff_ne]; exact hp
  obtain ⟨W2, hW2⟩ : ∃ W2, W2 = (w.alloc (.cells #[.int .i64 p, .int .i64 l, .int .i64 t, .slice (some ad) (m.length + 1) lc] 27)).alloc (.cells #[.int .i64 0, .int .i64 0, .int .i64 0, .slice none 0 0] 27) := ⟨_, rfl⟩
  have hsz2 : W2.heap.size = w.heap.size + 1 + 1 := by rw [hW2, World.size_alloc, World.size_alloc]
  have hb0 : Below w.heap.size w W2 := by rw [hW2]; exact below_twoF (below_oneF w _) _
  have H0 := Box.mk (h.keep hb0)
  have HB0 := Box.mk hb0
  have hcr : crB (m ++ [z]) = false := by rw [crB_app]; simpa using hz
  have hcz : w.cell? (ad.add m.length) = some (.int .u8 (z.toNat : Int)) := by
    rcases h with ⟨e, _⟩ | ⟨y, e, _, _, hc⟩
    · cases e
    · obtain rfl := Option.some.inj e
      have := hc m.length (by simp)
      simpa using this
  have hbl : (ad.add m.length).block < w.heap.size := lt_cell hcz
  have ez : ((z.toNat : Int) != 13) = true := by
    rw [bne_iff_ne]; intro e; exact hz (UInt8.toNat_inj.1 (by rw [show (13 : UInt8).toNat = 13 from rfl]; omega))
  have hR := Box.mk (show CVar W2 (w.heap.size + 1) 0 0 0 (.slice none 0 0) by
    have h := heap_alloc_new (w.alloc (.cells #[.int .i64 p, .int .i64 l, .int .i64 t, .slice (some ad) (m.length + 1) lc] 27)) (.cells #[.int .i64 0, .int .i64 0, .int .i64 0, .slice none 0 0] 27)
    rw [World.size_alloc] at h; rw [hW2]; exact h)
  have HC := Box.mk (show CVar W2 w.heap.size p l t (.slice (some ad) (m.length + 1) lc) by
    rw [hW2]; exact CVar.keep (heap_alloc_new _ _) (below_oneF _ _))
  have HE := Box.mk (show AccB W2 (W2.alloc (.cells #[] 5)) (.slice (some ⟨w.heap.size + 1 + 1, 0, none⟩) 0 0) [] by rw [← hsz2]; exact AccB.empty W2)
  have HSZ := Box.mk hsz2
  have HW2 := Box.mk hW2
  clear h hb0 hW2 hsz2
  by_cases hx : x = 10
  · subst hx
    have HP := Box.mk (byteS_ten (s := ⟨p, l, t, m ++ [z]⟩) (t := t) hcr)
    clear hcr HE hz
    clear hp
    rw [show (10 : UInt8).toNat = 10 from rfl]
    go_enter Tryd.func26, Tryd.ntmps26
    have hR' := hR
    rw [HW2.out] at hR'
    go_wp2_with (refine wpList_store_row rfl 27 _ _ rfl (w.heap.size + 1) #[.int .i64 p, .int .i64 l, .int .i64 t, .slice (some ad) (m.length + 1) lc] rfl rfl 27 _ hR'.out sizeC rfl (oneC _ _ _ _ _ _) ?_)
    (try simp only [Exit.inBlock, Exit.then])
    refine bodyPost_ret (results_row_tmpF rfl _ _ (w.heap.size + 1) _ _ _ _ rfl (setRow_heap _ _ _ _ _ _ hR'.out) Tryd.underlying27 rfl sizeC) rfl ?_
    exact RetStep.err rfl HP.out (by decide) (below_setRow (by rw [← HW2.out]; exact HB0.out) (by omega) _)
  · have e10 : ((x.toNat : Int) == 10) = false := by
      rw [beq_eq_false_iff_ne]; intro e; exact hx (UInt8.toNat_inj.1 (by rw [show (10 : UInt8).toNat = 10 from rfl]; omega))
    go_enter Tryd.func26, Tryd.ntmps26
    go_wp2_with (at_builtin; refine wpList_append_accs _ rfl _ _ rfl rfl (by rw [← HW2.out]; exact HE.out) (by show Value.slice (some ad) (m.length + 1) lc = .slice (some ad) (m ++ [z] : List UInt8).length lc; simp) (by rw [← HW2.out]; exact H0.out.keep (below_oneF _ _)) (by simp; omega) ?_)
    intro v3 w3 hacc
    obtain ⟨ln, hln⟩ : ∃ ln : List UInt8, ln = m ++ [z] := ⟨_, rfl⟩
    have HACC := Box.mk (show AccB W2 w3 v3 ln by rw [hln]; exact hacc)
    have hll : ln.length ≤ 1001 := by rw [hln]; simp; omega
    have HLN := Box.mk hln
    clear hacc hln HE
    go_wp2_with (at_builtin; refine wpList_append_accb _ rfl _ _ rfl rfl (HACC.out.keep ((Below.refl _ _).alloc (Nat.le_refl _) _)) rfl (y := x) ?c1 ?c2 ?c3)
    case c1 => simp
    case c2 => omega
    case c3 =>
      intro gl cap w4 hacc
      have HC4 := Box.mk (HC.out.keep hacc.2)
      obtain ⟨hd0, hd1, hd2, hd3⟩ := (HC4.out.setV (u := .slice (some ⟨gl, 0, none⟩) (ln.length + 1) cap)).cells
      have HR4 := Box.mk ((hR.out.keep hacc.2).other (x := ⟨w.heap.size, 3, none⟩) (u := .slice (some ⟨gl, 0, none⟩) (ln.length + 1) cap) (by show w.heap.size + 1 ≠ w.heap.size; omega))
      have HO4 := Box.mk (ownsB_setC (g := w.heap.size) (i := 3) (u := .slice (some ⟨gl, 0, none⟩) (ln.length + 1) cap) hacc.1 (by have := HSZ.out; omega))
      have HB4 := Box.mk ((below_trans HB0.out hacc.2).setCell (p := ⟨w.heap.size, 3, none⟩) (Nat.le_refl _) (.slice (some ⟨gl, 0, none⟩) (ln.length + 1) cap))
      clear hacc HACC
      by_cases hlong : 128 < ln.length + 1 ∧ ¬ x = 13
      · have HP := Box.mk (byteS_long (s := ⟨p, l, t, m ++ [z]⟩) (t := t) hcr hx (by have h8 := hlong.1; rw [HLN.out] at h8; exact h8) hlong.2)
        have h128 := hlong.1
        have e13 : ((x.toNat : Int) != 13) = true := by
          rw [bne_iff_ne]; intro e; exact hlong.2 (UInt8.toNat_inj.1 (by rw [show (13 : UInt8).toNat = 13 from rfl]; omega))
        clear hlong hx hcr
        go_wp2_with (first | (refine wpList_store_slice rfl _ _ _ rfl rfl rfl (by kernel_rfl) HC4.out.cells.2.2.2 HC4.out.frozen ?_) | (refine wpList_store_row rfl 27 _ _ rfl (w.heap.size + 1) #[.int .i64 p, .int .i64 l, .int .i64 t, .slice (some ⟨gl, 0, none⟩) (ln.length + 1) cap] rfl rfl 27 _ HR4.out sizeC rfl (oneC _ _ _ _ _ _) ?_))
        (try simp only [Exit.inBlock, Exit.then])
        refine bodyPost_ret (results_row_tmpF rfl _ _ (w.heap.size + 1) _ _ _ _ rfl (setRow_heap _ _ _ _ _ _ HR4.out) Tryd.underlying27 rfl sizeC) rfl ?_
        exact RetStep.err rfl HP.out (by decide) (below_setRow HB4.out (by omega) _)
      · have HP := Box.mk (show byteS ⟨p, l, t, m ++ [z]⟩ t x = (0, ⟨p, l, t, ln ++ [x]⟩) by
          have hlong2 := hlong
          rw [HLN.out] at hlong2 ⊢
          exact byteS_more hcr hx hlong2)
        by_cases h128 : 128 < ln.length + 1
        · have e13 : ((x.toNat : Int) != 13) = false := by
            have hx13 : x = 13 := Decidable.byContradiction fun h => hlong ⟨h128, h⟩
            rw [hx13]; rfl
          clear hlong hx hcr
          go_wp2_with (first | (refine wpList_store_slice rfl _ _ _ rfl rfl rfl (by kernel_rfl) HC4.out.cells.2.2.2 HC4.out.frozen ?_) | (refine wpList_store_row rfl 27 _ _ rfl (w.heap.size + 1) #[.int .i64 p, .int .i64 l, .int .i64 t, .slice (some ⟨gl, 0, none⟩) (ln.length + 1) cap] rfl rfl 27 _ HR4.out sizeC rfl (oneC _ _ _ _ _ _) ?_))
          (try simp only [Exit.inBlock, Exit.then])
          refine bodyPost_ret (results_row_tmpF rfl _ _ (w.heap.size + 1) _ _ _ _ rfl (setRow_heap _ _ _ _ _ _ HR4.out) Tryd.underlying27 rfl sizeC) rfl ?_
          exact RetStep.ok rfl HP.out (by simp) (HO4.out.setR (by have := HSZ.out; omega)).bytes (below_setRow HB4.out (by omega) _)
        · clear hlong hx hcr
          go_wp2_with (first | (refine wpList_store_slice rfl _ _ _ rfl rfl rfl (by kernel_rfl) HC4.out.cells.2.2.2 HC4.out.frozen ?_) | (refine wpList_store_row rfl 27 _ _ rfl (w.heap.size + 1) #[.int .i64 p, .int .i64 l, .int .i64 t, .slice (some ⟨gl, 0, none⟩) (ln.length + 1) cap] rfl rfl 27 _ HR4.out sizeC rfl (oneC _ _ _ _ _ _) ?_))
          (try simp only [Exit.inBlock, Exit.then])
          refine bodyPost_ret (results_row_tmpF rfl _ _ (w.heap.size + 1) _ _ _ _ rfl (setRow_heap _ _ _ _ _ _ HR4.out) Tryd.underlying27 rfl sizeC) rfl ?_
          exact RetStep.ok rfl HP.out (by simp) (HO4.out.setR (by have := HSZ.out; omega)).bytes (below_setRow HB4.out (by omega) _)

set_option maxRecDepth 100000 in
set_option maxHeartbeats 4000000 in
theorem refStep_open3 (l t : Int) (m : List UInt8) (z : UInt8) (ad : Addr) (x : UInt8) (lc : Nat) (w : World) (h : IsBytes w (some ad) (m ++ [z]) lc) (hz : ¬ z = 13) (hl : m.length ≤ 1000) (ht0 : 0 ≤ t) (ht : t + 1 ≤ 1024) :
    Calls Tryd.prog 26 #[.agg #[.int .i64 3, .int .i64 l, .int .i64 t, .slice (some ad) (m.length + 1) lc], .int .u8 x.toNat] w (RetStep w (byteS ⟨3, l, t, m ++ [z]⟩ (t + 1) x)) := by
  obtain ⟨W2, hW2⟩ : ∃ W2, W2 = (w.alloc (.cells #[.int .i64 3, .int .i64 l, .int .i64 (t + 1), .slice (some ad) (m.length + 1) lc] 27)).alloc (.cells #[.int .i64 0, .int .i64 0, .int .i64 0, .slice none 0 0] 27) := ⟨_, rfl⟩
  have hsz2 : W2.heap.size = w.heap.size + 1 + 1 := by rw [hW2, World.size_alloc, World.size_alloc]
  have hb0 : Below w.heap.size w W2 := by rw [hW2]; exact below_twoF (below_oneF w _) _
  have H0 := Box.mk (h.keep hb0)
  have HB0 := Box.mk hb0
  have hcr : crB (m ++ [z]) = false := by rw [crB_app]; simpa using hz
  have hcz : w.cell? (ad.add m.length) = some (.int .u8 (z.toNat : Int)) := by
    rcases h with ⟨e, _⟩ | ⟨y, e, _, _, hc⟩
    · cases e
    · obtain rfl := Option.some.inj e
      have := hc m.length (by simp)
      simpa using this
  have hbl : (ad.add m.length).block < w.heap.size := lt_cell hcz
  have ez : ((z.toNat : Int) != 13) = true := by
    rw [bne_iff_ne]; intro e; exact hz (UInt8.toNat_inj.1 (by rw [show (13 : UInt8).toNat = 13 from rfl]; omega))
  have hR := Box.mk (show CVar W2 (w.heap.size + 1) 0 0 0 (.slice none 0 0) by
    have h := heap_alloc_new (w.alloc (.cells #[.int .i64 3, .int .i64 l, .int .i64 (t + 1), .slice (some ad) (m.length + 1) lc] 27)) (.cells #[.int .i64 0, .int .i64 0, .int .i64 0, .slice none 0 0] 27)
    rw [World.size_alloc] at h; rw [hW2]; exact h)
  have HC := Box.mk (show CVar W2 w.heap.size 3 l (t + 1) (.slice (some ad) (m.length + 1) lc) by
    rw [hW2]; exact CVar.keep (heap_alloc_new _ _) (below_oneF _ _))
  have HE := Box.mk (show AccB W2 (W2.alloc (.cells #[] 5)) (.slice (some ⟨w.heap.size + 1 + 1, 0, none⟩) 0 0) [] by rw [← hsz2]; exact AccB.empty W2)
  have HSZ := Box.mk hsz2
  have HW2 := Box.mk hW2
  clear h hb0 hW2 hsz2
  by_cases hx : x = 10
  · subst hx
    have HP := Box.mk (byteS_ten (s := ⟨3, l, t, m ++ [z]⟩) (t := (t + 1)) hcr)
    clear hcr HE hz
    rw [show (10 : UInt8).toNat = 10 from rfl]
    go_enter Tryd.func26, Tryd.ntmps26
    have hR' := hR
    rw [HW2.out] at hR'
    go_wp2_with (refine wpList_store_row rfl 27 _ _ rfl (w.heap.size + 1) #[.int .i64 3, .int .i64 l, .int .i64 (t + 1), .slice (some ad) (m.length + 1) lc] rfl rfl 27 _ hR'.out sizeC rfl (oneC _ _ _ _ _ _) ?_)
    (try simp only [Exit.inBlock, Exit.then])
    refine bodyPost_ret (results_row_tmpF rfl _ _ (w.heap.size + 1) _ _ _ _ rfl (setRow_heap _ _ _ _ _ _ hR'.out) Tryd.underlying27 rfl sizeC) rfl ?_
    exact RetStep.err rfl HP.out (by decide) (below_setRow (by rw [← HW2.out]; exact HB0.out) (by omega) _)
  · have e10 : ((x.toNat : Int) == 10) = false := by
      rw [beq_eq_false_iff_ne]; intro e; exact hx (UInt8.toNat_inj.1 (by rw [show (10 : UInt8).toNat = 10 from rfl]; omega))
    go_enter Tryd.func26, Tryd.ntmps26
    go_wp2_with (at_builtin; refine wpList_append_accs _ rfl _ _ rfl rfl (by rw [← HW2.out]; exact HE.out) (by show Value.slice (some ad) (m.length + 1) lc = .slice (some ad) (m ++ [z] : List UInt8).length lc; simp) (by rw [← HW2.out]; exact H0.out.keep (below_oneF _ _)) (by simp; omega) ?_)
    intro v3 w3 hacc
    obtain ⟨ln, hln⟩ : ∃ ln : List UInt8, ln = m ++ [z] := ⟨_, rfl⟩
    have HACC := Box.mk (show AccB W2 w3 v3 ln by rw [hln]; exact hacc)
    have hll : ln.length ≤ 1001 := by rw [hln]; simp; omega
    have HLN := Box.mk hln
    clear hacc hln HE
    go_wp2_with (at_builtin; refine wpList_append_accb _ rfl _ _ rfl rfl (HACC.out.keep ((Below.refl _ _).alloc (Nat.le_refl _) _)) rfl (y := x) ?c1 ?c2 ?c3)
    case c1 => simp
    case c2 => omega
    case c3 =>
      intro gl cap w4 hacc
      have HC4 := Box.mk (HC.out.keep hacc.2)
      obtain ⟨hd0, hd1, hd2, hd3⟩ := (HC4.out.setV (u := .slice (some ⟨gl, 0, none⟩) (ln.length + 1) cap)).cells
      have HR4 := Box.mk ((hR.out.keep hacc.2).other (x := ⟨w.heap.size, 3, none⟩) (u := .slice (some ⟨gl, 0, none⟩) (ln.length + 1) cap) (by show w.heap.size + 1 ≠ w.heap.size; omega))
      have HO4 := Box.mk (ownsB_setC (g := w.heap.size) (i := 3) (u := .slice (some ⟨gl, 0, none⟩) (ln.length + 1) cap) hacc.1 (by have := HSZ.out; omega))
      have HB4 := Box.mk ((below_trans HB0.out hacc.2).setCell (p := ⟨w.heap.size, 3, none⟩) (Nat.le_refl _) (.slice (some ⟨gl, 0, none⟩) (ln.length + 1) cap))
      clear hacc HACC
      by_cases hlong : 128 < ln.length + 1 ∧ ¬ x = 13
      · have HP := Box.mk (byteS_long (s := ⟨3, l, t, m ++ [z]⟩) (t := (t + 1)) hcr hx (by have h8 := hlong.1; rw [HLN.out] at h8; exact h8) hlong.2)
        have h128 := hlong.1
        have e13 : ((x.toNat : Int) != 13) = true := by
          rw [bne_iff_ne]; intro e; exact hlong.2 (UInt8.toNat_inj.1 (by rw [show (13 : UInt8).toNat = 13 from rfl]; omega))
        clear hlong hx hcr
        go_wp2_with (first | (refine wpList_store_slice rfl _ _ _ rfl rfl rfl (by kernel_rfl) HC4.out.cells.2.2.2 HC4.out.frozen ?_) | (refine wpList_store_row rfl 27 _ _ rfl (w.heap.size + 1) #[.int .i64 3, .int .i64 l, .int .i64 (t + 1), .slice (some ⟨gl, 0, none⟩) (ln.length + 1) cap] rfl rfl 27 _ HR4.out sizeC rfl (oneC _ _ _ _ _ _) ?_))
        (try simp only [Exit.inBlock, Exit.then])
        refine bodyPost_ret (results_row_tmpF rfl _ _ (w.heap.size + 1) _ _ _ _ rfl (setRow_heap _ _ _ _ _ _ HR4.out) Tryd.underlying27 rfl sizeC) rfl ?_
        exact RetStep.err rfl HP.out (by decide) (below_setRow HB4.out (by omega) _)
      · have HP := Box.mk (show byteS ⟨3, l, t, m ++ [z]⟩ (t + 1) x = (0, ⟨3, l, (t + 1), ln ++ [x]⟩) by
          have hlong2 := hlong
          rw [HLN.out] at hlong2 ⊢
          exact byteS_more hcr hx hlong2)
        by_cases h128 : 128 < ln.length + 1
        · have e13 : ((x.toNat : Int) != 13) = false := by
            have hx13 : x = 13 := Decidable.byContradiction fun h => hlong ⟨h128, h⟩
            rw [hx13]; rfl
          clear hlong hx hcr
          go_wp2_with (first | (refine wpList_store_slice rfl _ _ _ rfl rfl rfl (by kernel_rfl) HC4.out.cells.2.2.2 HC4.out.frozen ?_) | (refine wpList_store_row rfl 27 _ _ rfl (w.heap.size + 1) #[.int .i64 3, .int .i64 l, .int .i64 (t + 1), .slice (some ⟨gl, 0, none⟩) (ln.length + 1) cap] rfl rfl 27 _ HR4.out sizeC rfl (oneC _ _ _ _ _ _) ?_))
          (try simp only [Exit.inBlock, Exit.then])
          refine bodyPost_ret (results_row_tmpF rfl _ _ (w.heap.size + 1) _ _ _ _ rfl (setRow_heap _ _ _ _ _ _ HR4.out) Tryd.underlying27 rfl sizeC) rfl ?_
          exact RetStep.ok rfl HP.out (by simp) (HO4.out.setR (by have := HSZ.out; omega)).bytes (below_setRow HB4.out (by omega) _)
        · clear hlong hx hcr
          go_wp2_with (first | (refine wpList_store_slice rfl _ _ _ rfl rfl rfl (by kernel_rfl) HC4.out.cells.2.2.2 HC4.out.frozen ?_) | (refine wpList_store_row rfl 27 _ _ rfl (w.heap.size + 1) #[.int .i64 3, .int .i64 l, .int .i64 (t + 1), .slice (some ⟨gl, 0, none⟩) (ln.length + 1) cap] rfl rfl 27 _ HR4.out sizeC rfl (oneC _ _ _ _ _ _) ?_))
          (try simp only [Exit.inBlock, Exit.then])
          refine bodyPost_ret (results_row_tmpF rfl _ _ (w.heap.size + 1) _ _ _ _ rfl (setRow_heap _ _ _ _ _ _ HR4.out) Tryd.underlying27 rfl sizeC) rfl ?_
          exact RetStep.ok rfl HP.out (by simp) (HO4.out.setR (by have := HSZ.out; omega)).bytes (below_setRow HB4.out (by omega) _)

set_option maxRecDepth 100000 in
set_option maxHeartbeats 4000000 in
theorem refStep_nil (p : Int) (l t : Int) (la : Option Addr) (x : UInt8) (lc : Nat) (w : World) (h : IsBytes w la [] lc) (hp : ¬ p = 3) :
    Calls Tryd.prog 26 #[.agg #[.int .i64 p, .int .i64 l, .int .i64 t, .slice la 0 lc], .int .u8 x.toNat] w (RetStep w (byteS ⟨p, l, t, []⟩ t x)) := by
  have ep : (p == 3) = false := by rw [beq_eq_false_iff_ne]; exact hp
  obtain ⟨W2, hW2⟩ : ∃ W2, W2 = (w.alloc (.cells #[.int .i64 p, .int .i64 l, .int .i64 t, .slice la 0 lc] 27)).alloc (.cells #[.int .i64 0, .int .i64 0, .int .i64 0, .slice none 0 0] 27) := ⟨_, rfl⟩
  have hsz2 : W2.heap.size = w.heap.size + 1 + 1 := by rw [hW2, World.size_alloc, World.size_alloc]
  have hb0 : Below w.heap.size w W2 := by rw [hW2]; exact below_twoF (below_oneF w _) _
  have H0 := Box.mk (h.keep hb0)
  have HB0 := Box.mk hb0
  have hcr : crB [] = false := rfl
  have hR := Box.mk (show CVar W2 (w.heap.size + 1) 0 0 0 (.slice none 0 0) by
    have h := heap_alloc_new (w.alloc (.cells #[.int .i64 p, .int .i64 l, .int .i64 t, .slice la 0 lc] 27)) (.cells #[.int .i64 0, .int .i64 0, .int .i64 0, .slice none 0 0] 27)
    rw [World.size_alloc] at h; rw [hW2]; exact h)
  have HC := Box.mk (show CVar W2 w.heap.size p l t (.slice la 0 lc) by
    rw [hW2]; exact CVar.keep (heap_alloc_new _ _) (below_oneF _ _))
  have HE := Box.mk (show AccB W2 (W2.alloc (.cells #[] 5)) (.slice (some ⟨w.heap.size + 1 + 1, 0, none⟩) 0 0) [] by rw [← hsz2]; exact AccB.empty W2)
  have HSZ := Box.mk hsz2
  have HW2 := Box.mk hW2
  clear h hb0 hW2 hsz2
  by_cases hx : x = 10
  · subst hx
    have HP := Box.mk (byteS_ten (s := ⟨p, l, t, []⟩) (t := t) hcr)
    clear hcr HE 
    clear hp
    rw [show (10 : UInt8).toNat = 10 from rfl]
    go_enter Tryd.func26, Tryd.ntmps26
    have hR' := hR
    rw [HW2.out] at hR'
    go_wp2_with (refine wpList_store_row rfl 27 _ _ rfl (w.heap.size + 1) #[.int .i64 p, .int .i64 l, .int .i64 t, .slice la 0 lc] rfl rfl 27 _ hR'.out sizeC rfl (oneC _ _ _ _ _ _) ?_)
    (try simp only [Exit.inBlock, Exit.then])
    refine bodyPost_ret (results_row_tmpF rfl _ _ (w.heap.size + 1) _ _ _ _ rfl (setRow_heap _ _ _ _ _ _ hR'.out) Tryd.underlying27 rfl sizeC) rfl ?_
    exact RetStep.err rfl HP.out (by decide) (below_setRow (by rw [← HW2.out]; exact HB0.out) (by omega) _)
  · have e10 : ((x.toNat : Int) == 10) = false := by
      rw [beq_eq_false_iff_ne]; intro e; exact hx (UInt8.toNat_inj.1 (by rw [show (10 : UInt8).toNat = 10 from rfl]; omega))
    go_enter Tryd.func26, Tryd.ntmps26
    go_wp2_with (at_builtin; refine wpList_append_accs _ rfl _ _ rfl rfl (by rw [← HW2.out]; exact HE.out) (by show Value.slice la 0 lc = .slice la ([] : List UInt8).length lc; simp) (by rw [← HW2.out]; exact H0.out.keep (below_oneF _ _)) (by simp) ?_)
    intro v3 w3 hacc
    obtain ⟨ln, hln⟩ : ∃ ln : List UInt8, ln = [] := ⟨_, rfl⟩
    have HACC := Box.mk (show AccB W2 w3 v3 ln by rw [hln]; exact hacc)
    have hll : ln.length ≤ 1001 := by rw [hln]; simp
    have HLN := Box.mk hln
    clear hacc hln HE
    go_wp2_with (at_builtin; refine wpList_append_accb _ rfl _ _ rfl rfl (HACC.out.keep ((Below.refl _ _).alloc (Nat.le_refl _) _)) rfl (y := x) ?c1 ?c2 ?c3)
    case c1 => simp
    case c2 => omega
    case c3 =>
      intro gl cap w4 hacc
      have HC4 := Box.mk (HC.out.keep hacc.2)
      obtain ⟨hd0, hd1, hd2, hd3⟩ := (HC4.out.setV (u := .slice (some ⟨gl, 0, none⟩) (ln.length + 1) cap)).cells
      have HR4 := Box.mk ((hR.out.keep hacc.2).other (x := ⟨w.heap.size, 3, none⟩) (u := .slice (some ⟨gl, 0, none⟩) (ln.length + 1) cap) (by show w.heap.size + 1 ≠ w.heap.size; omega))
      have HO4 := Box.mk (ownsB_setC (g := w.heap.size) (i := 3) (u := .slice (some ⟨gl, 0, none⟩) (ln.length + 1) cap) hacc.1 (by have := HSZ.out; omega))
      have HB4 := Box.mk ((below_trans HB0.out hacc.2).setCell (p := ⟨w.heap.size, 3, none⟩) (Nat.le_refl _) (.slice (some ⟨gl, 0, none⟩) (ln.length + 1) cap))
      clear hacc HACC
      by_cases hlong : 128 < ln.length + 1 ∧ ¬ x = 13
      · have HP := Box.mk (byteS_long (s := ⟨p, l, t, []⟩) (t := t) hcr hx (by have h8 := hlong.1; rw [HLN.out] at h8; exact h8) hlong.2)
        have h128 := hlong.1
        have e13 : ((x.toNat : Int) != 13) = true := by
          rw [bne_iff_ne]; intro e; exact hlong.2 (UInt8.toNat_inj.1 (by rw [show (13 : UInt8).toNat = 13 from rfl]; omega))
        clear hlong hx hcr
        go_wp2_with (first | (refine wpList_store_slice rfl _ _ _ rfl rfl rfl (by kernel_rfl) HC4.out.cells.2.2.2 HC4.out.frozen ?_) | (refine wpList_store_row rfl 27 _ _ rfl (w.heap.size + 1) #[.int .i64 p, .int .i64 l, .int .i64 t, .slice (some ⟨gl, 0, none⟩) (ln.length + 1) cap] rfl rfl 27 _ HR4.out sizeC rfl (oneC _ _ _ _ _ _) ?_))
        (try simp only [Exit.inBlock, Exit.then])
        refine bodyPost_ret (results_row_tmpF rfl _ _ (w.heap.size + 1) _ _ _ _ rfl (setRow_heap _ _ _ _ _ _ HR4.out) Tryd.underlying27 rfl sizeC) rfl ?_
        exact RetStep.err rfl HP.out (by decide) (below_setRow HB4.out (by omega) _)
      · have HP := Box.mk (show byteS ⟨p, l, t, []⟩ t x = (0, ⟨p, l, t, ln ++ [x]⟩) by
          have hlong2 := hlong
          rw [HLN.out] at hlong2 ⊢
          exact byteS_more hcr hx hlong2)
        by_cases h128 : 128 < ln.length + 1
        · have e13 : ((x.toNat : Int) != 13) = false := by
            have hx13 : x = 13 := Decidable.byContradiction fun h => hlong ⟨h128, h⟩
            rw [hx13]; rfl
          clear hlong hx hcr
          go_wp2_with (first | (refine wpList_store_slice rfl _ _ _ rfl rfl rfl (by kernel_rfl) HC4.out.cells.2.2.2 HC4.out.frozen ?_) | (refine wpList_store_row rfl 27 _ _ rfl (w.heap.size + 1) #[.int .i64 p, .int .i64 l, .int .i64 t, .slice (some ⟨gl, 0, none⟩) (ln.length + 1) cap] rfl rfl 27 _ HR4.out sizeC rfl (oneC _ _ _ _ _ _) ?_))
          (try simp only [Exit.inBlock, Exit.then])
          refine bodyPost_ret (results_row_tmpF rfl _ _ (w.heap.size + 1) _ _ _ _ rfl (setRow_heap _ _ _ _ _ _ HR4.out) Tryd.underlying27 rfl sizeC) rfl ?_
          exact RetStep.ok rfl HP.out (by simp) (HO4.out.setR (by have := HSZ.out; omega)).bytes (below_setRow HB4.out (by omega) _)
        · clear hlong hx hcr
          go_wp2_with (first | (refine wpList_store_slice rfl _ _ _ rfl rfl rfl (by kernel_rfl) HC4.out.cells.2.2.2 HC4.out.frozen ?_) | (refine wpList_store_row rfl 27 _ _ rfl (w.heap.size + 1) #[.int .i64 p, .int .i64 l, .int .i64 t, .slice (some ⟨gl, 0, none⟩) (ln.length + 1) cap] rfl rfl 27 _ HR4.out sizeC rfl (oneC _ _ _ _ _ _) ?_))
          (try simp only [Exit.inBlock, Exit.then])
          refine bodyPost_ret (results_row_tmpF rfl _ _ (w.heap.size + 1) _ _ _ _ rfl (setRow_heap _ _ _ _ _ _ HR4.out) Tryd.underlying27 rfl sizeC) rfl ?_
          exact RetStep.ok rfl HP.out (by simp) (HO4.out.setR (by have := HSZ.out; omega)).bytes (below_setRow HB4.out (by omega) _)

set_option maxRecDepth 100000 in
set_option maxHeartbeats 4000000 in
theorem refStep_nil3 (l t : Int) (la : Option Addr) (x : UInt8) (lc : Nat) (w : World) (h : IsBytes w la [] lc) (ht0 : 0 ≤ t) (ht : t + 1 ≤ 1024) :
    Calls Tryd.prog 26 #[.agg #[.int .i64 3, .int .i64 l, .int .i64 t, .slice la 0 lc], .int .u8 x.toNat] w (RetStep w (byteS ⟨3, l, t, []⟩ (t + 1) x)) := by
  obtain ⟨W2, hW2⟩ : ∃ W2, W2 = (w.alloc (.cells #[.int .i64 3, .int .i64 l, .int .i64 (t + 1), .slice la 0 lc] 27)).alloc (.cells #[.int .i64 0, .int .i64 0, .int .i64 0, .slice none 0 0] 27) := ⟨_, rfl⟩
  have hsz2 : W2.heap.size = w.heap.size + 1 + 1 := by rw [hW2, World.size_alloc, World.size_alloc]
  have hb0 : Below w.heap.size w W2 := by rw [hW2]; exact below_twoF (below_oneF w _) _
  have H0 := Box.mk (h.keep hb0)
  have HB0 := Box.mk hb0
  have hcr : crB [] = false := rfl
  have hR := Box.mk (show CVar W2 (w.heap.size + 1) 0 0 0 (.slice none 0 0) by
    have h := heap_alloc_new (w.alloc (.cells #[.int .i64 3, .int .i64 l, .int .i64 (t + 1), .slice la 0 lc] 27)) (.cells #[.int .i64 0, .int .i64 0, .int .i64 0, .slice none 0 0] 27)
    rw [World.size_alloc] at h; rw [hW2]; exact h)
  have HC := Box.mk (show CVar W2 w.heap.size 3 l (t + 1) (.slice la 0 lc) by
    rw [hW2]; exact CVar.keep (heap_alloc_new _ _) (below_oneF _ _))
  have HE := Box.mk (show AccB W2 (W2.alloc (.cells #[] 5)) (.slice (some ⟨w.heap.size + 1 + 1, 0, none⟩) 0 0) [] by rw [← hsz2]; exact AccB.empty W2)
  have HSZ := Box.mk hsz2
  have HW2 := Box.mk hW2
  clear h hb0 hW2 hsz2
  by_cases hx : x = 10
  · subst hx
    have HP := Box.mk (byteS_ten (s := ⟨3, l, t, []⟩) (t := (t + 1)) hcr)
    clear hcr HE 
    rw [show (10 : UInt8).toNat = 10 from rfl]
    go_enter Tryd.func26, Tryd.ntmps26
    have hR' := hR
    rw [HW2.out] at hR'
    go_wp2_with (refine wpList_store_row rfl 27 _ _ rfl (w.heap.size + 1) #[.int .i64 3, .int .i64 l, .int .i64 (t + 1), .slice la 0 lc] rfl rfl 27 _ hR'.out sizeC rfl (oneC _ _ _ _ _ _) ?_)
    (try simp only [Exit.inBlock, Exit.then])
    refine bodyPost_ret (results_row_tmpF rfl _ _ (w.heap.size + 1) _ _ _ _ rfl (setRow_heap _ _ _ _ _ _ hR'.out) Tryd.underlying27 rfl sizeC) rfl ?_
    exact RetStep.err rfl HP.out (by decide) (below_setRow (by rw [← HW2.out]; exact HB0.out) (by omega) _)
  · have e10 : ((x.toNat : Int) == 10) = false := by
      rw [beq_eq_false_iff_ne]; intro e; exact hx (UInt8.toNat_inj.1 (by rw [show (10 : UInt8).toNat = 10 from rfl]; omega))
    go_enter Tryd.func26, Tryd.ntmps26
    go_wp2_with (at_builtin; refine wpList_append_accs _ rfl _ _ rfl rfl (by rw [← HW2.out]; exact HE.out) (by show Value.slice la 0 lc = .slice la ([] : List UInt8).length lc; simp) (by rw [← HW2.out]; exact H0.out.keep (below_oneF _ _)) (by simp) ?_)
    intro v3 w3 hacc
    obtain ⟨ln, hln⟩ : ∃ ln : List UInt8, ln = [] := ⟨_, rfl⟩
    have HACC := Box.mk (show AccB W2 w3 v3 ln by rw [hln]; exact hacc)
    have hll : ln.length ≤ 1001 := by rw [hln]; simp
    have HLN := Box.mk hln
    clear hacc hln HE
    go_wp2_with (at_builtin; refine wpList_append_accb _ rfl _ _ rfl rfl (HACC.out.keep ((Below.refl _ _).alloc (Nat.le_refl _) _)) rfl (y := x) ?c1 ?c2 ?c3)
    case c1 => simp
    case c2 => omega
    case c3 =>
      intro gl cap w4 hacc
      have HC4 := Box.mk (HC.out.keep hacc.2)
      obtain ⟨hd0, hd1, hd2, hd3⟩ := (HC4.out.setV (u := .slice (some ⟨gl, 0, none⟩) (ln.length + 1) cap)).cells
      have HR4 := Box.mk ((hR.out.keep hacc.2).other (x := ⟨w.heap.size, 3, none⟩) (u := .slice (some ⟨gl, 0, none⟩) (ln.length + 1) cap) (by show w.heap.size + 1 ≠ w.heap.size; omega))
      have HO4 := Box.mk (ownsB_setC (g := w.heap.size) (i := 3) (u := .slice (some ⟨gl, 0, none⟩) (ln.length + 1) cap) hacc.1 (by have := HSZ.out; omega))
      have HB4 := Box.mk ((below_trans HB0.out hacc.2).setCell (p := ⟨w.heap.size, 3, none⟩) (Nat.le_refl _) (.slice (some ⟨gl, 0, none⟩) (ln.length + 1) cap))
      clear hacc HACC
      by_cases hlong : 128 < ln.length + 1 ∧ ¬ x = 13
      · have HP := Box.mk (byteS_long (s := ⟨3, l, t, []⟩) (t := (t + 1)) hcr hx (by have h8 := hlong.1; rw [HLN.out] at h8; exact h8) hlong.2)
        have h128 := hlong.1
        have e13 : ((x.toNat : Int) != 13) = true := by
          rw [bne_iff_ne]; intro e; exact hlong.2 (UInt8.toNat_inj.1 (by rw [show (13 : UInt8).toNat = 13 from rfl]; omega))
        clear hlong hx hcr
        go_wp2_with (first | (refine wpList_store_slice rfl _ _ _ rfl rfl rfl (by kernel_rfl) HC4.out.cells.2.2.2 HC4.out.frozen ?_) | (refine wpList_store_row rfl 27 _ _ rfl (w.heap.size + 1) #[.int .i64 3, .int .i64 l, .int .i64 (t + 1), .slice (some ⟨gl, 0, none⟩) (ln.length + 1) cap] rfl rfl 27 _ HR4.out sizeC rfl (oneC _ _ _ _ _ _) ?_))
        (try simp only [Exit.inBlock, Exit.then])
        refine bodyPost_ret (results_row_tmpF rfl _ _ (w.heap.size + 1) _ _ _ _ rfl (setRow_heap _ _ _ _ _ _ HR4.out) Tryd.underlying27 rfl sizeC) rfl ?_
        exact RetStep.err rfl HP.out (by decide) (below_setRow HB4.out (by omega) _)
      · have HP := Box.mk (show byteS ⟨3, l, t, []⟩ (t + 1) x = (0, ⟨3, l, (t + 1), ln ++ [x]⟩) by
          have hlong2 := hlong
          rw [HLN.out] at hlong2 ⊢
          exact byteS_more hcr hx hlong2)
        by_cases h128 : 128 < ln.length + 1
        · have e13 : ((x.toNat : Int) != 13) = false := by
            have hx13 : x = 13 := Decidable.byContradiction fun h => hlong ⟨h128, h⟩
            rw [hx13]; rfl
          clear hlong hx hcr
          go_wp2_with (first | (refine wpList_store_slice rfl _ _ _ rfl rfl rfl (by kernel_rfl) HC4.out.cells.2.2.2 HC4.out.frozen ?_) | (refine wpList_store_row rfl 27 _ _ rfl (w.heap.size + 1) #[.int .i64 3, .int .i64 l, .int .i64 (t + 1), .slice (some ⟨gl, 0, none⟩) (ln.length + 1) cap] rfl rfl 27 _ HR4.out sizeC rfl (oneC _ _ _ _ _ _) ?_))
          (try simp only [Exit.inBlock, Exit.then])
          refine bodyPost_ret (results_row_tmpF rfl _ _ (w.heap.size + 1) _ _ _ _ rfl (setRow_heap _ _ _ _ _ _ HR4.out) Tryd.underlying27 rfl sizeC) rfl ?_
          exact RetStep.ok rfl HP.out (by simp) (HO4.out.setR (by have := HSZ.out; omega)).bytes (below_setRow HB4.out (by omega) _)
        · clear hlong hx hcr
          go_wp2_with (first | (refine wpList_store_slice rfl _ _ _ rfl rfl rfl (by kernel_rfl) HC4.out.cells.2.2.2 HC4.out.frozen ?_) | (refine wpList_store_row rfl 27 _ _ rfl (w.heap.size + 1) #[.int .i64 3, .int .i64 l, .int .i64 (t + 1), .slice (some ⟨gl, 0, none⟩) (ln.length + 1) cap] rfl rfl 27 _ HR4.out sizeC rfl (oneC _ _ _ _ _ _) ?_))
          (try simp only [Exit.inBlock, Exit.then])
          refine bodyPost_ret (results_row_tmpF rfl _ _ (w.heap.size + 1) _ _ _ _ rfl (setRow_heap _ _ _ _ _ _ HR4.out) Tryd.underlying27 rfl sizeC) rfl ?_
          exact RetStep.ok rfl HP.out (by simp) (HO4.out.setR (by have := HSZ.out; omega)).bytes (below_setRow HB4.out (by omega) _)
end Go.Proofs.YtbplpfcgmmflnaaDoor
