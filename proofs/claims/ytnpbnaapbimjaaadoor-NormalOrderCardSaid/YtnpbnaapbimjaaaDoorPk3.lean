/- A region that draws its order, in phases, where an operation may read a slot that a later one writes. Normalized fields: the reference's Fields. Normalized fields by a map: mathematics. The landed normal: the values of each name in a map of slices. The landed normal: which fields are compared; the step of a range over the groups; an own slice of fields or strings that the library sorts. What the library's sort does with the call's own slice of fields, in words of Go's document. The landed normal.Fields. Normalized fields by a map and the library's sort: mathematics. The library's sort at fields and at strings, and Compact at strings: by the shelf's contracts. The landed normal: its two contracts. The laws of package normal: made, awake. Plans: mathematics, and the reference's check of one. Plans: the reference's weight of a stage and verdict on a window; variables of small structs. The law NormalTwice. -/
import Derived.Test.YtnpbnaapbimjaaaDoorPk1
import Derived.Test.YtnpbnaapbimjaaaDoorPk2
import Derived.Deep.Quiet
import Derived.Deep.QuietTactic
import Derived.Tactics
import Derived.KernelRfl
import Derived.Below
import Derived.Test.YtnpbnaapbimjaaaDoorRows
import Derived.WalkKit
import Derived.WalkSpells
import Derived.WalkLawsBesides
import Derived.BigQuiet
import Derived.Lib.Bytealg
import Derived.Lib.IndexLaws
import Derived.Lib.Hide
import Derived.ProofKit
import Derived.OpenShut
import Derived.Laws.IdiomStrings
import Derived.Lib.Strings
import Derived.Laws.Bits64
import Derived.Deep.AppendLies
import Derived.SliceStrings
import Derived.Lib.SlBytesConst
import Derived.Maps.AppendAt
import Derived.Laws.AppendOwnNone
import Derived.Great.BuildSlice
import Derived.Laws.Rows
import Derived.Lib.SlTrimSet
import Derived.Lib.IndexBytes
import Derived.Lib.Split
import Derived.Shelf.SlGeneric
import Derived.Shelf.Strings.SlTrimAscii
import Derived.Shelf.Strings.SplitShaped
import Derived.Shelf.LaysM
import Derived.Shelf.Strings.BuilderK
import Derived.Shelf.Strconv.Itoa4
import Derived.Shelf.Strings.Builder2
import Derived.Shelf.SlLaysF0
import Derived.Shelf.SlLaysM
import Derived.Shelf.SlLaysN
import Derived.Ground.SlsfProg
import Derived.Ground.SlgmProg
import Derived.Ground.SlgnProg
import Derived.Test.YtnpbnaapbimjaaaDoorProg
import Derived.Lib.SplitLaws
import Derived.WalkSmall
import Derived.Laws.BitsAllLaws
import Derived.Laws.Shifts
import Derived.Maps.OwnOps
import Derived.Maps.OwnSet
import Derived.Deep.SlicePairs
import Derived.Lib.AppendZerosOnto
import Derived.Lib.AppendStr
import Derived.Laws.CopyOwn
import Derived.OwnWalk
import Derived.Laws.Strings3
import Derived.Laws.Concat
import Derived.Lib.ItoaMem
import Derived.Deep.RegionHeld3
import Derived.IntWalk
import Derived.Sort.Grow
import Derived.Lib.LaidTab
import Derived.LaidSub
import Derived.Sort.Walk0
import Derived.Laws.OwnMore
import Derived.ArgAppend
import Derived.Shelf.Strings.OnBuilder
import Derived.Laws.Tables
import Derived.Maps.RangeWalk
import Derived.Lib.SlicesCompact
import Derived.Shelf.SlSortCmp.Insertion
import Derived.Sort.Statements
import Derived.Shelf.SlSortCmp.WholeK
import Derived.Shelf.SlSortCmp.NoneTotal
import Derived.Shelf.SortM.Plain
import Derived.Shelf.SlicesG.CompactS
import Derived.Shelf.Small.Strs
import Derived.Sort.OwnSorted
import Derived.Deep.DeepCutAuto
import Derived.Deep.CutBlock
namespace Go.Proofs.YtnpbnaapbimjaaaDoor
open Go.RowKit

/-- Slot k is written by an operation that need not wait for operation i. -/
def isDstI (ops : Array Oper) (i k : Nat) : Bool := (List.range ops.size).any fun j => ((ops[j]?).bind (·.dst) == some k) && (!decide (j = i) && !(match ops[j]? with | some o => waitsFor o i | none => false))
/-- The frame when operation i comes up. -/
structure FrW (ops : Array Oper) (i : Nat) (a0 a : Act) : Prop where
  defers : a.defers = a0.defers
  size : a.tmps.size = a0.tmps.size
  base : ∀ k, isDstI ops i k = false → a.eval (.tmp k) = a0.eval (.tmp k)
/-- The frame after the operations that m marks. -/
structure FrM (ops : Array Oper) (m : Array Bool) (a0 a : Act) : Prop where
  defers : a.defers = a0.defers
  size : a.tmps.size = a0.tmps.size
  base : ∀ k, (∀ j o, ops[j]? = some o → o.dst = some k → m.getD j false = false) → a.eval (.tmp k) = a0.eval (.tmp k)
theorem FrM.plain {ops : Array Oper} {m : Array Bool} {a0 a : Act} (h : FrM ops m a0 a) : Fr ops a0 a := ⟨h.defers, h.size, fun k hk => h.base k fun j o ho hd => by
  have : isDst ops k = true := by
    unfold isDst
    exact List.any_eq_true.2 ⟨o, Array.mem_toList_iff.2 (Array.mem_of_getElem? ho), by rw [hd]; simp⟩
  rw [hk] at this; cases this⟩
theorem FrM.at {ops : Array Oper} {m : Array Bool} {a0 a : Act} {i : Nat} (h : FrM ops m a0 a) (hmi : m.getD i false = false) (hcl : ∀ j o, ops[j]? = some o → m.getD j false = true → ∀ i, waitsFor o i = true → m.getD i false = true) : FrW ops i a0 a :=
  ⟨h.defers, h.size, fun k hk => h.base k fun j o ho hd => by
    by_cases hji : j = i
    · subst hji; exact hmi
    · by_cases hw : waitsFor o i = true
      · cases hm : m.getD j false with
        | false => rfl
        | true => rw [hcl j o ho hm i hw] at hmi; cases hmi
      · exfalso
        have : isDstI ops i k = true := by
          unfold isDstI
          exact List.any_eq_true.2 ⟨j, List.mem_range.2 (Array.getElem?_eq_some_iff.1 ho).1, by simp only [ho, Option.bind_some, hd]; simp [hji, hw]⟩
        rw [hk] at this; cases this⟩
theorem frM_put {ops : Array Oper} {m : Array Bool} {a0 a : Act} {o : Oper} {i : Nat} (ho : ops[i]? = some o) (him : i < m.size) (h : FrM ops m a0 a) (v : Value) : FrM ops (m.setIfInBounds i true) a0 (a.put o.dst v) := by
  refine ⟨?_, ?_, fun k hk => ?_⟩
  · have := h.defers
    cases o.dst <;> simpa [Act.put] using this
  · have := h.size
    cases o.dst <;> simpa [Act.put] using this
  · have hne : o.dst ≠ some k := fun e => by
      have := hk i o ho e
      simp [him] at this
    rw [eval_put_other hne, h.base k fun j oj hoj hd => by
      have h2 := hk j oj hoj hd
      by_cases hji : j = i
      · subst hji
        obtain rfl := Option.some.inj (ho.symm.trans hoj)
        exact absurd hd hne
      · rwa [getD_set_ne false (fun e => hji e.symm)] at h2]
def StepIW (P : Program) (Q : Exit → Act → World → Prop) (ops : Array Oper) (S : List Spec) (Inv : World → Prop) (a0 : Act) (i : Nat) (o : Oper) (s : Spec) : Prop :=
  ∀ a w, Inv w → FrW ops i a0 a → (∀ j, waitsFor o j = true → Holds ops S a w j) →
    Region.wanted o (yielded ops a.tmps) = true ∧ o.wp P a w (fun a' w' => ∃ v, a' = a.put o.dst v ∧ Below w.heap.size w w' ∧ s.p v w') Q
def SidesIW (P : Program) (Q : Exit → Act → World → Prop) (ops : Array Oper) (S : List Spec) (Inv : World → Prop) (a0 : Act) : List Nat → Prop
  | i :: r => (match ops[i]?, S[i]? with | some o, some s => StepIW P Q ops S Inv a0 i o s | _, _ => False) ∧ SidesIW P Q ops S Inv a0 r
  | [] => True
def ChainIW (P : Program) (Q : Exit → Act → World → Prop) (ops : Array Oper) (S S' : List Spec) (Inv Inv' : World → Prop) (a0 : Act) (c : Nat) : Prop :=
  match ops[c]?, S'[c]? with
  | some o, some s => ∀ a w, Inv w → FrW ops c a0 a → (∀ j, waitsFor o j = true → Holds ops S a w j) →
      Region.wanted o (yielded ops a.tmps) = true ∧ o.wp P a w (fun a' w' => ∃ v, a' = a.put o.dst v ∧ Inv' w' ∧ s.p v w' ∧ Over ops a w w' c 0 S S') Q
  | _, _ => False
section
variable {P : Program} {Q : Exit → Act → World → Prop} {ops : Array Oper} {a0 : Act} {w0 : World}
theorem sidesIW_at {S : List Spec} {Inv : World → Prop} : ∀ {l : List Nat}, SidesIW P Q ops S Inv a0 l → ∀ i, i ∈ l → ∀ o, ops[i]? = some o → ∃ s, S[i]? = some s ∧ StepIW P Q ops S Inv a0 i o s
  | k :: r, h, i, hi, o, ho => by
    rcases List.mem_cons.1 hi with rfl | hi
    · have := h.1
      rw [ho] at this
      cases hs : S[i]? with
      | none => rw [hs] at this; exact this.elim
      | some s => rw [hs] at this; exact ⟨s, rfl, this⟩
    · exact sidesIW_at h.2 i hi o ho
theorem wp_region_phasesW {id : Nat} (chain : List Nat) (sides : Nat → List Nat) (S : Nat → List Spec) (Inv : Nat → World → Prop) (hm : P.follows .mixedOrders = true)
    (hB : (List.range ops.size).all (fun i => match ops[i]? with | some x => x.after.all (fun e => !Region.binds .any e || decide (e.on < i)) | none => true) = true)
    (hd : dstsOk ops a0.tmps.size = true) (hc : chainB ops chain = true) (hlt : chain.all (fun c => decide (c < ops.size)) = true) (hsB : (List.range (chain.length + 1)).all (fun p => sidesB ops chain chain.length (sides p) p) = true)
    (hI : ∀ p w w', Inv p w → Below w.heap.size w w' → Inv p w') (h0 : Inv 0 w0) (hS : ∀ p, p ≤ chain.length → SidesIW P Q ops (S p) (Inv p) a0 (sides p))
    (hC : ∀ p (hp : p < chain.length), ChainIW P Q ops (S p) (S (p + 1)) (Inv p) (Inv (p + 1)) a0 chain[p])
    (hQ : ∀ a w, Inv chain.length w → Fr ops a0 a → (∀ j, j < ops.size → Holds ops (S chain.length) a w j) → Q .normal a w) : (Code.region id ops true).wp P Q a0 w0 := by
  have hchain : ∀ p q (hp : p < chain.length) (hq : q < chain.length), p < q → beforeB ops ops.size chain[q] chain[p] = true ∧ chain[p] ≠ chain[q] := fun p q hp hq hpq => by
    have h1 := List.all_eq_true.1 (List.all_eq_true.1 hc p (List.mem_range.2 hp)) q (List.mem_range.2 hq)
    simp only [List.getElem?_eq_getElem hp, List.getElem?_eq_getElem hq, Bool.or_eq_true, Bool.and_eq_true, decide_eq_true_eq] at h1
    rcases h1 with h1 | h1
    · omega
    · exact ⟨h1.1.1.1, h1.1.1.2⟩
  refine wp_region_inv hm (fun m a w => FrM ops m a0 a ∧ (∀ j o, ops[j]? = some o → m.getD j false = true → ∀ i, waitsFor o i = true → m.getD i false = true) ∧
    ∃ p, p ≤ chain.length ∧ (∀ q (hq : q < chain.length), m.getD chain[q] false = decide (q < p)) ∧ Inv p w ∧ ∀ j, m.getD j false = true → Holds ops (S p) a w j) ?_ ?_ ?_
  · rintro m a w hs ⟨hf, hcl, p, hp, hph, hinv, hh⟩ i hi
    obtain ⟨h1, o, ho, hall⟩ := mem_ready.1 hi
    have hil : i < ops.size := (Array.getElem?_eq_some_iff.1 ho).1
    have him : i < m.size := by rw [hs]; exact hil
    have hmi : m.getD i false = false := by simp [him] at h1 ⊢; exact h1
    have hdeps : ∀ j, waitsFor o j = true → m.getD j false = true := fun j hj => by
      obtain ⟨e, he, h2⟩ := List.any_eq_true.1 hj
      simp only [Bool.and_eq_true, beq_iff_eq] at h2
      obtain ⟨h3, rfl⟩ := h2
      exact hall e (Array.mem_toList_iff.1 he) h3
    have hcl' : ∀ j o, ops[j]? = some o → (m.setIfInBounds i true).getD j false = true → ∀ k, waitsFor o k = true → (m.setIfInBounds i true).getD k false = true := fun j oj hoj hj k hk => by
      by_cases hji : j = i
      · subst hji
        obtain rfl : o = oj := Option.some.inj (ho.symm.trans hoj)
        exact getD_set_true (hdeps k hk)
      · rw [getD_set_ne false (fun e => hji e.symm)] at hj
        exact getD_set_true (hcl j oj hoj hj k hk)
    unfold wpOp
    simp only [ho]
    by_cases hic : i ∈ chain
    · obtain ⟨q, hq, rfl⟩ := List.getElem_of_mem hic
      have hqp : p ≤ q := by
        have := hph q hq
        rw [hmi] at this
        have := of_decide_eq_false this.symm
        omega
      have hqe : q = p := by
        rcases Nat.lt_or_ge p q with h2 | h2
        · exfalso
          have h3 := before_ready hcl ho hdeps (hchain p q (by omega) hq h2).1
          rw [hph p (by omega)] at h3
          simp at h3
        · omega
      subst hqe
      have hCp := hC q hq
      unfold ChainIW at hCp
      rw [ho] at hCp
      cases hsc : (S (q + 1))[chain[q]]? with
      | none => rw [hsc] at hCp; exact hCp.elim
      | some s =>
        rw [hsc] at hCp
        simp only at hCp
        obtain ⟨hw, hwp⟩ := hCp a w hinv (hf.at hmi hcl) fun j hj => hh j (hdeps j hj)
        rw [if_pos hw]
        refine .inl (Oper.wp_mono ?_ hwp)
        rintro a' w' ⟨v, rfl, hinv', hsp, hov⟩
        refine ⟨frM_put ho him hf v, hcl', q + 1, hq, fun r hr => ?_, hinv', fun j hj => ?_⟩
        · by_cases hrq : r = q
          · subst hrq
            simp [him]
          · have hne : chain[q] ≠ chain[r] := by
              rcases Nat.lt_or_ge q r with h2 | h2
              · exact (hchain q r hq hr h2).2
              · exact fun e => (hchain r q hr hq (by omega)).2 e.symm
            rw [getD_set_ne false hne, hph r hr]
            by_cases hrl : r < q
            · simp [hrl, show r < q + 1 by omega]
            · simp [hrl, show ¬ r < q + 1 by omega]
        · by_cases hji : j = chain[q]
          · subst hji
            unfold Holds
            simp only [ho, hsc]
            cases hdo : o.dst with
            | none => trivial
            | some d =>
              show s.p ((a.put (some d) v).eval (.tmp d)) w'
              rw [eval_put_same]
              · exact hsp
              · rw [hf.size]; exact (dsts_lt hd ho hdo).1
          · have hj' : m.getD j false = true := by rw [getD_set_ne false (fun e => hji e.symm)] at hj; exact hj
            have h5 := holds_put (a := a) (v := v) hd ho hji (hh j hj')
            unfold Holds at *
            cases hoj : ops[j]? with
            | none => simp
            | some o' =>
              cases hsj : (S (q + 1))[j]? with
              | none => simp
              | some s' =>
                obtain ⟨s0, hs0, himp⟩ := over_at hov j s' hsj (by omega)
                simp only [hoj, hs0] at h5
                simp only
                cases hdo : o'.dst with
                | none => trivial
                | some d =>
                  simp only [hdo] at h5
                  refine himp _ (fun o2 d2 ho2 hd2 => ?_) h5
                  rw [Nat.zero_add, hoj] at ho2
                  obtain rfl := Option.some.inj ho2
                  rw [hdo] at hd2
                  obtain rfl := Option.some.inj hd2
                  exact eval_put_other fun e => (dsts_lt hd ho e).2 j o' hoj hji hdo
    · have hside : i ∈ sides p := by
        have := List.all_eq_true.1 (List.all_eq_true.1 hsB p (List.mem_range.2 (by omega))) i (List.mem_range.2 hil)
        simp only [Bool.or_eq_true, List.contains_iff_mem, List.any_eq_true] at this
        rcases this with (h2 | h2) | ⟨q, hq, h2⟩
        · exact absurd h2 hic
        · exact h2
        · exfalso
          have hql := List.mem_range.1 hq
          rw [List.getElem?_eq_getElem hql] at h2
          simp only at h2
          by_cases hqp : q < p
          · rw [if_pos hqp] at h2
            have h3 := before_marked hcl _ _ _ h2 (by rw [hph q hql]; simp [hqp])
            rw [hmi] at h3; cases h3
          · rw [if_neg hqp] at h2
            have h3 := before_ready hcl ho hdeps h2
            rw [hph q hql] at h3
            simp [hqp] at h3
      obtain ⟨s, hsi, hstep⟩ := sidesIW_at (hS p hp) i hside o ho
      obtain ⟨hw, hwp⟩ := hstep a w hinv (hf.at hmi hcl) fun j hj => hh j (hdeps j hj)
      rw [if_pos hw]
      refine .inl (Oper.wp_mono ?_ hwp)
      rintro a' w' ⟨v, rfl, hb', hsp⟩
      refine ⟨frM_put ho him hf v, hcl', p, hp, fun r hr => ?_, hI p w w' hinv hb', fun j hj => ?_⟩
      · rw [getD_set_ne false (fun e => hic (by rw [e]; exact List.getElem_mem hr)), hph r hr]
      · by_cases hji : j = i
        · subst hji
          unfold Holds
          simp only [ho, hsi]
          cases hdo : o.dst with
          | none => trivial
          | some d =>
            show s.p ((a.put (some d) v).eval (.tmp d)) w'
            rw [eval_put_same]
            · exact hsp
            · rw [hf.size]; exact (dsts_lt hd ho hdo).1
        · have hj' : m.getD j false = true := by rw [getD_set_ne false (fun e => hji e.symm)] at hj; exact hj
          exact holds_put hd ho hji (holds_mono (hh j hj') hb')
  · rintro m a w hs ⟨hf, hcl, p, hp, hph, hinv, hh⟩ hr
    have hmarked : ∀ j, j < ops.size → m.getD j false = true := fun j => by
      induction j using Nat.strongRecOn with
      | _ j ih =>
        intro hj
        cases hmj : m.getD j false with
        | true => rfl
        | false =>
          exfalso
          have hoj : ops[j]? = some ops[j] := Array.getElem?_eq_getElem hj
          have hbk := List.all_eq_true.1 hB j (List.mem_range.2 hj)
          rw [hoj] at hbk
          simp only [Array.all_eq_true_iff_forall_mem, Bool.or_eq_true, Bool.not_eq_true', decide_eq_true_eq] at hbk
          have hlt : ∀ e ∈ ops[j].after, Region.binds .any e = true → e.on < j := fun e he hbd => by
            rcases hbk e he with h | h
            · rw [hbd] at h; cases h
            · exact h
          have : j ∈ Region.ready .any ops m := mem_ready.2 ⟨by
            have hs' : j < m.size := by rw [hs]; exact hj
            simp [hs'] at hmj ⊢; exact hmj, ops[j], hoj, fun e he hbd => ih _ (hlt e he hbd) (by have := hlt e he hbd; omega)⟩
          rw [hr] at this; cases this
    have hpe : p = chain.length := by
      rcases Nat.lt_or_ge p chain.length with h2 | h2
      · exfalso
        have h3 := hph p h2
        have h4 := hmarked chain[p] (of_decide_eq_true (List.all_eq_true.1 hlt _ (List.getElem_mem h2)))
        rw [h4] at h3
        simp at h3
      · omega
    subst hpe
    exact hQ a w hinv hf.plain fun j hj => hh j (hmarked j hj)
  · have hz : ∀ j, (Array.replicate ops.size false).getD j false = false := fun j => by
      simp only [Array.getD_eq_getD_getElem?, Array.getElem?_replicate]; split <;> rfl
    refine ⟨⟨rfl, rfl, fun _ _ => rfl⟩, fun j o _ hj => (by rw [hz] at hj; cases hj), 0, Nat.zero_le _, fun q _ => by rw [hz]; rfl, hI 0 w0 _ h0 (Below.refl _ _).drew, fun j hj => (by rw [hz] at hj; cases hj)⟩

end
end Go.Proofs.YtnpbnaapbimjaaaDoor
namespace Go.Proofs.YtnpbnaapbimjaaaDoor
open Go.RowKit
set_option linter.unusedSimpArgs false
set_option linter.unusedVariables false

/-- The call returns a slice that reads as the fields l. -/
def RetFldC (w : World) (l : List Fld) (e : Ending) (w' : World) : Prop := ∃ a c, e = .returned (.slice a l.length c) ∧ FldsC w' a l c ∧ l.length ≤ c ∧ Below w.heap.size w w'
def Spec.fslN (f : Fld) : Spec := ⟨fun v w => ∃ b c, v = .slice (some ⟨b, 0, none⟩) 1 c ∧ w.cell? ⟨b, 0, none⟩ = some (.string f.1) ∧ w.cell? ⟨b, 1, none⟩ = some (.string f.2), fun _ _ _ h hb => by
  obtain ⟨b, c, h1, h2, h3⟩ := h
  exact ⟨b, c, h1, below_cell hb h2, below_cell hb h3⟩⟩
def Spec.ownFN (B : Nat) (l : List Fld) : Spec := ⟨fun v w => OwnF B w v l, fun _ _ _ h hb => h.keep hb⟩
section
variable {Q : Exit → Act → World → Prop} {act : Act} {w : World} {o : Oper} {s : Spec} {K : Act → World → Prop}
theorem loc_slice1N {x : Operand} (ho : o.op = .buildSlice 23 1 #[(0, x)]) {f : Fld} (hx : act.eval x = .agg #[.string f.1, .string f.2]) (hs : ∀ v w', (∃ b c, v = .slice (some ⟨b, 0, none⟩) 1 c ∧ w'.cell? ⟨b, 0, none⟩ = some (.string f.1) ∧ w'.cell? ⟨b, 1, none⟩ = some (.string f.2)) → s.p v w') :
    o.wp Tryd.prog act w (fun a' w' => ∃ v, a' = act.put o.dst v ∧ Below w.heap.size w w' ∧ s.p v w') Q := by
  obtain ⟨i0, hi, hz0, hz1, hz2⟩ := info_parts Tryd.info27
  have hrun := run_buildSlice (P := Tryd.prog) w 23 27 1 #[(0, .agg #[.string f.1, .string f.2])] #[.string f.1, .string f.2] i0 _ Tryd.underlying23 hi hz0 (by rw [hz1]; decide) (by rw [hz1]; decide) (by rw [hz1]; simp [Instr.fill, Value.cells, Array.range_succ, show Array.range 0 = #[] from rfl])
  refine loc_run (v := .slice (some ⟨w.heap.size, 0, none⟩) 1 1) (w' := w.alloc (.cells #[.string f.1, .string f.2] 27)) ?_ (below_oneF _ _) (hs _ _ ⟨_, _, rfl, by rw [new_cellF]; rfl, by rw [new_cellF]; rfl⟩)
  unfold execOp
  simp only [ho, List.map_toArray, List.map_cons, List.map_nil, hx]
  rw [Sem.run_bind, hrun]; rfl
theorem loc_buildN {x y : Operand} (ho : o.op = .build 27 #[(0, x), (1, y)]) {b c : ByteArray} (hx : act.eval x = .string b) (hy : act.eval y = .string c) (hs : s.p (.agg #[.string b, .string c]) w) :
    o.wp Tryd.prog act w (fun a' w' => ∃ v, a' = act.put o.dst v ∧ Below w.heap.size w w' ∧ s.p v w') Q := by
  refine loc_run (v := .agg #[.string b, .string c]) ?_ (Below.refl _ _) hs
  have hb := run_build (P := Tryd.prog) w 27 #[(0, .string b), (1, .string c)] #[.string b, .string c] (by kernel_rfl)
  unfold execOp
  simp only [ho, List.map_toArray, List.map_cons, List.map_nil, hx, hy, Sem.run_bind, hb, Result.andThen_ok, Sem.run_pure]
theorem wp_append_oneN {x y : Operand} (ho : o.op = .call { callee := .builtin .append, args := #[x, y], argTypes := #[23, 23] }) {B : Nat} {l : List Fld} (hx : OwnF B w (act.eval x) l) {b c : Nat} {f : Fld} (hy : act.eval y = .slice (some ⟨b, 0, none⟩) 1 c)
    (h0 : w.cell? ⟨b, 0, none⟩ = some (.string f.1)) (h1 : w.cell? ⟨b, 1, none⟩ = some (.string f.2)) (hn : l.length + 1 ≤ 4398046511104) (hB : B ≤ w.heap.size)
    (h : ∀ v' w', OwnF B w' v' (l ++ [f]) → w.grownBy w' (act.eval x).ownBlock → K (act.put o.dst v') w') : o.wp Tryd.prog act w K Q := by
  obtain ⟨i0, hi, hz0, hz1, hz2⟩ := info_parts Tryd.info27
  refine wp_append_lies w x y 23 ho B 27 i0 _ 2 32 Tryd.underlying23 hi hz0 hz1 hz2 rfl (by decide) (act.eval x) l.length (cellsF l) rfl hx ⟨b, 0, none⟩ 1 c [.string f.1, .string f.2] hy rfl ?_ ?_ (by decide) (by unfold maxLen; omega) (by omega) hB w.heap.size rfl ?_
  · intro j u hj
    match j, hj with
    | 0, hj => simp at hj; subst hj; rw [Addr.add_lit]; exact h0
    | 1, hj => simp at hj; subst hj; rw [Addr.add_lit]; exact h1
    | j + 2, hj => simp at hj
  · intro u hu; simp at hu; rcases hu with rfl | rfl <;> rfl
  · intro g cap w' hown hgrow hg hlt
    refine h _ w' ?_ hgrow
    unfold OwnF
    rw [List.length_append, cellsF_app]; exact hown
theorem agg_strN (w : World) : (isAgg 9).run Tryd.prog w = .ok false w := by
  simp [isAgg, run_underlying Tryd.underlying9]
end
theorem total_without (l : List Fld) (ns : List ByteArray) (n : ByteArray) : total (valuesL (withoutL l ns) n) ≤ total (valuesL l n) := by
  cases h : inFoldL ns n
  · rw [valuesL_kept l ns n h]; exact Nat.le_refl _
  · rw [valuesL_gone l ns n h]; exact Nat.zero_le _
theorem total_kept (l : List Fld) (ig : List ByteArray) (n : ByteArray) : total (valuesL (keptN l ig) n) ≤ total (valuesL l n) :=
  Nat.le_trans (total_without _ _ _) (Nat.le_trans (total_without _ _ _) (total_without _ _ _))
theorem outN_len (k : List Fld) : (outN k).length ≤ k.length := by
  unfold outN
  rw [List.length_map]
  have := namesS_len (k.map fun f => lowS f.1)
  rwa [List.length_map] at this
end Go.Proofs.YtnpbnaapbimjaaaDoor
namespace Go.Proofs.YtnpbnaapbimjaaaDoor
open Go.RowKit
set_option linter.unusedSimpArgs false
set_option linter.unusedVariables false

/-- The values of a name, in lower case, as the landed code groups them. -/
def valsN (l : List Fld) (s : ByteArray) : List ByteArray := (l.filter fun f => (lowS f.1).toList == s.toList).map (·.2)
theorem valsN_low (l : List Fld) (g : Fld) : valsN l (lowS g.1) = valuesL l (lowS g.1) := by
  unfold valsN valuesL foldS
  congr 1
  refine List.filter_congr fun f _ => ?_
  rw [lowS_idem]
theorem valsN_app (l : List Fld) (f : Fld) (s : ByteArray) : valsN (l ++ [f]) s = if lowS f.1 = s then valsN l s ++ [f.2] else valsN l s := by
  unfold valsN
  rw [List.filter_append, List.map_append]
  by_cases e : lowS f.1 = s
  · have h : ((lowS f.1).toList == s.toList) = true := by rw [e]; simp
    rw [if_pos e]; simp [h]
  · rw [if_neg e]
    have : ((lowS f.1).toList == s.toList) = false := by
      rw [beq_eq_false_iff_ne]
      exact fun h => e (ba_eq.2 h)
    simp [this]
theorem valsN_len (l : List Fld) (s : ByteArray) : (valsN l s).length ≤ l.length := by
  unfold valsN
  rw [List.length_map]
  exact List.length_filter_le _ _
theorem withoutVD (x : List Fld) (ig : List ByteArray) : withoutL x ([⟨#[86, 105, 97]⟩, ⟨#[68, 97, 116, 101]⟩] ++ ig) = withoutL (withoutL x viaDate) ig := by
  unfold withoutL
  rw [List.filter_filter]
  refine List.filter_congr fun f _ => ?_
  rw [inFoldL_app]
  have : inFoldL [⟨#[86, 105, 97]⟩, ⟨#[68, 97, 116, 101]⟩] f.1 = inFoldL viaDate f.1 := by
    unfold inFoldL viaDate
    have e1 : ∀ s, foldS s ⟨#[86, 105, 97]⟩ = foldS s ⟨#[118, 105, 97]⟩ := fun s => by
      unfold foldS; rw [show lowS ⟨#[86, 105, 97]⟩ = lowS ⟨#[118, 105, 97]⟩ from by decide]
    have e2 : ∀ s, foldS s ⟨#[68, 97, 116, 101]⟩ = foldS s ⟨#[100, 97, 116, 101]⟩ := fun s => by
      unfold foldS; rw [show lowS ⟨#[68, 97, 116, 101]⟩ = lowS ⟨#[100, 97, 116, 101]⟩ from by decide]
    have e3 : ∀ s, foldS ⟨#[86, 105, 97]⟩ s = foldS ⟨#[118, 105, 97]⟩ s := fun s => by
      unfold foldS; rw [show lowS ⟨#[86, 105, 97]⟩ = lowS ⟨#[118, 105, 97]⟩ from by decide]
    have e4 : ∀ s, foldS ⟨#[68, 97, 116, 101]⟩ s = foldS ⟨#[100, 97, 116, 101]⟩ s := fun s => by
      unfold foldS; rw [show lowS ⟨#[68, 97, 116, 101]⟩ = lowS ⟨#[100, 97, 116, 101]⟩ from by decide]
    simp only [List.any_cons, List.any_nil, e1, e2, e3, e4]
  rw [this]
  cases inFoldL viaDate f.1 <;> cases inFoldL ig f.1 <;> rfl
end Go.Proofs.YtnpbnaapbimjaaaDoor
namespace Go.Proofs.YtnpbnaapbimjaaaDoor
open Go.RowKit
open Go.Maps (Keyed string_keyed)
set_option linter.unusedSimpArgs false
set_option linter.unusedVariables false

theorem keyedG : Keyed Tryd.prog 9 := string_keyed Tryd.underlying9
theorem zeroG (w : World) : (zeroValue 38).run Tryd.prog w = .ok (.slice none 0 0) w := by kernel_rfl
/-- How a value of the map reads: as itself. -/
def heldG (v : Value) : Option (DataW Value × List MemPlace) := some (.held v, [])
def keyG (s : ByteArray) : Lit := .string s.data.toList
theorem keyG_inj {s z : ByteArray} (h : keyG s = keyG z) : s = z := ba_ext (by unfold keyG at h; injection h)
def nilG : Value := .slice none 0 0
/-- Block b is a map which has the values of each name in lower case, each in a slice of its own. -/
structure GrpS (w : World) (b n : Nat) (l : List Fld) (D : DataW Value) (V : ByteArray → Value) : Prop where
  map : w.ownsMap Tryd.prog 9 heldG b n D
  at_ : ∀ s, D.atKey (keyG s) (.held nilG) = .held (V s)
  own : ∀ s, OwnS (b + 1) w (V s) (valsN l s)
  apart : ∀ s z g, (V s).ownBlock = some g → (V z).ownBlock = some g → s = z
  has : ∀ s, Go.Maps.has D (keyG s) = l.any fun f => (lowS f.1).toList == s.toList
theorem GrpS.lt {w : World} {b n : Nat} {l : List Fld} {D : DataW Value} {V : ByteArray → Value} (h : GrpS w b n l D V) : b < w.heap.size := h.map.lt
theorem GrpS.keep {w w' : World} {b n : Nat} {l : List Fld} {D : DataW Value} {V : ByteArray → Value} (h : GrpS w b n l D V) (hb : Below w.heap.size w w') : GrpS w' b n l D V :=
  ⟨h.map.kept (grownBy_below (row := none) hb) (by simp), h.at_, fun s => (h.own s).keep hb, h.apart, h.has⟩
theorem GrpS.made (w : World) : GrpS (w.alloc (.map #[] 0)) w.heap.size 0 [] (.map []) (fun _ => nilG) :=
  ⟨World.ownsMap_made _ _ _ _, fun s => rfl, fun s => OwnS.start _ _, fun s z g h => (by cases h), fun s => rfl⟩
theorem GrpS.step {w w4 w5 : World} {b n : Nat} {l : List Fld} {D : DataW Value} {V : ByteArray → Value} (h : GrpS w b n l D V) {f : Fld} {s : ByteArray} (hs : lowS f.1 = s) {v : Value} {g : Nat}
    (ho : OwnS (b + 1) w4 v (valsN l s ++ [f.2])) (hg : w.grownBy w4 (V s).ownBlock) (hv : v.ownBlock = some g) (hl : (V s).ownBlock = some g ∨ g = w.heap.size)
    (hm : w5.ownsMap Tryd.prog 9 heldG b (n + 1) (D.put (keyG s) (.held v))) (hg5 : w4.grownBy w5 (some b)) : GrpS w5 b (n + 1) (l ++ [f]) (D.put (keyG s) (.held v)) (fun z => if z = s then v else V z) := by
  have hD := h.map.isMap
  have hk : WideAt.IsKeyLit (keyG s) := trivial
  refine ⟨hm, fun z => ?_, fun z => ?_, fun y z q h1 h2 => ?_, fun z => ?_⟩
  · by_cases e : z = s
    · subst e
      rw [Maps.atKey_put_same hD hk, if_pos rfl]
    · rw [Maps.atKey_put_other (fun e2 => e (keyG_inj e2)), if_neg e, h.at_]
  · rw [valsN_app]
    by_cases e : z = s
    · subst e
      rw [if_pos rfl, if_pos hs]
      exact ho.grown hg5 fun k hk e2 => by have := (ho.lt hk).1; injection e2 with e2; omega
    · rw [if_neg e, if_neg (fun e2 => e (by rw [← e2, hs]))]
      have h1 := (h.own z).grown hg fun k hk e2 => e (h.apart z s k hk (e2.symm))
      exact h1.grown hg5 fun k hk e2 => by have := (h1.lt hk).1; injection e2 with e2; omega
  · by_cases ey : y = s
    · by_cases ez : z = s
      · rw [ey, ez]
      · rw [if_pos ey] at h1
        rw [if_neg ez] at h2
        rw [hv] at h1
        injection h1 with h1
        subst h1
        rcases hl with hl | hl
        · rw [ey]; exact h.apart s z _ hl h2
        · have := ((h.own z).lt h2).2; omega
    · rw [if_neg ey] at h1
      by_cases ez : z = s
      · rw [if_pos ez, hv] at h2
        injection h2 with h2
        subst h2
        rcases hl with hl | hl
        · rw [ez]; exact h.apart y s _ h1 hl
        · have := ((h.own y).lt h1).2; omega
      · rw [if_neg ez] at h2
        exact h.apart y z q h1 h2
  · rw [List.any_append]
    by_cases e : z = s
    · subst e
      rw [Maps.has_put_same hD hk]
      simp [hs]
    · rw [Maps.has_put_other (fun e2 => e (keyG_inj e2)), h.has]
      have : ((lowS f.1).toList == z.toList) = false := by
        rw [beq_eq_false_iff_ne]
        exact fun e2 => e (by rw [← hs]; exact (ba_eq.2 e2).symm)
      simp [this]
def GrpIn (w : World) (b n : Nat) (l : List Fld) : Prop := ∃ D V, GrpS w b n l D V
theorem GrpIn.keep {w w' : World} {b n : Nat} {l : List Fld} (h : GrpIn w b n l) (hb : Below w.heap.size w w') : GrpIn w' b n l := by
  obtain ⟨D, V, h⟩ := h; exact ⟨D, V, h.keep hb⟩

section
variable {ops : Array Oper} {rest : List Oper} {o : Oper} {act : Act} {Q : Exit → Act → World → Prop}
theorem wpList_lookup_grp (w : World) (hg : o.guard = none) (m x : Operand) (hop : o.op = Op.lookup 39 m x false) {b n : Nat} {l : List Fld} {D : DataW Value} {V : ByteArray → Value} {s : ByteArray}
    (hm : act.eval m = .map (some b)) (h : GrpS w b n l D V) (hx : act.eval x = .string s) (hs : s.size ≤ maxLen) (hK : wpList Tryd.prog ops Q rest (act.put o.dst (V s)) w) : wpList Tryd.prog ops Q (o :: rest) act w := by
  refine wpList_plain hg fun K' hK' => ?_
  obtain ⟨v, ps, hrun, hv⟩ := h.map.lookup (t := 39) (e := 38) keyedG Tryd.underlying39 (zeroG w) (zd := .held nilG) (zp := []) rfl (key := .string s) (kl := keyG s) (WideMaps.keyOf_string_mk Tryd.underlying9 hs)
  rw [h.at_] at hv
  have e : v = V s := by
    unfold heldG at hv
    simp only [Option.some.injEq, Prod.mk.injEq, DataW.held.injEq] at hv
    exact hv.1
  subst e
  unfold Oper.wp
  simp [execOp, hop, hm, hx, hrun, Result.andThen]
  exact hK' _ _ hK
theorem wpList_append_grp (w : World) (hgd : o.guard = none) (y x : Operand) (ho : o.op = .call { callee := .builtin .append, args := #[y, x], argTypes := #[38, 38] }) {B : Nat} {v : Value} {l : List ByteArray} (hy : act.eval y = v) (h : OwnS B w v l) {b c : Nat}
    (hx : act.eval x = .slice (some ⟨b, 0, none⟩) 1 c) {f : ByteArray} (h0 : w.cell? ⟨b, 0, none⟩ = some (.string f)) (hn : l.length + 1 ≤ 8000000) (hB : B ≤ w.heap.size)
    (hK : ∀ v' w' g, OwnS B w' v' (l ++ [f]) → w.grownBy w' v.ownBlock → v'.ownBlock = some g → (v.ownBlock = some g ∨ g = w.heap.size) → wpList Tryd.prog ops Q rest (act.put o.dst v') w') : wpList Tryd.prog ops Q (o :: rest) act w := by
  obtain ⟨i0, hi, hz0, hz1, hz2⟩ := info_parts Tryd.info9
  refine wpList_append_lies w hgd y x 38 ho B 9 i0 _ 1 16 Tryd.underlying38 hi hz0 hz1 hz2 rfl (by decide) v l.length (strV l) hy h ⟨b, 0, none⟩ 1 c [.string f] hx rfl ?_ ?_ (by decide) (by unfold maxLen; omega) (by omega) hB w.heap.size rfl ?_
  · intro j u hj
    match j, hj with
    | 0, hj => simp at hj; subst hj; rw [Addr.add_lit]; exact h0
    | j + 1, hj => simp at hj
  · intro u hu; simp at hu; rcases hu with rfl; rfl
  · intro g cap w' hown hgrow hg hlt
    refine hK _ w' g ?_ hgrow rfl hg
    unfold OwnS
    rw [List.length_append, strV_app]; exact hown
theorem wpList_update_grp (w : World) (hg : o.guard = none) (m x y : Operand) (hop : o.op = Op.mapUpdate 39 m x y) {w0 : World} {b n : Nat} {l : List Fld} {D : DataW Value} {V : ByteArray → Value} {s : ByteArray} {f : Fld} {v : Value} {g : Nat}
    (hm : act.eval m = .map (some b)) (h : GrpS w0 b n l D V) (hn : n < maxLen) (hx : act.eval x = .string s) (hs : s.size ≤ maxLen) (hsf : lowS f.1 = s) (hy : act.eval y = v)
    (ho : OwnS (b + 1) w v (valsN l s ++ [f.2])) (hg0 : w0.grownBy w (V s).ownBlock) (hv : v.ownBlock = some g) (hl : (V s).ownBlock = some g ∨ g = w0.heap.size)
    (hK : ∀ w', GrpIn w' b (n + 1) (l ++ [f]) → w.grownBy w' (some b) → wpList Tryd.prog ops Q rest (act.put o.dst undef) w') : wpList Tryd.prog ops Q (o :: rest) act w := by
  have hmap := h.map.kept hg0 (fun e => by have := ((h.own s).lt e.symm).1; omega)
  refine wpList_mapUpdate_own w hg m x y 39 hop 9 38 keyedG Tryd.underlying39 heldG b n D hm hmap hn (.string s) v (keyG s) hx hy (WideMaps.keyOf_string_mk Tryd.underlying9 hs) (.held v) [] rfl ?_
  intro w' h1 h2
  exact hK w' ⟨_, _, h.step hsf ho hg0 hv hl h1 h2⟩ h2
end

def RetGrp (w : World) (l : List Fld) (e : Ending) (w' : World) : Prop :=
  ∃ b n, e = .returned (.map (some b)) ∧ n ≤ l.length ∧ GrpIn w' b n l ∧ Below w.heap.size w w'
set_option maxRecDepth 100000 in
set_option maxHeartbeats 2000000 in
theorem nmValues_any (l : List Fld) (a : Option Addr) (cap : Nat) (w : World) (h : FldsIn w a l) (hz : ShortF l) (hl : l.length ≤ 1000000) :
    Calls Tryd.prog 11 #[.slice a l.length cap] w (RetGrp w l) := by
  have H0 := Box.mk h
  have HZ := Box.mk hz
  clear h hz
  have hmm := @run_makeMap Tryd.prog
  go_enter Tryd.func11, Tryd.ntmps11
  go_wp2_with fail
  obtain ⟨W, hW⟩ : ∃ W, W = w.alloc (.map #[] 0) := ⟨_, rfl⟩
  have HS := Box.mk (show GrpIn W w.heap.size 0 (l.take 0) by rw [hW]; exact ⟨_, _, GrpS.made w⟩)
  have HB := Box.mk (show Below w.heap.size w W by rw [hW]; exact below_oneF w (.map #[] 0))
  rw [← hW]
  clear hW
  generalize hb : w.heap.size = b at HS ⊢
  have HBS := Box.mk hb
  clear hb
  go_loopw [10] (fun iv wr => ∃ k : Nat, k ≤ l.length ∧ iv = .int .i64 k ∧ Box (GrpIn wr b k (l.take k) ∧ Below w.heap.size w wr)) (fun iv _ => l.length - (intOf iv).toNat)
  case atStart => exact ⟨0, Nat.zero_le _, rfl, ⟨HS.out, HB.out⟩⟩
  case round =>
    clear HS HB
    obtain ⟨k, hk, rfl, HM⟩ := hrel
    by_cases hlt : k < l.length
    · obtain ⟨x, rfl, hx1, hx2⟩ := (H0.out.keep HM.out.2) k hlt
      have hx2 := cell_next hx2
      have HSZ := Box.mk (HZ.out _ (List.getElem_mem hlt))
      have HT := Box.mk (List.take_succ_eq_append_getElem hlt)
      generalize l[k] = f at *
      have HSZL := Box.mk (show (lowS f.1).size ≤ maxLen by rw [lowS_sizeF]; exact HSZ.out.1)
      go_wp2_with fail
      refine (lower_any f.1 _ HSZ.out.1).mono ?_
      rintro e w2 ⟨rfl, hb1⟩
      have hc2 : w2.cell? ⟨wr.heap.size, 1, none⟩ = some (.string f.2) := below_cell hb1 (by rw [new_cellF]; rfl)
      have HB2 := Box.mk (below_trans (below_oneF wr (.cells #[.string f.1, .string f.2] 27)) hb1)
      obtain ⟨D, V, hG2⟩ := HM.out.1.keep HB2.out
      have HG2 := Box.mk hG2
      have HVL := Box.mk (show (valsN (l.take k) (lowS f.1)).length + 1 ≤ 8000000 by have h1 := valsN_len (l.take k) (lowS f.1); have h2 := List.length_take_le k l; omega)
      have HBB := Box.mk (show b + 1 ≤ w2.heap.size from hG2.lt)
      clear hb1 hG2
      generalize hs : lowS f.1 = s at *
      have HSE := Box.mk hs
      clear hs
      go_wp2_with (first | (at_lookup; refine wpList_lookup_grp _ rfl _ _ rfl rfl HG2.out rfl HSZL.out ?_) | (at_builtin; refine wpList_append_grp _ rfl _ _ rfl rfl (((HG2.out.keep (below_oneF w2 _)).own s)) rfl (f := f.2) ?c1 HVL.out ?c2 ?c3))
      case c1 => simp
      case c2 => simp; have := HBB.out; omega
      case c3 =>
        intro v' w4 g ho hg hv hl
        have HO := Box.mk ho
        have HG := Box.mk hg
        have HV := Box.mk hv
        have HL := Box.mk hl
        clear ho hg hv hl
        go_wp2_with (at_mapUpdate; refine wpList_update_grp _ rfl _ _ _ rfl rfl (HG2.out.keep (below_oneF w2 _)) (by unfold maxLen; omega) rfl HSZL.out HSE.out rfl HO.out HG.out HV.out (by simpa using HL.out) ?c4)
        case c4 =>
          intro w5 hs5 hg5
          have HM5 := Box.mk (show GrpIn w5 b (k + 1) (l.take (k + 1)) ∧ Below w.heap.size w w5 by
            refine ⟨by rw [HT.out]; exact hs5, ?_⟩
            have e1 := below_trans (below_trans HM.out.2 HB2.out) (below_oneF w2 (.cells #[.string f.2] 9))
            have e2 := e1.grown HG.out e1.size (fun j hj => by have := (((HG2.out.keep (below_oneF w2 (.cells #[.string f.2] 9))).own s).lt hj).1; have := HBS.out; omega)
            exact e2.grown hg5 e2.size (fun j hj => by injection hj with hj; have := HBS.out; omega))
          clear hs5 hg5 HO HG HV HL HG2 HB2
          go_wp2_with fail
          go_roundw
          case rel => exact ⟨k + 1, by omega, by go_num, HM5⟩
          case measure => simp [intOf]; omega
    · have HE := Box.mk (show GrpIn wr b k l by have := HM.out.1; rw [List.take_of_length_le (by omega)] at this; exact this)
      go_wp2_with fail
      go_ret
      exact ⟨b, k, rfl, hk, HE.out, HM.out.2⟩
end Go.Proofs.YtnpbnaapbimjaaaDoor
namespace Go.Proofs.YtnpbnaapbimjaaaDoor
open Go.RowKit
open Go.Maps (Keyed string_keyed)
set_option linter.unusedSimpArgs false
set_option linter.unusedVariables false

section
variable {ops : Array Oper} {rest : List Oper} {o : Oper} {act : Act} {Q : Exit → Act → World → Prop}
theorem wpList_append_strs (w : World) (hgd : o.guard = none) (y x : Operand) (ho : o.op = .call { callee := .builtin .append, args := #[y, x], argTypes := #[38, 38] }) {B : Nat} {l r : List ByteArray} {a : Option Addr} {c : Nat} {v : Value} (hv : act.eval y = v) (hy : OwnS B w v l)
    (hx : act.eval x = .slice a r.length c) (hr : StrsC w a r c) (hn : l.length + r.length ≤ 8000000) (hB : B ≤ w.heap.size)
    (hK : ∀ v' w', OwnS B w' v' (l ++ r) → w.grownBy w' v.ownBlock → wpList Tryd.prog ops Q rest (act.put o.dst v') w') : wpList Tryd.prog ops Q (o :: rest) act w := by
  subst hv
  exact wpList_plain hgd fun K' hK' => wp_append_ownSs ho hy hx hr hn hB fun v' w' h1 h2 => hK' _ _ (hK v' w' h1 h2)
end
def vdN : List ByteArray := [⟨#[86, 105, 97]⟩, ⟨#[68, 97, 116, 101]⟩]
theorem ownVD (w : World) : OwnS w.heap.size (w.alloc (.cells #[.string ⟨#[86, 105, 97]⟩, .string ⟨#[68, 97, 116, 101]⟩] 9)) (.slice (some ⟨w.heap.size, 0, none⟩) 2 2) vdN :=
  ⟨rfl, .inr ⟨w.heap.size, 2, _, rfl, Nat.le_refl _, heap_alloc_new _ _, Nat.le_refl _, by decide, rfl, rfl⟩⟩

set_option maxRecDepth 100000 in
set_option maxHeartbeats 2000000 in
theorem nmCompared_any (l : List Fld) (ig : List ByteArray) (a b : Option Addr) (cap cb : Nat) (w : World) (mm : Int) (h : FldsIn w a l) (hz : ShortF l) (hl : l.length ≤ 1000000) (hm : MaxOk w mm) (ht : total (valuesL l cnN) ≤ 3000000000) (hi : StrsC w b ig cb) (hiz : ∀ x ∈ ig, x.size ≤ maxLen) (hil : ig.length ≤ 1000000) :
    Calls Tryd.prog 12 #[.slice a l.length cap, .slice b ig.length cb] w (RetAccF w (keptN l ig)) := by
  obtain ⟨W, hW⟩ : ∃ W, W = w.alloc (.cells #[.string ⟨#[86, 105, 97]⟩, .string ⟨#[68, 97, 116, 101]⟩] 9) := ⟨_, rfl⟩
  have HO := Box.mk (show OwnS w.heap.size W (.slice (some ⟨w.heap.size, 0, none⟩) 2 2) vdN by rw [hW]; exact ownVD w)
  have HB := Box.mk (show Below w.heap.size w W by rw [hW]; exact below_oneF w _)
  have HI := Box.mk (hi.keep HB.out)
  have HM := Box.mk hm
  have H0 := Box.mk h
  have HX := Box.mk (show withoutL (stripL l) (vdN ++ ig) = keptN l ig from withoutVD (stripL l) ig)
  have HNZ := Box.mk (show ∀ x ∈ vdN ++ ig, x.size ≤ maxLen by
    intro x hx
    rcases List.mem_append.1 hx with hx | hx
    · unfold vdN at hx
      simp only [List.mem_cons, List.not_mem_nil, or_false] at hx
      rcases hx with rfl | rfl <;> decide
    · exact hiz x hx)
  have HNL := Box.mk (show (vdN ++ ig).length ≤ 4000000000 by rw [List.length_append]; have : vdN.length = 2 := rfl; omega)
  have HL2 := Box.mk (show vdN.length + ig.length ≤ 8000000 by have : vdN.length = 2 := rfl; omega)
  clear hm h hi hiz
  generalize hJ : vdN ++ ig = J at *
  have HJ := Box.mk hJ
  clear hJ
  go_enter Tryd.func12, Tryd.ntmps12
  go_wp2_with (at_builtin; rw [← hW]; refine wpList_append_strs _ rfl _ _ rfl rfl HO.out rfl HI.out HL2.out HB.out.size ?c1)
  case c1 =>
    intro v w1 ho hg
    rw [HJ.out] at ho
    rw [← hW] at hg
    have HV := Box.mk ho
    have HB1 := Box.mk (show Below w.heap.size w w1 from HB.out.grown hg HB.out.size (fun j hj => by have e : w.heap.size = j := Option.some.inj hj; omega))
    clear ho hg HO HB HI
    obtain ⟨ja, jc, rfl, HJS⟩ := HV.out.shape
    go_wp2_with fail
    refine (hStrip_any l a cap w1 mm (H0.out.keep HB1.out) hz hl (HM.out.keep HB1.out) ht).mono ?_
    rintro e w2 ⟨v2, rfl, hv2⟩
    have HV2 := Box.mk hv2
    clear hv2
    obtain ⟨sa, sc, rfl, hs⟩ := HV2.out.shape
    have HS := Box.mk hs
    have HJ2 := Box.mk (HJS.1.keep HV2.out.2)
    have hsl : (stripL l).length ≤ 1000000 := Nat.le_trans (stripL_len l) hl
    have HZ2 := Box.mk (show ShortF (stripL l) from fun f hf => by unfold stripL withoutL at hf; exact hz f (List.mem_filter.1 hf).1)
    clear hs
    generalize hS : stripL l = S at *
    go_wp2_with fail
    refine (fWithout_acc S J sa ja sc jc w2 HS.out HZ2.out HJ2.out HNZ.out hsl HNL.out).mono ?_
    rintro e w3 ⟨v3, rfl, hv3⟩
    have HV3 := Box.mk (AccF.lift (below_trans HB1.out HV2.out.2) hv3)
    clear hv3
    go_wp2_with fail
    go_ret
    exact ⟨v3, rfl, by rw [← HX.out]; exact HV3.out⟩
end Go.Proofs.YtnpbnaapbimjaaaDoor
namespace Go.Proofs.YtnpbnaapbimjaaaDoor
open Go.RowKit
def SortFOk : Prop := ∀ (F : List Fld) (v : Value) (B : Nat) (w : World), OwnF B w v F → F.length ≤ 1000000 →
    Calls Tryd.prog 14 #[v, .func (.func 15) #[] #[]] w fun e w' => e = .returned (.tuple #[]) ∧ Below B w w' ∧ ∃ (d : List Fld) (a : Option Addr) (cap : Nat), v = .slice a F.length cap ∧ F.length ≤ cap ∧ FldsC w' a d cap ∧ d.length = F.length ∧
      (∀ X : List Fld, (F.map (·.1)).Nodup → (∀ s, s ∈ F.map (·.1) ↔ s ∈ X.map (fun f => lowS f.1)) → (∀ f ∈ F, f.2 = joinS (valuesL X f.1)) → d = outN X)
end Go.Proofs.YtnpbnaapbimjaaaDoor
namespace Go.Proofs.YtnpbnaapbimjaaaDoor
open Go.RowKit
set_option linter.unusedSimpArgs false
set_option linter.unusedVariables false

theorem keyG_of {x : ByteArray} {kl : Lit} (h : keyOf Tryd.prog 9 (.string x) = some kl) : kl = keyG x ∧ x.size ≤ maxLen := by
  simp [keyOf, Tryd.underlying9, mapKey] at h
  exact ⟨h.2.symm, h.1⟩
theorem keyG_string {key : Value} {kl : Lit} (h : keyOf Tryd.prog 9 key = some kl) : ∃ x, key = .string x := by
  cases key <;> simp [keyOf, Tryd.underlying9, mapKey] at h
  exact ⟨_, rfl⟩
section
variable {ops : Array Oper} {rest : List Oper} {o : Oper} {act : Act} {Q : Exit → Act → World → Prop}
theorem wpList_next_grp (w : World) (hg : o.guard = none) (it : Operand) (hop : o.op = Op.next it false) {b r n : Nat} {D : DataW Value} {V : ByteArray → Value} {left : Lit → Bool} {cnt : Nat}
    (hit : act.eval it = .pointer (some ⟨r, 0, none⟩)) (h : w.ranges Tryd.prog 9 heldG b r n D left cnt) (hat : ∀ s, D.atKey (keyG s) (.held nilG) = .held (V s))
    (hDone : cnt = 0 → (∀ kl, left kl = false) → wpList Tryd.prog ops Q rest (act.put o.dst (.tuple #[.bool false])) w)
    (hMore : ∀ (x : ByteArray) (w' : World) (cnt' : Nat), x.size ≤ maxLen → left (keyG x) = true → Go.Maps.has D (keyG x) = true → w'.ranges Tryd.prog 9 heldG b r n D (fun z => left z && !z.sameKey (keyG x)) cnt' → cnt' < cnt → w.grownBy w' (some r) → w'.heap.size = w.heap.size →
      (Instr.entry (.pointer (some ⟨r, 0, none⟩))).run Tryd.prog w' = .ok (.tuple #[.string x, V x]) w' → wpList Tryd.prog ops Q rest (act.put o.dst (.tuple #[.bool true, .string x, V x])) w') : wpList Tryd.prog ops Q (o :: rest) act w :=
  wpList_next_ranges w hg it hop 9 keyedG heldG Value.string (fun v : Value => v) (fun key kl hk => keyG_string hk) (fun v y _ => ⟨v, rfl⟩) b r n D left cnt hit h hDone (fun x c kl y w' cnt' hk hlk hv hy hrg hlt hgr hsz hen => by
    obtain ⟨rfl, hx⟩ := keyG_of hk
    have h1 := hy (.held nilG)
    rw [hat] at h1
    have e : c = V x := by
      unfold heldG at hv
      simp only [Option.some.injEq] at hv
      subst hv
      simp only [DataW.held.injEq] at h1
      exact h1.symm
    subst e
    exact hMore x w' cnt' hx hlk (Maps.has_true_of_atKey hy) hrg hlt hgr hsz hen)
end
theorem OwnS.block {B : Nat} {w : World} {v : Value} {l : List ByteArray} (h : OwnS B w v l) (hl : 0 < l.length) : ∃ g cap, v = .slice (some ⟨g, 0, none⟩) l.length cap ∧ g < w.heap.size ∧ l.length ≤ cap ∧ StrsAt w (some ⟨g, 0, none⟩) l := by
  obtain ⟨h1, h2⟩ := h
  rcases h2 with ⟨rfl, h2⟩ | ⟨g, cap, cur, rfl, hg, hc, hcap, hm, hsz, ht⟩
  · omega
  · refine ⟨g, cap, rfl, (Array.getElem?_eq_some_iff.1 hc).1, hcap, fun j hj => ?_⟩
    have hu : (strV l)[j]? = some (.string l[j]) := by unfold strV; simp [hj]
    have e := congrArg (fun x => x[j]?) ht
    have hlt : j < l.length * 1 := by omega
    rw [hu, List.getElem?_take_of_lt hlt] at e
    refine ⟨g, 0, rfl, ?_⟩
    simp only [World.cell?, hc, Nat.zero_add]
    simpa using e
theorem GrpS.size {w : World} {b n : Nat} {l : List Fld} {D : DataW Value} {V : ByteArray → Value} (h : GrpS w b n l D V) : Go.Maps.size D ≤ n := by
  obtain ⟨es, clock, _, _, hs, hD⟩ := h.map
  rw [hD]
  show List.length _ ≤ n
  rw [length_sorted]
  simpa using hs
theorem any_low {X : List Fld} {s : ByteArray} : (X.any fun f => (lowS f.1).toList == s.toList) = true ↔ s ∈ X.map (fun f => lowS f.1) := by
  rw [List.any_eq_true, List.mem_map]
  constructor
  · rintro ⟨f, h1, h2⟩
    exact ⟨f, h1, ba_eq.2 (beq_iff_eq.1 h2)⟩
  · rintro ⟨f, h1, h2⟩
    exact ⟨f, h1, by rw [h2]; simp⟩
theorem valsN_pos {X : List Fld} {s : ByteArray} (h : s ∈ X.map (fun f => lowS f.1)) : 0 < (valsN X s).length ∧ valsN X s = valuesL X s := by
  rw [List.mem_map] at h
  obtain ⟨f, h1, rfl⟩ := h
  refine ⟨?_, valsN_low X f⟩
  unfold valsN
  rw [List.length_map]
  refine List.length_pos_of_mem (a := f) (List.mem_filter.2 ⟨h1, by simp⟩)

theorem below_le {A B : Nat} {a b c : World} (h : Below A a b) (k : Below B b c) (hab : A ≤ B) : Below A a c :=
  ⟨k.os.trans h.os, k.tape.trans h.tape, k.output.trans h.output, Nat.le_trans h.size k.size, fun i hi => (k.block i (by omega)).trans (h.block i hi)⟩
/-- The range over the groups has come so far: v holds the fields F. -/
structure RngS (w2 wr : World) (b r n : Nat) (X : List Fld) (D : DataW Value) (left : Lit → Bool) (cnt : Nat) (v : Value) (F : List Fld) : Prop where
  rg : wr.ranges Tryd.prog 9 heldG b r n D left cnt
  own : OwnF (r + 1) wr v F
  nd : (F.map (·.1)).Nodup
  mem : ∀ s, s ∈ F.map (·.1) ↔ (Go.Maps.has D (keyG s) = true ∧ left (keyG s) = false)
  val : ∀ f ∈ F, f.2 = joinS (valuesL X f.1)
  low : Below r w2 wr
  len : F.length + cnt ≤ 1000000
theorem RngS.step {w2 wr w4 : World} {b r n : Nat} {X F : List Fld} {D : DataW Value} {left : Lit → Bool} {cnt cnt' : Nat} {v v' : Value} (h : RngS w2 wr b r n X D left cnt v F) {x : ByteArray} (hx : left (keyG x) = true) (hD : Go.Maps.has D (keyG x) = true)
    (hrg : w4.ranges Tryd.prog 9 heldG b r n D (fun z => left z && !z.sameKey (keyG x)) cnt') (hc : cnt' < cnt) (ho : OwnF (r + 1) w4 v' (F ++ [(x, joinS (valuesL X x))])) (hl : Below r w2 w4) : RngS w2 w4 b r n X D (fun z => left z && !z.sameKey (keyG x)) cnt' v' (F ++ [(x, joinS (valuesL X x))]) := by
  have hself : (keyG x).sameKey (keyG x) = true := WideAt.sameKey_self trivial
  have hnot : x ∉ F.map (·.1) := fun hm => by
    have := ((h.mem x).1 hm).2
    rw [hx] at this; cases this
  refine ⟨hrg, ho, ?_, fun s => ?_, fun f hf => ?_, hl, by have := h.len; rw [List.length_append]; simp only [List.length_cons, List.length_nil]; omega⟩
  · rw [List.map_append, List.nodup_append]
    refine ⟨h.nd, by simp, fun a ha b hb => ?_⟩
    simp at hb
    subst hb
    intro e
    subst e
    exact hnot ha
  · rw [List.map_append, List.mem_append, h.mem s]
    by_cases e : s = x
    · subst e
      simp [hD, hself]
    · have h1 : (keyG s).sameKey (keyG x) = false := Maps.sameKey_ne fun e2 => e (keyG_inj e2)
      simp [h1, e]
  · rcases List.mem_append.1 hf with hf | hf
    · exact h.val f hf
    · simp at hf
      rw [hf]

set_option maxRecDepth 100000 in
set_option maxHeartbeats 4000000 in
theorem nmFields_any (hsort : SortFOk) (l : List Fld) (ig : List ByteArray) (a b : Option Addr) (cap cb : Nat) (w : World) (mm : Int) (h : FldsIn w a l) (hz : ShortF l) (hl : l.length ≤ 1000000) (hm : MaxOk w mm) (ht : total (valuesL l cnN) ≤ 3000000000) (hts : ∀ n, total (valuesL l n) ≤ 70000000000000)
    (hi : StrsC w b ig cb) (hiz : ∀ x ∈ ig, x.size ≤ maxLen) (hil : ig.length ≤ 1000000) :
    Calls Tryd.prog 8 #[.slice a l.length cap, .slice b ig.length cb] w (RetFldC w (fieldsN l ig)) := by
  have HSORT := Box.mk hsort
  have H0 := Box.mk (nmCompared_any l ig a b cap cb w mm h hz hl hm ht hi hiz hil)
  have hkl : (keptN l ig).length ≤ l.length := Nat.le_trans (withoutL_len _ _) (Nat.le_trans (withoutL_len _ _) (stripL_len _))
  have HXZ := Box.mk (show ShortF (keptN l ig) from fun f hf => hz f (keptN_mem hf).1)
  have HXT := Box.mk (show ∀ n, total (valuesL (keptN l ig) n) ≤ 70000000000000 from fun n => Nat.le_trans (total_kept l ig n) (hts n))
  have HRES := Box.mk (show fieldsN l ig = outN (keptN l ig) from rfl)
  clear h hz hm hi hiz ht hts hsort
  generalize hX : keptN l ig = X at *
  clear hX
  go_enter Tryd.func8, Tryd.ntmps8
  go_wp2_with fail
  refine H0.out.mono ?_
  rintro e w1 ⟨v1, rfl, hv1⟩
  have HV1 := Box.mk hv1.2
  obtain ⟨xa, xc, rfl, hx⟩ := hv1.shape
  have HX1 := Box.mk hx
  clear hv1 hx H0
  go_wp2_with fail
  refine (nmValues_any X xa xc w1 HX1.out HXZ.out (by omega)).mono ?_
  rintro e w2 ⟨q, n, rfl, hn, ⟨D, V, hG⟩, hb⟩
  have HG := Box.mk hG
  have HB2 := Box.mk (below_trans HV1.out hb)
  have HSZ := Box.mk hG.size
  clear hG hb HV1
  go_wp2_with (at_range; refine wpList_range_own _ rfl _ 39 rfl 9 38 keyedG Tryd.underlying39 heldG _ _ D rfl HG.out.map ?c1)
  case c1 =>
    intro w3 hrg hg3 hs3
    have HR0 := Box.mk (show RngS w2 w3 q w2.heap.size n X D (Go.Maps.has D) (Go.Maps.size D) (.slice none 0 0) [] from
      ⟨hrg, OwnF.start _ _, List.nodup_nil, fun s => by simp, fun f hf => (by cases hf), (Below.refl _ _).grown hg3 (Nat.le_refl _) (fun j hj => by cases hj), by have := HSZ.out; simp only [List.length_nil]; omega⟩)
    clear hrg hg3 hs3
    generalize hr : w2.heap.size = r at *
    have HRE := Box.mk hr
    clear hr
    go_wp2_with fail
    go_loopw [5] (fun v wr => ∃ left cnt F, Box (RngS w2 wr q r n X D left cnt v F)) (fun _ wr => wr.rangeLeft q r)
    case atStart => exact ⟨_, _, _, HR0⟩
    case round =>
      obtain ⟨left, cnt, F, HM⟩ := hrel
      go_wp2_with (at_next; refine wpList_next_grp _ rfl _ rfl rfl HM.out.rg HG.out.at_ ?d1 ?d2)
      case d1 =>
        intro h0 hdone
        have HDONE := Box.mk hdone
        clear hdone h0
        go_wp2_with fail
        refine (HSORT.out F _ (r + 1) wr HM.out.own (by have := HM.out.len; omega)).mono ?_
        rintro e w4 ⟨rfl, hb, d, da, dc, rfl, hdc, hd, hdl, heq⟩
        have HD := Box.mk hd
        have HE := Box.mk (heq X HM.out.nd (fun s => by
          rw [HM.out.mem, HG.out.has, any_low]
          exact ⟨fun h => h.1, fun h => ⟨h, HDONE.out _⟩⟩) HM.out.val)
        have HB4 := Box.mk (show Below w.heap.size w w4 by
          have h1 := HRE.out
          have h2 := HB2.out.size
          exact ⟨hb.os.trans (HM.out.low.os.trans HB2.out.os), hb.tape.trans (HM.out.low.tape.trans HB2.out.tape), hb.output.trans (HM.out.low.output.trans HB2.out.output), Nat.le_trans h2 (Nat.le_trans HM.out.low.size hb.size),
            fun k hk => (hb.block k (by omega)).trans ((HM.out.low.block k (by omega)).trans (HB2.out.block k hk))⟩)
        clear hb hd heq HM
        go_wp2_with fail
        go_ret
        rw [HRES.out, ← HE.out]
        exact ⟨da, dc, by rw [hdl]; rfl, HD.out, by omega, HB4.out⟩
      case d2 =>
        intro x w4 cnt' hxs hlx hDx hrg hlt hg4 hsz4 hen
        have HIN := valsN_pos (any_low.1 (by rw [← HG.out.has]; exact hDx))
        have HL4 := Box.mk (show Below r w2 w4 from HM.out.low.grown hg4 (by have h1 := HM.out.low.size; have h2 := HRE.out; omega) (fun j hj => by have := Option.some.inj hj; omega))
        have HG4 := HG.out.keep (by rw [HRE.out]; exact HL4.out)
        obtain ⟨g, vc, hV, hgl, hvc, hst⟩ := OwnS.block (HG4.own x) HIN.1
        rw [hV] at hen ⊢
        have HXN := Box.mk (And.intro hxs (And.intro hlx hDx))
        have HST := Box.mk (And.intro hst hgl)
        have HEQ := Box.mk (show joinS (valsN X x) = joinS (valuesL X x) by rw [HIN.2])
        have HRG := Box.mk hrg
        have HCN := Box.mk hlt
        have HTT := Box.mk (show total (valsN X x) ≤ 70000000000000 by rw [HIN.2]; exact HXT.out x)
        have HO4 := Box.mk (show OwnF (r + 1) w4 _ F from HM.out.own.grown hg4 (fun k hk e => by have := (HM.out.own.lt hk).1; have := Option.some.inj e; omega))
        have HR4 := Box.mk (show r + 1 ≤ w4.heap.size from hrg.lt)
        clear hst hgl HIN hrg hg4 hxs hlx hDx hsz4 HG4 hlt
        generalize hvs : valsN X x = vs at *
        clear hvs
        go_wp2_with fail
        refine (sJoin_any vs g vc w4 HST.out.1 HST.out.2 hvc HTT.out).mono ?_
        rintro e w5 ⟨rfl, hb5⟩
        rw [HEQ.out]
        have HO5 := Box.mk (HO4.out.keep hb5)
        have HB5 := Box.mk hb5
        clear hb5 hen
        go_wp2_with (at_builtin; refine wpList_append_ownf _ rfl _ _ rfl rfl (HO5.out.keep (below_oneF w5 _)) rfl (y := (x, joinS (valuesL X x))) ?c1 ?c2 ?c3 ?c4 ?c5)
        case c3 => have := HM.out.len; omega
        case c4 => have := HR4.out; have := HB5.out.size; simp; omega
        case c5 =>
          intro v6 w6 ho6 hg6
          have hlo : ∀ k, Value.ownBlock _ = some k → r + 1 ≤ k := fun k hk => (HO5.out.lt hk).1
          have HL5 := below_le (below_le HL4.out HB5.out (by have := HR4.out; omega)) (below_oneF w5 (.cells #[.string x, .string (joinS (valuesL X x))] 27)) (by have := HR4.out; have := HB5.out.size; omega)
          have HL6 := Box.mk (show Below r w2 w6 from HL5.grown hg6 (by have := HR4.out; have := HB5.out.size; simp; omega) (fun j hj => by have := hlo j hj; omega))
          have HRG6 := Box.mk (((HRG.out.kept (grownBy_below (row := none) HB5.out) (by simp) (by simp)).alloc (.cells #[.string x, .string (joinS (valuesL X x))] 27)).kept hg6
            (fun e => by have h1 := hlo q e.symm; have h2 := HG.out.lt; have h3 := HRE.out; omega) (fun e => by have h1 := hlo r e.symm; omega))
          have HM6 := Box.mk (HM.out.step HXN.out.2.1 HXN.out.2.2 HRG6.out HCN.out ho6 HL6.out)
          have HME := Box.mk (show w6.rangeLeft q r < wr.rangeLeft q r by rw [HRG6.out.left_eq, HM.out.rg.left_eq]; exact HCN.out)
          clear ho6 hg6 HRG6 HM HRG HO5 HB5
          go_wp2_with fail
          go_roundw
          case rel => exact ⟨_, _, _, HM6⟩
          case measure => exact HME.out
end Go.Proofs.YtnpbnaapbimjaaaDoor
namespace Go.Proofs.YtnpbnaapbimjaaaDoor
open Go.RowKit
open Go.Sort (SWO PermIn SortedIn)
set_option linter.unusedSimpArgs false
set_option linter.unusedVariables false

theorem cmpB_lt : ∀ a b : List UInt8, decide (Lib.compareBytes a b < 0) = Op.bytesLess a b
  | [], [] => by simp [Lib.compareBytes, Op.bytesLess]
  | [], _ :: _ => by simp [Lib.compareBytes, Op.bytesLess]
  | _ :: _, [] => by simp [Lib.compareBytes, Op.bytesLess]
  | x :: a, y :: b => by
    unfold Lib.compareBytes Op.bytesLess
    rw [← cmpB_lt a b]
    by_cases h1 : x < y
    · simp [h1]
    · by_cases h2 : y < x
      · have h3 : ¬ x = y := by intro e; subst e; exact h1 h2
        simp [h1, h2, h3]
      · have h3 : x = y := by
          rw [UInt8.lt_iff_toNat_lt] at h1 h2
          exact UInt8.toNat_inj.1 (by omega)
        subst h3
        simp [h1]
/-- What two fields are compared by: their names. -/
def cfF (x y : Fld) : Int := Lib.compareBytes x.1.data.toList y.1.data.toList
theorem ltF (x y : Fld) : ltOf cfF x y = ltS x.1 y.1 := by
  unfold ltOf cfF ltS
  rw [cmpB_lt, ba_toList, ba_toList]
theorem swoF : SWO (ltOf cfF) where
  irrefl x := by rw [ltF, ltS_irr]
  trans x y z h k := by rw [ltF] at *; exact ltS_trans h k
  ntrans x y z h k := by
    rw [ltF] at *
    cases hz : ltS x.1 z.1 with
    | false => rfl
    | true =>
      rcases ltS_tri x.1 y.1 with e | e | e
      · rw [h] at e; cases e
      · rw [e, k] at hz; cases hz
      · have := ltS_trans e hz
        rw [k] at this; cases this
theorem sortedS_of : ∀ {l : List ByteArray}, l.Pairwise (fun a b => ltS a b = true) → SortedS l
  | [], _ => trivial
  | x :: r, h => by
    obtain ⟨h1, h2⟩ := List.pairwise_cons.1 h
    exact ⟨h1, sortedS_of h2⟩
theorem sorted_arr (d : Array Fld) (h : SortedIn (ltOf cfF) 0 d.size d) (hn : (d.toList.map (·.1)).Nodup) : SortedS (d.toList.map (·.1)) := by
  refine sortedS_of ?_
  rw [List.pairwise_iff_getElem]
  intro i j hi hj hij
  have hi' : i < d.size := by simpa using hi
  have hj' : j < d.size := by simpa using hj
  have h1 := h i j (Nat.zero_le _) hij hj'
  rw [ltF, getElem!_pos d j hj', getElem!_pos d i hi'] at h1
  have hne : d[i].1 ≠ d[j].1 := by
    intro e
    have := (List.pairwise_iff_getElem.1 hn) i j hi hj hij
    simp only [List.getElem_map, Array.getElem_toList] at this
    exact this e
  simp only [List.getElem_map, Array.getElem_toList]
  rcases ltS_tri d[i].1 d[j].1 with e | e | e
  · exact e
  · exact absurd e hne
  · rw [h1] at e; cases e
theorem sorted_outN (X : List Fld) (F : List Fld) (d' : Array Fld) (hp : PermIn 0 F.toArray.size F.toArray d') (hs : SortedIn (ltOf cfF) 0 F.toArray.size d') (hn : (F.map (·.1)).Nodup)
    (hm : ∀ s, s ∈ F.map (·.1) ↔ s ∈ X.map (fun f => lowS f.1)) (hv : ∀ f ∈ F, f.2 = joinS (valuesL X f.1)) : d'.toList = outN X := by
  obtain ⟨h1, _, h3⟩ := hp
  rw [← h1] at hs h3
  have hperm : d'.toList.Perm F := by simpa using h3.trans (by rw [h1]; simp)
  have hnd : (d'.toList.map (·.1)).Nodup := (hperm.map (·.1)).nodup_iff.2 hn
  have hso := sorted_arr d' hs hnd
  have hnm : d'.toList.map (·.1) = namesS (X.map fun f => lowS f.1) := sorted_ext hso (namesS_sorted _) fun x => by
    rw [namesS_mem, ← hm, (hperm.map (·.1)).mem_iff]
  unfold outN
  rw [← hnm, List.map_map]
  refine ((List.map_congr_left fun f hf => ?_).trans (List.map_id' _)).symm
  have := hv f (hperm.mem_iff.1 hf)
  simp only [Function.comp_apply]
  rw [← this]

end Go.Proofs.YtnpbnaapbimjaaaDoor
namespace Go.Proofs.YtnpbnaapbimjaaaDoor
open Go.RowKit
open Go.Sort
set_option linter.unusedSimpArgs false
set_option linter.unusedVariables false

def encF (x : Fld) : List Value := [.string x.1, .string x.2]
theorem agFN (w : World) : (isAgg 27).run Tryd.prog w = .ok true w := by
  unfold isAgg; rw [Sem.run_bind, run_underlying Tryd.underlying27 w]; rfl
theorem szFN (w : World) : (Go.sizeOf 27).run Tryd.prog w = .ok 2 w := by
  obtain ⟨i0, hi, hz0, hz1, hz2⟩ := info_parts Tryd.info27
  simp [Go.sizeOf, typeInfo, hi, hz1]
set_option maxHeartbeats 1000000 in
theorem byName_any (x y : Fld) (W : World) : Calls Tryd.prog 15 #[.agg #[.string x.1, .string x.2], .agg #[.string y.1, .string y.2]] W fun e w' => e = .returned (.int .i64 (cfF x y)) ∧ ∃ q os', w' = grow (W.drewN q) os' := by
  have hcon : ∀ W', Calls Tryd.prog 26 #[.string x.1, .string y.1] W' fun e w' => e = .returned (.int .i64 (cfF x y)) ∧ w' = W' := fun W' => Any.strings_Compare Tryd.lays106 x.1 y.1 W'
  generalize cfF x y = r at *
  go_enter Tryd.func15, Tryd.ntmps15
  go_wp2_with fail
  refine (hcon _).mono ?_
  rintro e w' ⟨rfl, rfl⟩
  go_wp2_with fail
  go_ret
  exact ⟨rfl, 0, _, by rw [alloc_eq_grow, alloc_eq_grow, grow_grow]; rfl⟩
theorem cmpF (blk off size : Nat) (w : World) : CmpLays Tryd.prog 15 #[] encF 2 cfF blk off size w := fun _ _ _ _ x y => byName_any x y _
theorem holdsF {w : World} {g : Nat} {l : List Fld} (h : FldsIn w (some ⟨g, 0, none⟩) l) (hf : ∀ j, w.frozen? ⟨g, j, none⟩ = false) : HoldsK encF 2 w g 0 l.toArray := by
  intro j hj
  have hj' : j < l.length * 2 := by simpa using hj
  have hk : j / 2 < l.length := by omega
  refine ⟨?_, hf _⟩
  show w.cell? ⟨g, 0 + j, none⟩ = some ((flatK encF 2 l.toArray)[j]!)
  rw [get_flatK encF 2 l.toArray j (by simpa using hj')]
  obtain ⟨x, e, h1, h2⟩ := h (j / 2) hk
  obtain rfl := Option.some.inj e
  rw [Addr.add_lit] at h1 h2
  have hel : l.toArray[j / 2]! = l[j / 2] := by rw [getElem!_pos l.toArray (j / 2) (by simpa using hk)]; simp
  rw [hel, Nat.zero_add]
  rcases Nat.mod_two_eq_zero_or_one j with hm | hm
  · have e1 : j / 2 * 2 = j := by omega
    rw [hm]
    rw [e1, Nat.zero_add] at h1
    exact h1
  · have e1 : j / 2 * 2 + 1 = j := by omega
    rw [hm]
    rw [e1, Nat.zero_add] at h2
    exact h2
theorem holdsF_in {w : World} {g : Nat} {d : Array Fld} (h : HoldsK encF 2 w g 0 d) : FldsIn w (some ⟨g, 0, none⟩) d.toList := by
  intro j hj
  have hj' : j < d.size := by simpa using hj
  have hel : d[j]! = d.toList[j] := by rw [getElem!_pos d j hj']; simp
  refine ⟨_, rfl, ?_, ?_⟩
  · have h1 := (h (j * 2) (by simp; omega)).1
    rw [get_flatK encF 2 d (j * 2) (by omega)] at h1
    rw [Addr.add_lit, Nat.zero_add]
    rw [Nat.zero_add, show j * 2 / 2 = j by omega, show j * 2 % 2 = 0 by omega, hel] at h1
    exact h1
  · have h1 := (h (j * 2 + 1) (by simp; omega)).1
    rw [get_flatK encF 2 d (j * 2 + 1) (by omega)] at h1
    rw [Addr.add_lit, Nat.zero_add]
    rw [Nat.zero_add, show (j * 2 + 1) / 2 = j by omega, show (j * 2 + 1) % 2 = 1 by omega, hel] at h1
    exact h1
theorem grownBy_put {α : Type} [Inhabited α] {w : World} {g n : Nat} {os : Array Obj} (enc : α → Value) (d : Array α) : w.grownBy (grow (putRow enc (Sort.ahead w n) g 0 d) os) (some g) := by
  refine ⟨rfl, rfl, rfl, by simp, fun k hk hne => ?_⟩
  rw [heap_grow_old _ _ (by simpa using hk)]
  have : g ≠ k := fun e => hne (by rw [e])
  simp [putRow, mapBlock, Sort.ahead, Array.getElem?_modify, this]
theorem outN_nil {X : List Fld} (h : ∀ s, s ∈ ([] : List ByteArray) ↔ s ∈ X.map (fun f => lowS f.1)) : outN X = [] := by
  have : X = [] := by
    cases X with
    | nil => rfl
    | cons f r => have := (h (lowS f.1)).2 (by simp); cases this
  rw [this]; rfl
theorem frozen_cells {w : World} {g : Nat} {cur : Array Value} {e : TypeId} (hb : w.heap[g]? = some (.cells cur e (0, 0))) (j : Nat) : w.frozen? ⟨g, j, none⟩ = false := by simp [World.frozen?, hb]

theorem nmSortF_ok : SortFOk := by
  intro F v B w h hl
  obtain ⟨a, cap, hsh, hfl, hcap⟩ := h.shape
  obtain ⟨h1, h2⟩ := h
  rcases h2 with ⟨rfl, h0⟩ | ⟨g, cap', cur, rfl, hg, hc, hcap', hm, hsz, ht⟩
  · have hF : F = [] := List.eq_nil_of_length_eq_zero h0
    subst hF
    have hcon : Calls Tryd.prog 14 #[.slice none 0 0, .func (.func 15) #[] #[]] w fun e w' => e = .returned (.tuple #[]) ∧ w' = w := AnyF.slices_SortFunc_none Tryd.sortF none 0 _ w
    refine hcon.mono ?_
    rintro e w' ⟨rfl, rfl⟩
    exact ⟨rfl, Below.refl _ _, [], none, 0, rfl, Nat.le_refl _, ⟨FldsIn.nil _ _, fun _ => ⟨rfl, rfl⟩⟩, rfl, fun X _ hmem _ => (outN_nil hmem).symm⟩
  · injection hsh with e1 _ e3
    subst e1 e3
    have hlt := (Array.getElem?_eq_some_iff.1 hc).1
    have hH := holdsF hfl.1 (frozen_cells hc)
    have eg : ∀ args w, (callFunc 15 args).run Tryd.prog w = .ok (.enter 15 args) w := enters_of Tryd.func15 (by kernel_rfl) rfl
    have hcon : Calls Tryd.prog 14 #[.slice (some ⟨g, 0, none⟩) F.toArray.size cap', .func (.func 15) #[] #[]] w fun e w' =>
        e = .returned (.tuple #[]) ∧ ∃ d' n os, PermIn 0 F.toArray.size F.toArray d' ∧ SortedIn (ltOf cfF) 0 F.toArray.size d' ∧ w' = sortWorldK encF 2 w g 0 n d' os :=
      AnyQ.slices_SortFunc Tryd.sortF 2 agFN szFN encF (fun _ => rfl) (fun x v hv => by simp [encF] at hv; rcases hv with rfl | rfl <;> rfl) cfF swoF 15 #[] g 0 cap' F.toArray w eg (cmpF g 0 _ w) hH hlt (by simp; omega)
    rw [List.size_toArray] at hcon
    refine hcon.mono ?_
    rintro e w' ⟨rfl, d', n, os, hp, hs, rfl⟩
    have hds : d'.size = F.toArray.size := hp.1
    have hH' := holdsK_sortWorldK_c encF 2 w g 0 F.toArray d' n os hH hlt hds
    have hgr : w.grownBy (sortWorldK encF 2 w g 0 n d' os) (some g) := grownBy_put id (flatK encF 2 d')
    refine ⟨rfl, ⟨hgr.os, hgr.tape, hgr.output, hgr.size, fun k hk => hgr.block k (by omega) (fun e => by have := Option.some.inj e; omega)⟩, d'.toList, some ⟨g, 0, none⟩, cap', rfl, hcap, ⟨holdsF_in hH', fun e => by cases e⟩, by simpa using hds, fun X hn hmem hv => ?_⟩
    exact sorted_outN X F d' (by simpa using hp) (by simpa using hs) hn hmem hv

end Go.Proofs.YtnpbnaapbimjaaaDoor
namespace Go.Proofs.YtnpbnaapbimjaaaDoor
open Go.RowKit
set_option linter.unusedVariables false

/-- Fields of no more than so many bytes. -/
def MedF (l : List Fld) : Prop := (∀ f ∈ l, f.1.size ≤ 100000000 ∧ f.2.size ≤ 100000000) ∧ l.length ≤ 1000 ∧ total (valuesL l cnN) ≤ 3000000000
theorem MedF.short {l : List Fld} (h : MedF l) : ShortF l := fun f hf => by have := h.1 f hf; unfold maxLen; omega
theorem total_valuesM {x : List Fld} (h : ∀ f ∈ x, f.1.size ≤ 100000000 ∧ f.2.size ≤ 100000000) (n : ByteArray) : total (valuesL x n) ≤ x.length * 100000001 := by
  unfold valuesL
  induction x with
  | nil => exact Nat.zero_le _
  | cons f t ih =>
    have h1 := ih (fun g hg => h g (List.mem_cons_of_mem _ hg))
    have h2 := (h f (List.mem_cons_self ..)).2
    clear h ih
    rw [List.filter_cons, List.length_cons, Nat.add_mul, Nat.one_mul]
    split
    · simp only [List.map_cons, total]
      exact Nat.le_trans (Nat.add_le_add (Nat.add_le_add_right h2 1) h1) (Nat.le_of_eq (Nat.add_comm _ _))
    · exact Nat.le_trans h1 (Nat.le_add_right _ _)
theorem MedF.totals {l : List Fld} (h : MedF l) (n : ByteArray) : total (valuesL l n) ≤ 70000000000000 := by
  exact Nat.le_trans (total_valuesM h.1 n) (Nat.le_trans (Nat.mul_le_mul_right _ h.2.1) (by decide))
theorem medF_small {l : List Fld} (h : SmallF l) (hl : l.length ≤ 1000) : MedF l :=
  ⟨fun f hf => by have := h f hf; omega, hl, by have := small_total h hl cnN; omega⟩
theorem fieldsN_len (l : List Fld) (ig : List ByteArray) : (fieldsN l ig).length ≤ l.length := by
  have h1 := outN_len (keptN l ig)
  have h2 : (keptN l ig).length ≤ l.length := Nat.le_trans (withoutL_len _ _) (Nat.le_trans (withoutL_len _ _) (stripL_len _))
  unfold fieldsN
  omega

theorem nFields_any (l : List Fld) (ig : List ByteArray) (a b : Option Addr) (cap cb : Nat) (w : World) (mm : Int) (hmx : MaxOk w mm) (h : FldsC w a l cap) (hc : l.length ≤ cap) (hm : MedF l) (hi : StrsC w b ig cb) (hiz : ∀ x ∈ ig, x.size ≤ maxLen) (hil : ig.length ≤ 1000) :
    Calls Tryd.prog 8 #[.slice a l.length cap, .slice b ig.length cb] w (RetFldC w (fieldsN l ig)) :=
  nmFields_any nmSortF_ok l ig a b cap cb w mm h.1 hm.short (by have := hm.2.1; omega) hmx hm.2.2 hm.totals hi hiz (by omega)
end Go.Proofs.YtnpbnaapbimjaaaDoor
namespace Go.Proofs.YtnpbnaapbimjaaaDoor
open Go.RowKit
set_option linter.unusedSimpArgs false
set_option linter.unusedVariables false

theorem nFields_eq {l r : List Fld} {ig : List ByteArray} {a b : Option Addr} {cap cb : Nat} {mm : Int} (w : World) (hmx : MaxOk w mm) (h : FldsC w a l cap) (hc : l.length ≤ cap) (hm : MedF l) (hi : StrsC w b ig cb) (hiz : ∀ x ∈ ig, x.size ≤ maxLen) (hil : ig.length ≤ 1000) (hr : fieldsN l ig = r) :
    Calls Tryd.prog 8 #[.slice a l.length cap, .slice b ig.length cb] w (RetFldC w r) := by subst hr; exact nFields_any l ig a b cap cb w mm hmx h hc hm hi hiz hil
theorem StrsC.none (w : World) : StrsC w none [] 0 := ⟨StrsIn.nil _ _, Nat.le_refl _, fun _ => rfl⟩
theorem fldC_new {w : World} {l : List Fld} {cs : Array Value} (h : cs = (cellsF l).toArray) : FldsC (w.alloc (.cells cs 27)) (some ⟨w.heap.size, 0, none⟩) l l.length :=
  ⟨FldsIn.of_cells fun j u hj => by rw [Addr.add_lit, new_cellF, h]; simpa using hj, fun e => by cases e⟩
theorem strsC_one (w : World) (s : ByteArray) (t : TypeId) : StrsC (w.alloc (.cells #[.string s] t)) (some ⟨w.heap.size, 0, none⟩) [s] 1 := ⟨strsIn_one w s t, Nat.le_refl _, fun e => by cases e⟩

theorem sameFlds_self (x : List Fld) (a b : Option Addr) (ca cb : Nat) (w : World) (hx : FldsIn w a x) (hy : FldsIn w b x) (h : x.length ≤ 2000000) :
    Calls Tryd.prog 7 #[.slice a x.length ca, .slice b x.length cb] w fun e w' => e = .returned (.bool true) ∧ Below w.heap.size w w' := by
  refine (sameFields_any x x a b ca cb w hx hy h h).mono ?_
  rintro e w' ⟨rfl, hb⟩
  exact ⟨by rw [sameF_self], hb⟩

/-- The law's fields. -/
def MadeN (w w' : World) (X : List Fld) (a : Option Addr) (c : Nat) : Prop := FldsC w' a X c ∧ X.length ≤ c ∧ X.length ≤ 30 ∧ SmallF X ∧ Below w.heap.size w w'
set_option maxHeartbeats 2000000 in
theorem nmMade_any (l : List Fld) (a : Option Addr) (cap : Nat) (b : Option Addr) (n c : Nat) (wild : Bool) (w : World) (h : FldsC w a l cap) (hs : SmallF l) (hcap : l.length ≤ cap) (hcm : cap ≤ maxLen) (hi : IntsF w b n) (hn : n ≤ maxLen) :
    Calls Tryd.prog 4 #[.slice b n c, .slice a l.length cap, .bool wild] w fun e w' => ∃ X a' c', e = .returned (.slice a' (List.length X) c') ∧ MadeN w w' X a' c' := by
  have H0 := Box.mk (And.intro h hs)
  have HI := Box.mk (And.intro hi hn)
  unfold maxLen at hcm
  clear h hi hn hs
  cases wild with
  | true =>
    by_cases hlt : 30 < l.length
    · have hl : (l.take 30).length = 30 := by rw [List.length_take]; omega
      have HT := Box.mk (show FldsC w a (l.take 30) cap from ⟨H0.out.1.1.take 30, fun e => by
        have := (H0.out.1.2 e).1
        rw [this] at hlt; exact absurd hlt (by decide)⟩)
      have HL := Box.mk hl
      clear hl
      go_enter Tryd.func4, Tryd.ntmps4
      go_wp2
      go_ret
      exact ⟨l.take 30, a, cap, by rw [HL.out]; rfl, HT.out, by rw [HL.out]; omega, by rw [HL.out]; exact Nat.le_refl _, fun f hf => H0.out.2 f (List.mem_of_mem_take hf), Below.refl _ _⟩
    · go_enter Tryd.func4, Tryd.ntmps4
      go_wp2
      go_ret
      exact ⟨l, a, cap, rfl, H0.out.1, hcap, by omega, H0.out.2, Below.refl _ _⟩
  | false =>
    have HS := Box.mk (src_box (c := c) HI.out.1 HI.out.2)
    have HB := Box.mk (below_oneF w (.cells #[.slice b n c, .int .i64 0] 35))
    go_enter Tryd.func4, Tryd.ntmps4
    go_wp2_with fail
    refine (srcFieldsS_any w.heap.size 9 b n c _ HS.out (by decide)).mono ?_
    rintro e w1 ⟨v, x, rfl, ho, hx9, hall, _, hg⟩
    obtain ⟨a', c', rfl, hf, hle⟩ := ho.shape
    have HF := Box.mk (show FldsC w1 a' x c' ∧ SmallF x ∧ Below w.heap.size w w1 from ⟨hf, fun f hm => by obtain ⟨_, h1, h2⟩ := (hall f hm).made; exact ⟨by omega, by omega⟩, below_box HB.out hg⟩)
    clear ho hf hall hg
    go_wp2_with fail
    go_ret
    exact ⟨x, a', c', rfl, HF.out.1, hle, by omega, HF.out.2.1, HF.out.2.2⟩

def akF : List Fld := [(⟨#[88, 45, 66]⟩, ⟨#[50]⟩), (⟨#[120, 45, 97]⟩, ⟨#[49]⟩), (⟨#[88, 45, 66]⟩, ⟨#[51]⟩), (⟨#[68, 97, 116, 101]⟩, ⟨#[110, 111, 119]⟩), (⟨#[69]⟩, ⟨#[53]⟩)]
def akNm : List Fld := [(⟨#[120, 45, 97]⟩, ⟨#[49]⟩), (⟨#[120, 45, 98]⟩, ⟨#[50, 44, 32, 51]⟩)]
def akE : ByteArray := ⟨#[101]⟩
theorem ak_fields : fieldsN akF [akE] = akNm := by decide +kernel
theorem akF_small : SmallF akF := by
  intro f hf
  have : ∀ f ∈ akF, f.1.size ≤ 1048576 ∧ f.2.size ≤ 1048576 := by decide +kernel
  exact this f hf
set_option maxRecDepth 10000 in
set_option maxHeartbeats 2000000 in
theorem nmAwake_any (w : World) (mm : Int) (hmx : MaxOk w mm) : Calls Tryd.prog 9 #[] w fun e w' => e = .returned (.bool true) ∧ Below w.heap.size w w' := by
  obtain ⟨cs, hcs⟩ : ∃ cs : Array Value, cs = (cellsF akF).toArray := ⟨_, rfl⟩
  obtain ⟨W, hW⟩ : ∃ W, W = (w.alloc (.cells (cellsF akF).toArray 27)).alloc (.cells #[.string akE] 9) := ⟨_, rfl⟩
  have HB := Box.mk (show Below w.heap.size w W by rw [hW]; exact below_twoF (below_oneF w _) _)
  have HF := Box.mk (show FldsC W (some ⟨w.heap.size, 0, none⟩) akF 5 by rw [hW]; exact (fldC_new (w := w) (l := akF) rfl).keep (below_oneF _ _))
  have HS := Box.mk (show StrsC W (some ⟨w.heap.size + 1, 0, none⟩) [akE] 1 by
    rw [hW]; have := strsC_one (w.alloc (.cells (cellsF akF).toArray 27)) akE 9; rw [World.size_alloc] at this; exact this)
  have HMX := Box.mk (hmx.keep HB.out)
  clear hcs cs hmx
  go_enter Tryd.func9, Tryd.ntmps9
  go_wp2_with fail
  change Calls _ _ #[.slice (some ⟨w.heap.size, 0, none⟩) akF.length 5, .slice (some ⟨w.heap.size + 1, 0, none⟩) ([akE] : List ByteArray).length 1] ((w.alloc (.cells (cellsF akF).toArray 27)).alloc (.cells #[.string akE] 9)) _
  rw [← hW]
  clear hW
  refine (nFields_eq W HMX.out HF.out (by decide) (medF_small akF_small (by decide)) HS.out (by unfold maxLen; decide +kernel) (by decide) ak_fields).mono ?_
  rintro e w1 ⟨ra, rc, rfl, h1, h2, h3⟩
  obtain ⟨W2, hW2⟩ : ∃ W2, W2 = w1.alloc (.cells (cellsF akNm).toArray 27) := ⟨_, rfl⟩
  have HB2 := Box.mk (show Below w.heap.size w W2 by rw [hW2]; exact below_twoF (below_trans HB.out h3) _)
  have HX := Box.mk (show FldsIn W2 ra akNm by rw [hW2]; exact h1.1.keep (below_oneF _ _))
  have HY := Box.mk (show FldsC W2 (some ⟨w1.heap.size, 0, none⟩) akNm 2 by rw [hW2]; exact fldC_new (w := w1) (l := akNm) rfl)
  clear h1 h2 h3 HB HF HS
  go_wp2_with fail
  change Calls _ _ #[.slice ra akNm.length rc, .slice (some ⟨w1.heap.size, 0, none⟩) akNm.length 2] (w1.alloc (.cells (cellsF akNm).toArray 27)) _
  rw [← hW2]
  clear hW2
  refine (sameFlds_self akNm ra (some ⟨w1.heap.size, 0, none⟩) rc 2 W2 HX.out HY.out.1 (by decide)).mono ?_
  rintro e w3 ⟨rfl, hb⟩
  have HB3 := Box.mk (below_trans HB2.out hb)
  clear hb HX HY HB2
  go_wp2_with fail
  go_ret
  exact ⟨rfl, HB3.out⟩
end Go.Proofs.YtnpbnaapbimjaaaDoor
namespace Go.Proofs.YtnpbnaapbimjaaaDoor
open Go.RowKit

/-- A plan. -/
structure Pl where
  ws : List Int
  ms : Int
  num : Int
  den : Int
  hold : Int
  win : Int
/-- The first k weights ascend. -/
def ascK (l : List Int) : Nat → Bool
  | 0 => true
  | k + 1 => ascK l k && (decide (1 ≤ l.getD k 0) && decide (l.getD k 0 ≤ 10000) && (decide (k = 0) || decide (l.getD (k - 1) 0 < l.getD k 0)))
def Pl.nums (p : Pl) : Prop := 1 ≤ p.ws.length ∧ p.ws.length ≤ 8 ∧ 1 ≤ p.ms ∧ p.ms ≤ 1000000 ∧ 0 ≤ p.num ∧ p.num ≤ 1000000 ∧ 1 ≤ p.den ∧ p.den ≤ 1000000 ∧ 1 ≤ p.hold ∧ p.hold ≤ 100 ∧ 1 ≤ p.win ∧ p.win ≤ 1000000
instance (p : Pl) : Decidable p.nums := by unfold Pl.nums; infer_instance
def Pl.ok (p : Pl) : Bool := decide p.nums && ascK p.ws p.ws.length
end Go.Proofs.YtnpbnaapbimjaaaDoor
namespace Go.Proofs.YtnpbnaapbimjaaaDoor
open Go.RowKit

/-- A window. -/
structure Wn where
  tot : Int
  err : Int
  age : Int
def Wn.cells (v : Wn) : Array Value := #[.int .i64 v.tot, .int .i64 v.err, .int .i64 v.age]
def Wn.fits (v : Wn) : Prop := 0 ≤ v.tot ∧ v.tot ≤ 1000000000 ∧ 0 ≤ v.err ∧ v.err ≤ 1000000000
instance (v : Wn) : Decidable v.fits := by unfold Wn.fits; infer_instance
def verdV (p : Pl) (v : Wn) : Int := if p.ok = true ∧ v.fits then (if v.tot < p.ms then 1 else if p.num * v.tot < v.err * p.den then 3 else 2) else 0
end Go.Proofs.YtnpbnaapbimjaaaDoor
namespace Go.Proofs.YtnpbnaapbimjaaaDoor
open Go.RowKit
set_option linter.unusedSimpArgs false
set_option linter.unusedVariables false

section
variable {Q : Exit → Act → World → Prop} {act : Act} {w : World} {o : Oper} {s : Spec}
theorem loc_fieldN {x : Operand} (ho : o.op = .fieldAddr 27 x 0) {p : Addr} (hx : act.eval x = .pointer (some p)) (hs : s.p (.pointer (some p)) w) :
    o.wp Tryd.prog act w (fun a' w' => ∃ v, a' = act.put o.dst v ∧ Below w.heap.size w w' ∧ s.p v w') Q :=
  loc_field_G ho hx (by simp [Instr.fieldAt, run_underlying Tryd.underlying27, Instr.sureAddr, fieldPlace, Addr.add]) hs
theorem refLower_v {n m : ByteArray} {v : Value} (w : World) (hv : v = .string n) (hs : n.size ≤ maxLen) (hm : lowS n = m) :
    Calls Tryd.prog 5 #[v] w fun e w' => ∃ v', e = .returned v' ∧ Below w.heap.size w w' ∧ v' = .string m := by
  subst hv hm
  refine (refLower_any n w hs).mono ?_
  rintro e w' ⟨rfl, hb⟩
  exact ⟨_, rfl, hb, rfl⟩
end

end Go.Proofs.YtnpbnaapbimjaaaDoor
