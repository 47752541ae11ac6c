/- A region that draws its order, in phases, where an operation may read a slot that a later one writes. wire of the laws on heads, walked. The laws HeadEnd and HeadGrows. The law FieldLine. Opening the arguments of the laws on fields. The law HeadParse. A formatted head is parsed to what it was made of: plain mathematics. The law HeadTwice. The law HeadFormat. -/
import Derived.Test.YtcdianojchmgpaaGreatDoorPk1
import Derived.Test.YtcdianojchmgpaaGreatDoorPk2
import Derived.Test.YtcdianojchmgpaaGreatDoorPk3
import Derived.Test.YtcdianojchmgpaaGreatDoorPk4
import Derived.Test.YtcdianojchmgpaaGreatDoorPk5
import Derived.Test.YtcdianojchmgpaaGreatDoorPk6
import Derived.Test.YtcdianojchmgpaaGreatDoorPk7
import Derived.Deep.Quiet
import Derived.Deep.QuietTactic
import Derived.Tactics
import Derived.KernelRfl
import Derived.Below
import Derived.Test.YtcdianojchmgpaaGreatDoorRows
import Derived.WalkKit
import Derived.WalkSpells
import Derived.WalkLawsBesides
import Derived.BigQuiet
import Derived.Lib.Bytealg
import Derived.Lib.IndexLaws
import Derived.Lib.Hide
import Derived.ProofKit
import Derived.OpenShut
import Derived.Laws.IdiomStrings
import Derived.Lib.Strings
import Derived.Laws.Bits64
import Derived.Deep.AppendLies
import Derived.SliceStrings
import Derived.Lib.SlBytesConst
import Derived.Maps.AppendAt
import Derived.Laws.AppendOwnNone
import Derived.Great.BuildSlice
import Derived.Laws.Rows
import Derived.Lib.SlTrimSet
import Derived.Lib.IndexBytes
import Derived.Lib.Split
import Derived.Shelf.Strings.SlTrimAscii
import Derived.Shelf.Strings.SplitShaped
import Derived.Shelf.LaysM
import Derived.Shelf.Strings.BuilderK
import Derived.Shelf.Strconv.Itoa4
import Derived.Shelf.Strings.Prefix
import Derived.Shelf.Bytes.SlIndexWhole
import Derived.Test.YtcdianojchmgpaaGreatDoorProg
import Derived.Lib.SplitLaws
import Derived.WalkSmall
import Derived.Laws.BitsAllLaws
import Derived.Laws.Shifts
import Derived.Maps.OwnOps
import Derived.Maps.OwnSet
import Derived.Deep.SlicePairs
import Derived.Lib.AppendZerosOnto
import Derived.Lib.AppendStr
import Derived.Laws.CopyOwn
import Derived.OwnWalk
import Derived.Laws.Strings3
import Derived.Laws.Concat
import Derived.Lib.ItoaMem
import Derived.IntWalk
import Derived.Laws.RangeAny
import Derived.LoopTactic
import Derived.Sort.Grow
import Derived.Lib.ConvBytes
import Derived.Lib.LaidTab
import Derived.LaidSub
import Derived.Laws.Bits64b
import Derived.Deep.DeepCutAuto
import Derived.Deep.CutBlock
import Derived.Lib.FrozenHead2
namespace Go.Proofs.YtcdianojchmgpaaGreatDoor
open Go.RowKit

/-- Slot k is written by an operation that need not wait for operation i. -/
def isDstI (ops : Array Oper) (i k : Nat) : Bool := (List.range ops.size).any fun j => ((ops[j]?).bind (·.dst) == some k) && (!decide (j = i) && !(match ops[j]? with | some o => waitsFor o i | none => false))
/-- The frame when operation i comes up. -/
structure FrW (ops : Array Oper) (i : Nat) (a0 a : Act) : Prop where
  defers : a.defers = a0.defers
  size : a.tmps.size = a0.tmps.size
  base : ∀ k, isDstI ops i k = false → a.eval (.tmp k) = a0.eval (.tmp k)
/-- The frame after the operations that m marks. -/
structure FrM (ops : Array Oper) (m : Array Bool) (a0 a : Act) : Prop where
  defers : a.defers = a0.defers
  size : a.tmps.size = a0.tmps.size
  base : ∀ k, (∀ j o, ops[j]? = some o → o.dst = some k → m.getD j false = false) → a.eval (.tmp k) = a0.eval (.tmp k)
theorem FrM.plain {ops : Array Oper} {m : Array Bool} {a0 a : Act} (h : FrM ops m a0 a) : Fr ops a0 a := ⟨h.defers, h.size, fun k hk => h.base k fun j o ho hd => by
  have : isDst ops k = true := by
    unfold isDst
    exact List.any_eq_true.2 ⟨o, Array.mem_toList_iff.2 (Array.mem_of_getElem? ho), by rw [hd]; simp⟩
  rw [hk] at this; cases this⟩
theorem FrM.at {ops : Array Oper} {m : Array Bool} {a0 a : Act} {i : Nat} (h : FrM ops m a0 a) (hmi : m.getD i false = false) (hcl : ∀ j o, ops[j]? = some o → m.getD j false = true → ∀ i, waitsFor o i = true → m.getD i false = true) : FrW ops i a0 a :=
  ⟨h.defers, h.size, fun k hk => h.base k fun j o ho hd => by
    by_cases hji : j = i
    · subst hji; exact hmi
    · by_cases hw : waitsFor o i = true
      · cases hm : m.getD j false with
        | false => rfl
        | true => rw [hcl j o ho hm i hw] at hmi; cases hmi
      · exfalso
        have : isDstI ops i k = true := by
          unfold isDstI
          exact List.any_eq_true.2 ⟨j, List.mem_range.2 (Array.getElem?_eq_some_iff.1 ho).1, by simp only [ho, Option.bind_some, hd]; simp [hji, hw]⟩
        rw [hk] at this; cases this⟩
theorem frM_put {ops : Array Oper} {m : Array Bool} {a0 a : Act} {o : Oper} {i : Nat} (ho : ops[i]? = some o) (him : i < m.size) (h : FrM ops m a0 a) (v : Value) : FrM ops (m.setIfInBounds i true) a0 (a.put o.dst v) := by
  refine ⟨?_, ?_, fun k hk => ?_⟩
  · have := h.defers
    cases o.dst <;> simpa [Act.put] using this
  · have := h.size
    cases o.dst <;> simpa [Act.put] using this
  · have hne : o.dst ≠ some k := fun e => by
      have := hk i o ho e
      simp [him] at this
    rw [eval_put_other hne, h.base k fun j oj hoj hd => by
      have h2 := hk j oj hoj hd
      by_cases hji : j = i
      · subst hji
        obtain rfl := Option.some.inj (ho.symm.trans hoj)
        exact absurd hd hne
      · rwa [getD_set_ne false (fun e => hji e.symm)] at h2]
def StepIW (P : Program) (Q : Exit → Act → World → Prop) (ops : Array Oper) (S : List Spec) (Inv : World → Prop) (a0 : Act) (i : Nat) (o : Oper) (s : Spec) : Prop :=
  ∀ a w, Inv w → FrW ops i a0 a → (∀ j, waitsFor o j = true → Holds ops S a w j) →
    Region.wanted o (yielded ops a.tmps) = true ∧ o.wp P a w (fun a' w' => ∃ v, a' = a.put o.dst v ∧ Below w.heap.size w w' ∧ s.p v w') Q
def SidesIW (P : Program) (Q : Exit → Act → World → Prop) (ops : Array Oper) (S : List Spec) (Inv : World → Prop) (a0 : Act) : List Nat → Prop
  | i :: r => (match ops[i]?, S[i]? with | some o, some s => StepIW P Q ops S Inv a0 i o s | _, _ => False) ∧ SidesIW P Q ops S Inv a0 r
  | [] => True
def ChainIW (P : Program) (Q : Exit → Act → World → Prop) (ops : Array Oper) (S S' : List Spec) (Inv Inv' : World → Prop) (a0 : Act) (c : Nat) : Prop :=
  match ops[c]?, S'[c]? with
  | some o, some s => ∀ a w, Inv w → FrW ops c a0 a → (∀ j, waitsFor o j = true → Holds ops S a w j) →
      Region.wanted o (yielded ops a.tmps) = true ∧ o.wp P a w (fun a' w' => ∃ v, a' = a.put o.dst v ∧ Inv' w' ∧ s.p v w' ∧ Over ops a w w' c 0 S S') Q
  | _, _ => False
section
variable {P : Program} {Q : Exit → Act → World → Prop} {ops : Array Oper} {a0 : Act} {w0 : World}
theorem sidesIW_at {S : List Spec} {Inv : World → Prop} : ∀ {l : List Nat}, SidesIW P Q ops S Inv a0 l → ∀ i, i ∈ l → ∀ o, ops[i]? = some o → ∃ s, S[i]? = some s ∧ StepIW P Q ops S Inv a0 i o s
  | k :: r, h, i, hi, o, ho => by
    rcases List.mem_cons.1 hi with rfl | hi
    · have := h.1
      rw [ho] at this
      cases hs : S[i]? with
      | none => rw [hs] at this; exact this.elim
      | some s => rw [hs] at this; exact ⟨s, rfl, this⟩
    · exact sidesIW_at h.2 i hi o ho
theorem wp_region_phasesW {id : Nat} (chain : List Nat) (sides : Nat → List Nat) (S : Nat → List Spec) (Inv : Nat → World → Prop) (hm : P.follows .mixedOrders = true)
    (hB : (List.range ops.size).all (fun i => match ops[i]? with | some x => x.after.all (fun e => !Region.binds .any e || decide (e.on < i)) | none => true) = true)
    (hd : dstsOk ops a0.tmps.size = true) (hc : chainB ops chain = true) (hlt : chain.all (fun c => decide (c < ops.size)) = true) (hsB : (List.range (chain.length + 1)).all (fun p => sidesB ops chain chain.length (sides p) p) = true)
    (hI : ∀ p w w', Inv p w → Below w.heap.size w w' → Inv p w') (h0 : Inv 0 w0) (hS : ∀ p, p ≤ chain.length → SidesIW P Q ops (S p) (Inv p) a0 (sides p))
    (hC : ∀ p (hp : p < chain.length), ChainIW P Q ops (S p) (S (p + 1)) (Inv p) (Inv (p + 1)) a0 chain[p])
    (hQ : ∀ a w, Inv chain.length w → Fr ops a0 a → (∀ j, j < ops.size → Holds ops (S chain.length) a w j) → Q .normal a w) : (Code.region id ops true).wp P Q a0 w0 := by
  have hchain : ∀ p q (hp : p < chain.length) (hq : q < chain.length), p < q → beforeB ops ops.size chain[q] chain[p] = true ∧ chain[p] ≠ chain[q] := fun p q hp hq hpq => by
    have h1 := List.all_eq_true.1 (List.all_eq_true.1 hc p (List.mem_range.2 hp)) q (List.mem_range.2 hq)
    simp only [List.getElem?_eq_getElem hp, List.getElem?_eq_getElem hq, Bool.or_eq_true, Bool.and_eq_true, decide_eq_true_eq] at h1
    rcases h1 with h1 | h1
    · omega
    · exact ⟨h1.1.1.1, h1.1.1.2⟩
  refine wp_region_inv hm (fun m a w => FrM ops m a0 a ∧ (∀ j o, ops[j]? = some o → m.getD j false = true → ∀ i, waitsFor o i = true → m.getD i false = true) ∧
    ∃ p, p ≤ chain.length ∧ (∀ q (hq : q < chain.length), m.getD chain[q] false = decide (q < p)) ∧ Inv p w ∧ ∀ j, m.getD j false = true → Holds ops (S p) a w j) ?_ ?_ ?_
  · rintro m a w hs ⟨hf, hcl, p, hp, hph, hinv, hh⟩ i hi
    obtain ⟨h1, o, ho, hall⟩ := mem_ready.1 hi
    have hil : i < ops.size := (Array.getElem?_eq_some_iff.1 ho).1
    have him : i < m.size := by rw [hs]; exact hil
    have hmi : m.getD i false = false := by simp [him] at h1 ⊢; exact h1
    have hdeps : ∀ j, waitsFor o j = true → m.getD j false = true := fun j hj => by
      obtain ⟨e, he, h2⟩ := List.any_eq_true.1 hj
      simp only [Bool.and_eq_true, beq_iff_eq] at h2
      obtain ⟨h3, rfl⟩ := h2
      exact hall e (Array.mem_toList_iff.1 he) h3
    have hcl' : ∀ j o, ops[j]? = some o → (m.setIfInBounds i true).getD j false = true → ∀ k, waitsFor o k = true → (m.setIfInBounds i true).getD k false = true := fun j oj hoj hj k hk => by
      by_cases hji : j = i
      · subst hji
        obtain rfl : o = oj := Option.some.inj (ho.symm.trans hoj)
        exact getD_set_true (hdeps k hk)
      · rw [getD_set_ne false (fun e => hji e.symm)] at hj
        exact getD_set_true (hcl j oj hoj hj k hk)
    unfold wpOp
    simp only [ho]
    by_cases hic : i ∈ chain
    · obtain ⟨q, hq, rfl⟩ := List.getElem_of_mem hic
      have hqp : p ≤ q := by
        have := hph q hq
        rw [hmi] at this
        have := of_decide_eq_false this.symm
        omega
      have hqe : q = p := by
        rcases Nat.lt_or_ge p q with h2 | h2
        · exfalso
          have h3 := before_ready hcl ho hdeps (hchain p q (by omega) hq h2).1
          rw [hph p (by omega)] at h3
          simp at h3
        · omega
      subst hqe
      have hCp := hC q hq
      unfold ChainIW at hCp
      rw [ho] at hCp
      cases hsc : (S (q + 1))[chain[q]]? with
      | none => rw [hsc] at hCp; exact hCp.elim
      | some s =>
        rw [hsc] at hCp
        simp only at hCp
        obtain ⟨hw, hwp⟩ := hCp a w hinv (hf.at hmi hcl) fun j hj => hh j (hdeps j hj)
        rw [if_pos hw]
        refine .inl (Oper.wp_mono ?_ hwp)
        rintro a' w' ⟨v, rfl, hinv', hsp, hov⟩
        refine ⟨frM_put ho him hf v, hcl', q + 1, hq, fun r hr => ?_, hinv', fun j hj => ?_⟩
        · by_cases hrq : r = q
          · subst hrq
            simp [him]
          · have hne : chain[q] ≠ chain[r] := by
              rcases Nat.lt_or_ge q r with h2 | h2
              · exact (hchain q r hq hr h2).2
              · exact fun e => (hchain r q hr hq (by omega)).2 e.symm
            rw [getD_set_ne false hne, hph r hr]
            by_cases hrl : r < q
            · simp [hrl, show r < q + 1 by omega]
            · simp [hrl, show ¬ r < q + 1 by omega]
        · by_cases hji : j = chain[q]
          · subst hji
            unfold Holds
            simp only [ho, hsc]
            cases hdo : o.dst with
            | none => trivial
            | some d =>
              show s.p ((a.put (some d) v).eval (.tmp d)) w'
              rw [eval_put_same]
              · exact hsp
              · rw [hf.size]; exact (dsts_lt hd ho hdo).1
          · have hj' : m.getD j false = true := by rw [getD_set_ne false (fun e => hji e.symm)] at hj; exact hj
            have h5 := holds_put (a := a) (v := v) hd ho hji (hh j hj')
            unfold Holds at *
            cases hoj : ops[j]? with
            | none => simp
            | some o' =>
              cases hsj : (S (q + 1))[j]? with
              | none => simp
              | some s' =>
                obtain ⟨s0, hs0, himp⟩ := over_at hov j s' hsj (by omega)
                simp only [hoj, hs0] at h5
                simp only
                cases hdo : o'.dst with
                | none => trivial
                | some d =>
                  simp only [hdo] at h5
                  refine himp _ (fun o2 d2 ho2 hd2 => ?_) h5
                  rw [Nat.zero_add, hoj] at ho2
                  obtain rfl := Option.some.inj ho2
                  rw [hdo] at hd2
                  obtain rfl := Option.some.inj hd2
                  exact eval_put_other fun e => (dsts_lt hd ho e).2 j o' hoj hji hdo
    · have hside : i ∈ sides p := by
        have := List.all_eq_true.1 (List.all_eq_true.1 hsB p (List.mem_range.2 (by omega))) i (List.mem_range.2 hil)
        simp only [Bool.or_eq_true, List.contains_iff_mem, List.any_eq_true] at this
        rcases this with (h2 | h2) | ⟨q, hq, h2⟩
        · exact absurd h2 hic
        · exact h2
        · exfalso
          have hql := List.mem_range.1 hq
          rw [List.getElem?_eq_getElem hql] at h2
          simp only at h2
          by_cases hqp : q < p
          · rw [if_pos hqp] at h2
            have h3 := before_marked hcl _ _ _ h2 (by rw [hph q hql]; simp [hqp])
            rw [hmi] at h3; cases h3
          · rw [if_neg hqp] at h2
            have h3 := before_ready hcl ho hdeps h2
            rw [hph q hql] at h3
            simp [hqp] at h3
      obtain ⟨s, hsi, hstep⟩ := sidesIW_at (hS p hp) i hside o ho
      obtain ⟨hw, hwp⟩ := hstep a w hinv (hf.at hmi hcl) fun j hj => hh j (hdeps j hj)
      rw [if_pos hw]
      refine .inl (Oper.wp_mono ?_ hwp)
      rintro a' w' ⟨v, rfl, hb', hsp⟩
      refine ⟨frM_put ho him hf v, hcl', p, hp, fun r hr => ?_, hI p w w' hinv hb', fun j hj => ?_⟩
      · rw [getD_set_ne false (fun e => hic (by rw [e]; exact List.getElem_mem hr)), hph r hr]
      · by_cases hji : j = i
        · subst hji
          unfold Holds
          simp only [ho, hsi]
          cases hdo : o.dst with
          | none => trivial
          | some d =>
            show s.p ((a.put (some d) v).eval (.tmp d)) w'
            rw [eval_put_same]
            · exact hsp
            · rw [hf.size]; exact (dsts_lt hd ho hdo).1
        · have hj' : m.getD j false = true := by rw [getD_set_ne false (fun e => hji e.symm)] at hj; exact hj
          exact holds_put hd ho hji (holds_mono (hh j hj') hb')
  · rintro m a w hs ⟨hf, hcl, p, hp, hph, hinv, hh⟩ hr
    have hmarked : ∀ j, j < ops.size → m.getD j false = true := fun j => by
      induction j using Nat.strongRecOn with
      | _ j ih =>
        intro hj
        cases hmj : m.getD j false with
        | true => rfl
        | false =>
          exfalso
          have hoj : ops[j]? = some ops[j] := Array.getElem?_eq_getElem hj
          have hbk := List.all_eq_true.1 hB j (List.mem_range.2 hj)
          rw [hoj] at hbk
          simp only [Array.all_eq_true_iff_forall_mem, Bool.or_eq_true, Bool.not_eq_true', decide_eq_true_eq] at hbk
          have hlt : ∀ e ∈ ops[j].after, Region.binds .any e = true → e.on < j := fun e he hbd => by
            rcases hbk e he with h | h
            · rw [hbd] at h; cases h
            · exact h
          have : j ∈ Region.ready .any ops m := mem_ready.2 ⟨by
            have hs' : j < m.size := by rw [hs]; exact hj
            simp [hs'] at hmj ⊢; exact hmj, ops[j], hoj, fun e he hbd => ih _ (hlt e he hbd) (by have := hlt e he hbd; omega)⟩
          rw [hr] at this; cases this
    have hpe : p = chain.length := by
      rcases Nat.lt_or_ge p chain.length with h2 | h2
      · exfalso
        have h3 := hph p h2
        have h4 := hmarked chain[p] (of_decide_eq_true (List.all_eq_true.1 hlt _ (List.getElem_mem h2)))
        rw [h4] at h3
        simp at h3
      · omega
    subst hpe
    exact hQ a w hinv hf.plain fun j hj => hh j (hmarked j hj)
  · have hz : ∀ j, (Array.replicate ops.size false).getD j false = false := fun j => by
      simp only [Array.getD_eq_getD_getElem?, Array.getElem?_replicate]; split <;> rfl
    refine ⟨⟨rfl, rfl, fun _ _ => rfl⟩, fun j o _ hj => (by rw [hz] at hj; cases hj), 0, Nat.zero_le _, fun q _ => by rw [hz]; rfl, hI 0 w0 _ h0 (Below.refl _ _).drew, fun j hj => (by rw [hz] at hj; cases hj)⟩

end
end Go.Proofs.YtcdianojchmgpaaGreatDoor
namespace Go.Proofs.YtcdianojchmgpaaGreatDoor
open Go.RowKit

theorem IsBytes.cellAtH {w : World} {g c k : Nat} {l : List UInt8} (h : IsBytes w (some ⟨g, 0, none⟩) l c) (hk : k < l.length) : w.cell? ⟨g, k, none⟩ = some (.int .u8 ((l.getD k 0).toNat : Int)) := by
  rcases h with ⟨h1, _⟩ | ⟨y, h1, _, _, h2⟩
  · cases h1
  · obtain rfl := Option.some.inj h1
    have := h2 k hk
    rw [Addr.add_lit, Nat.zero_add] at this
    rw [this]; simp [List.getD, hk]
set_option maxRecDepth 100000 in
set_option maxHeartbeats 4000000 in
theorem wireH_any (a : Option Addr) (n c : Nat) (reply : Bool) (at_ : Int) (x : UInt8) (w : World) (hi : IntsF w a n) (hn : n ≤ maxLen) :
    Calls Tryz.prog 8 #[.slice a n c, .bool reply, .int .i64 at_, .int .u8 x.toNat] w fun e w' => ∃ v l, e = .returned v ∧ OwnM w.heap.size w' v l ∧ 2 ≤ l.length ∧ l.length ≤ 600 ∧ Below w.heap.size w w' := by
  have HS0 := Box.mk (src_box (c := c) hi hn)
  have HB0 := Box.mk (below_oneF w (.cells #[.slice a n c, .int .i64 0] 47))
  have HG0 := Box.mk (show w.heap.size < (w.alloc (.cells #[.slice a n c, .int .i64 0] 47)).heap.size from HS0.out.lt)
  clear hi hn
  go_enter Tryz.func8, Tryz.ntmps8
  cases reply
  case' true =>
    go_wp2_with fail
    refine (next_any w.heap.size 5 a n c _ HS0.out (by decide) (by decide)).mono ?_
    rintro e w1 ⟨k, hk, rfl, hs1, hg1⟩
    have HK := Box.mk hk
    have HS1 := Box.mk hs1
    have HB1 := Box.mk (below_box HB0.out hg1)
    clear hs1 hg1 HS0 HB0 HG0
    have hg := HS1.out.lt
    go_wp2_with fail
    obtain ⟨W2, hW2⟩ : ∃ W2, W2 = w1.alloc (.cells (reasF.map Value.string).toArray 9) := ⟨_, rfl⟩
    have HB2 := Box.mk (show Below w1.heap.size w1 W2 by rw [hW2]; exact below_oneF w1 _)
    have HL2 := Box.mk (show StrsIn W2 (some ⟨w1.heap.size, 0, none⟩) reasF by rw [hW2]; exact strsIn_newF w1 reasF 9)
    change Calls _ _ _ (w1.alloc (.cells (reasF.map Value.string).toArray 9)) _
    rw [← hW2]
    clear hW2
    refine (of_n w.heap.size w1.heap.size 2 reasF 2 a n c W2 (HS1.out.keep HB2.out) HL2.out (by omega) rfl (by decide) (by decide)).mono ?_
    rintro e w3 ⟨r, hr, rfl, hs3, hg3⟩
    have HR := Box.mk hr
    have HS3 := Box.mk hs3
    have HB3 := Box.mk (below_box (below_trans HB1.out HB2.out) hg3)
    clear hs3 hg3 HS1 HB1 HB2 HL2 hr
    go_wp2_with fail
    refine (next_any w.heap.size 2 a n c _ HS3.out (by decide) (by decide)).mono ?_
    rintro e w4 ⟨z, hz, rfl, hs4, hg4⟩
    have HZ := Box.mk (show (z : Int) = 0 ∨ (z : Int) = 1 by omega)
    have HS4 := Box.mk hs4
    have HB4 := Box.mk (below_box HB3.out hg4)
    clear hs4 hg4 HS3 HB3 hz
    go_wp2_with fail
    refine (srcFieldsS_any w.heap.size 4 a n c _ HS4.out (by decide)).mono ?_
    rintro e w5 ⟨v5, y, rfl, ho5, hl5, hf5, hs5, hg5⟩
    obtain ⟨fa, fc, rfl, hfc, _⟩ := ho5.shape
    obtain ⟨hp0, hp1⟩ := fmtRep_made HK.out HR.out HZ.out
    have htn : TinyF y := fun f hf => (hf5 f hf).tiny
    obtain ⟨he, hlo, hhi⟩ := headB_made hp0 hp1 (fun f hf => (hf5 f hf).made) htn (by omega)
    have HLO := Box.mk hlo
    have HHI := Box.mk hhi
    have HS5 := Box.mk hs5
    have HB5 := Box.mk (below_box HB4.out hg5)
    have hr1 := List.all_eq_true.1 reasF_ok r HR.out
    simp only [Bool.and_eq_true, decide_eq_true_eq] at hr1
    have hcall := refFmtRep_any ((200 + k : Nat) : Int) r z y fa none fc 0 0 w5 (by omega) hfc.1 htn.small (by omega) (by omega)
    clear he hlo hhi hp0 hp1 htn ho5 hl5 hf5 hs5 hg5 hfc hr1 HS4 HB4 HR HZ
    generalize headB (fmtRep ((200 + k : Nat) : Int) r z) y = l at *
    rw [show ((200 + k : Nat) : Int) = 200 + (k : Int) by omega] at hcall
    have HCALL := Box.mk hcall
    clear hk hcall
    go_wp2_with fail
    refine HCALL.out.mono ?_
    rintro e w6 hret
    obtain ⟨v6, rfl, hown, hb6⟩ := hret.own (by have := HLO.out; omega) (by have := HHI.out; omega)
    have hlt := HS5.out.lt
    have HM := Box.mk (show WireM w w.heap.size a n c l v6 w6 from ⟨hown.low (by omega), HS5.out.keep hb6, below_trans HB5.out hb6, HLO.out, by have := HHI.out; omega⟩)
    clear hret hown hb6 HCALL HB5 HS5 HLO HHI HK hlt hg
  case' false =>
    go_wp2_with fail
    refine (srcReq_any w.heap.size a n c _ HS0.out).mono ?_
    rintro e w5 ⟨m, t, z, v5, y, fr, vB, bl, rfl, hm, ht, hz, ho5, hbo, hR3, hbl, hfr, hs5, hg5⟩
    obtain ⟨fa, fc, rfl, hfc, _⟩ := ho5.shape
    obtain ⟨ba, bc, rfl, _⟩ := hbo.val
    obtain ⟨hp0, hp1⟩ := fmtReq_made hm ht hz
    obtain ⟨he, hlo, hhi⟩ := headB_made hp0 hp1 hR3.made.1 hR3.tiny hR3.made.2
    have HLO := Box.mk hlo
    have HHI := Box.mk hhi
    have HS5 := Box.mk hs5
    have HB5 := Box.mk (below_box HB0.out hg5)
    have HCALL := Box.mk (refFmtReq_any m t z fr y fa ba fc bl.length bc w5 (by have := (meth_at hm).2; omega) (by have := (targ_at ht).2; omega) hfc.1 hR3.tiny.small (by have := hR3.made.2; omega) (by omega))
    clear he hlo hhi hp0 hp1 hm ht hz ho5 hbo hR3 hbl hfr hs5 hg5 hfc HS0 HB0 HG0
    generalize headB (fmtReq m t z) y = l at *
    go_wp2_with fail
    refine HCALL.out.mono ?_
    rintro e w6 hret
    obtain ⟨v6, rfl, hown, hb6⟩ := hret.own (by have := HLO.out; omega) (by have := HHI.out; omega)
    have hlt := HS5.out.lt
    have HM := Box.mk (show WireM w w.heap.size a n c l v6 w6 from ⟨hown.low (by omega), HS5.out.keep hb6, below_trans HB5.out hb6, HLO.out, by have := HHI.out; omega⟩)
    clear hret hown hb6 HCALL HB5 HS5 HLO HHI hlt
  all_goals
    have hg := HM.out.src.lt
    go_wp2_with fail
    refine (next_any w.heap.size 4 a n c _ HM.out.src (by decide) (by decide)).mono ?_
    rintro e w7 ⟨k4, hk4, rfl, hs7, hg7⟩
    have HM7 := Box.mk (HM.out.next (Nat.le_refl _) hs7 hg7)
    have hlt7 := HM7.out.src.lt
    clear hs7 hg7 HM hg
    by_cases h3 : k4 = 3
    · subst h3
      obtain ⟨og, oc, rfl, hcap0, hib0⟩ := HM7.out.own.form
      have HCAP := Box.mk hcap0
      have hlo7 := HM7.out.lo
      have hhi7 := HM7.out.hi
      clear hcap0 hib0
      go_wp2_with fail
      rename_i K hK
      have HFO := Box.mk foldsH_ok
      refine wp_region_phasesW [7, 8] (fun p => match p with | 0 => [0, 1, 2, 3, 4, 5, 6] | 1 => [0, 1, 2, 3, 4] | _ => [9])
        (fun p => match p with
          | 0 => [.val (.slice (some ⟨og, 0, none⟩) l.length oc), .val (.slice (some ⟨og, 0, none⟩) l.length oc), .val (.int .i64 (l.length : Int)), .val (.int .i64 ((l.length - 2 : Nat) : Int)), .val (.slice (some ⟨og, 0, none⟩) (l.length - 2) oc), .val (.pointer (some ⟨w.heap.size, 0, none⟩)), .strsNew (w.heap.size + 1) foldsH, .nope, .nope, .nope]
          | 1 => [.val (.slice (some ⟨og, 0, none⟩) l.length oc), .val (.slice (some ⟨og, 0, none⟩) l.length oc), .val (.int .i64 (l.length : Int)), .val (.int .i64 ((l.length - 2 : Nat) : Int)), .val (.slice (some ⟨og, 0, none⟩) (l.length - 2) oc), .any, .any, .strOf foldsH, .nope, .nope]
          | _ => [.any, .any, .any, .any, .any, .any, .any, .any, .ownM w.heap.size, .ownM w.heap.size])
        (fun p => match p with
          | 0 => fun wx => Below w7.heap.size w7 wx
          | 1 => fun wx => WireM w w.heap.size a n c l (.slice (some ⟨og, 0, none⟩) l.length oc) wx
          | _ => fun wx => Below w.heap.size w wx)
        (by kernel_rfl) (by kernel_rfl) (by kernel_rfl) (by kernel_rfl) (by kernel_rfl) (by kernel_rfl) ?_ (Below.refl _ _) ?_ ?_ ?_
      · intro ph w1' w2' h hb
        match ph, h with
        | 0, h => exact below_trans h hb
        | 1, h => exact WireM.keep h hb
        | (_ + 2), h => exact below_trans h hb
      · intro ph hph
        match ph, hph with
        | 0, _ =>
          refine ⟨?_, ?_, ?_, ?_, ?_, ?_, ?_, trivial⟩ <;> intro a1 w1' hv hf hd
          · exact ⟨wanted_none rfl, loc_move rfl (hf.base 10 rfl)⟩
          · exact ⟨wanted_none rfl, loc_move rfl (hf.base 10 rfl)⟩
          · exact ⟨wanted_none rfl, loc_len rfl (hd 1 rfl) rfl⟩
          · exact ⟨wanted_none rfl, loc_sub2H (k := 2) rfl (hd 2 rfl) rfl (by omega) (by omega) rfl⟩
          · exact ⟨wanted_none rfl, loc_uptoH rfl (hd 0 rfl) (hd 3 rfl) (by omega) HCAP.out rfl⟩
          · exact ⟨wanted_none rfl, loc_move rfl (hf.base 9 rfl)⟩
          · exact ⟨wanted_none rfl, loc_strsH foldsH rfl rfl (by simp only [List.map_toArray, List.map_cons, List.map_nil]; rfl) (by decide) (by decide) (by kernel_rfl) fun h => ⟨_, rfl, by have := hv.size; omega, h⟩⟩
        | 1, _ =>
          refine ⟨?_, ?_, ?_, ?_, ?_, trivial⟩ <;> intro a1 w1' hv hf hd
          · exact ⟨wanted_none rfl, loc_move rfl (hf.base 10 rfl)⟩
          · exact ⟨wanted_none rfl, loc_move rfl (hf.base 10 rfl)⟩
          · exact ⟨wanted_none rfl, loc_len rfl (hd 1 rfl) rfl⟩
          · exact ⟨wanted_none rfl, loc_sub2H (k := 2) rfl (hd 2 rfl) rfl (by omega) (by omega) rfl⟩
          · exact ⟨wanted_none rfl, loc_uptoH rfl (hd 0 rfl) (hd 3 rfl) (by omega) HCAP.out rfl⟩
        | 2, _ =>
          refine ⟨?_, trivial⟩
          intro a1 w1' hv hf hd
          exact ⟨wanted_none rfl, loc_assign rfl (hd 8 rfl)⟩
      · intro ph hph
        match ph, hph with
        | 0, _ =>
          intro a2 w2 hv hf hd
          obtain ⟨b, e39, hb1, hb2⟩ := hd 6 rfl
          refine ⟨wanted_none rfl, chain_call rfl (by kernel_rfl) ?_⟩
          show Calls _ _ #[a2.eval (.tmp 38), a2.eval (.tmp 39)] w2 _
          rw [show a2.eval (.tmp 38) = .pointer (some ⟨w.heap.size, 0, none⟩) from hd 5 rfl, show a2.eval (.tmp 39) = _ from e39]
          have hm2 := HM7.out.keep hv
          refine (of_n w.heap.size b 6 foldsH 6 a n c w2 hm2.src hb2 (by omega) rfl (by decide) (by decide)).mono ?_
          rintro e w' ⟨s, hs, rfl, hsrc, hgr⟩
          exact ⟨_, rfl, _, rfl, hm2.next (Nat.le_refl _) hsrc hgr, ⟨s, hs, rfl⟩,
            ⟨.inr fun _ _ h => h, .inr fun _ _ h => h, .inr fun _ _ h => h, .inr fun _ _ h => h, .inr fun _ _ h => h, .inr fun _ _ _ => trivial, .inr fun _ _ _ => trivial, .inl rfl, .inr fun _ _ h => h.elim, .inr fun _ _ h => h.elim, trivial⟩⟩
        | 1, _ =>
          intro a2 w2 hv hf hd
          obtain ⟨s, hs, e40⟩ := hd 7 rfl
          have e37 : a2.eval (.tmp 37) = .slice (some ⟨og, 0, none⟩) (l.length - 2) oc := hd 4 rfl
          have hz := List.all_eq_true.1 HFO.out s hs
          simp only [Bool.and_eq_true, decide_eq_true_eq] at hz
          have hcut := hv.own.cut (k := l.length - 2) (by omega)
          have hlt := hv.src.lt
          have hsl : s.data.toList.length = s.size := by rw [Array.length_toList]; rfl
          refine ⟨wanted_none rfl, wp_append_mstrH rfl (B := w.heap.size + 1) (l := l.take (l.length - 2)) (t := s) (by show OwnM _ _ (a2.eval (.tmp 37)) _; rw [e37]; exact hcut) e40 (by rw [List.length_take]; omega) (by omega) fun v' w' hown hgr hbl => ⟨v', rfl, ?_, ?_, ?_⟩⟩
          · rw [show a2.eval (.tmp 37) = _ from e37] at hgr
            exact hv.below.grown hgr hv.below.size (fun q e => by have := (hcut.lt e).1; omega)
          · exact ⟨_, hown.low (Nat.le_succ _), by rw [List.length_append, List.length_take]; omega, by rw [List.length_append, List.length_take]; omega⟩
          · exact ⟨.inr fun _ _ _ => trivial, .inr fun _ _ _ => trivial, .inr fun _ _ _ => trivial, .inr fun _ _ _ => trivial, .inr fun _ _ _ => trivial, .inr fun _ _ _ => trivial, .inr fun _ _ _ => trivial, .inr fun _ _ _ => trivial, .inl rfl, .inr fun _ _ h => h.elim, trivial⟩
      · intro a2 w2 hv hf hh
        obtain ⟨l2, ho2, hl1, hl2⟩ : ∃ l2, OwnM w.heap.size w2 (a2.eval (.tmp 10)) l2 ∧ 2 ≤ l2.length ∧ l2.length ≤ 580 := hh 9 (by decide)
        clear hh
        rw [fr_putAll hf]
        clear hf
        simp only [putAll]
        have HO := Box.mk ho2
        have HBW := Box.mk hv
        have HLO := Box.mk hl1
        have HHI := Box.mk hl2
        clear ho2 hl1 hl2 hv
        generalize a2.eval (.tmp 33) = u33
        generalize a2.eval (.tmp 34) = u34
        generalize a2.eval (.tmp 35) = u35
        generalize a2.eval (.tmp 36) = u36
        generalize a2.eval (.tmp 37) = u37
        generalize a2.eval (.tmp 38) = u38
        generalize a2.eval (.tmp 39) = u39
        generalize a2.eval (.tmp 40) = u40
        generalize a2.eval (.tmp 41) = u41
        generalize a2.eval (.tmp 10) = u10 at *
        clear a2
        simp only [Act.put, List.setIfInBounds_toArray, List.set_cons_succ, List.set_cons_zero]
        refine hK _ _ ?_
        clear hK HM7 HCAP hlo7 hhi7 hlt7
        obtain ⟨og, fc, rfl, hcap, hib⟩ := HO.out.form
        have HIB := Box.mk hib
        have hlo := HLO.out
        have hhi := HHI.out
        clear hib
        go_wp2_with fail
        · obtain ⟨q, hq, hqe⟩ := withI_range (at_ / 2) l2.length (by omega) (by omega)
          refine (withinF _ l2.length _ (by omega) (by omega)).mono ?_
          rintro e w11 ⟨he, rfl⟩
          rw [hqe] at he
          subst he
          have hcell := HIB.out.cellAtH hq
          have hfz := HO.out.thawed hq
          have HST := Box.mk (HO.out.put8 q x)
          go_wp2_with fail
          go_ret
          exact ⟨_, l2.set q x, rfl, by have := HST.out.1; exact this, by rw [List.length_set]; omega, by rw [List.length_set]; omega,
            HBW.out.grown HST.out.2 HBW.out.size (fun r e => by have := Option.some.inj e; have := (HO.out.lt (k := og) rfl).1; omega)⟩
        · go_ret
          exact ⟨_, l2, rfl, HO.out, by omega, by omega, HBW.out⟩
    · have h3b : ((k4 : Int) == 3) = false := by rw [beq_eq_false_iff_ne]; omega
      have HO := Box.mk (HM7.out.own.low (Nat.le_succ _))
      have HBW := Box.mk HM7.out.below
      have HLO := Box.mk HM7.out.lo
      have HHI := Box.mk (show l.length ≤ 580 by have := HM7.out.hi; omega)
      clear h3 HM7
      generalize l = l2 at *
      obtain ⟨og, fc, rfl, hcap, hib⟩ := HO.out.form
      have HIB := Box.mk hib
      have hlo := HLO.out
      have hhi := HHI.out
      clear hib
      go_wp2_with fail
      · obtain ⟨q, hq, hqe⟩ := withI_range (at_ / 2) l2.length (by omega) (by omega)
        refine (withinF _ l2.length _ (by omega) (by omega)).mono ?_
        rintro e w11 ⟨he, rfl⟩
        rw [hqe] at he
        subst he
        have hcell := HIB.out.cellAtH hq
        have hfz := HO.out.thawed hq
        have HST := Box.mk (HO.out.put8 q x)
        go_wp2_with fail
        go_ret
        exact ⟨_, l2.set q x, rfl, by have := HST.out.1; exact this, by rw [List.length_set]; omega, by rw [List.length_set]; omega,
          HBW.out.grown HST.out.2 HBW.out.size (fun r e => by have := Option.some.inj e; have := (HO.out.lt (k := og) rfl).1; omega)⟩
      · go_ret
        exact ⟨_, l2, rfl, HO.out, by omega, by omega, HBW.out⟩
end Go.Proofs.YtcdianojchmgpaaGreatDoor
namespace Go.Proofs.YtcdianojchmgpaaGreatDoor
open Go.RowKit

theorem isBytes_lenH {w : World} {a : Option Addr} {l : List UInt8} {c : Nat} (h : IsBytes w a l c) : l.length ≤ maxLen := by
  rcases h with ⟨_, rfl, _⟩ | ⟨_, _, h1, h2, _⟩
  · unfold maxLen; simp
  · omega
set_option maxRecDepth 100000 in
set_option maxHeartbeats 1000000 in
theorem shortH_any (l : List UInt8) (a : Option Addr) (c k : Nat) (w : World) (h : IsBytes w a l c) (_hk : k ≤ 1000) :
    Calls Tryz.prog 9 #[.slice a l.length c, .int .i64 k] w fun e w' => ∃ r, r = l.take k ∧ r.length ≤ k ∧ e = .returned (.slice a r.length c) ∧ IsBytes w' a r c ∧ w = w' := by
  have HB := Box.mk h
  have hml := isBytes_lenH h
  unfold maxLen at hml
  by_cases hlt : k < l.length
  · have hcap : k ≤ c := by
      rcases h with ⟨_, e, _⟩ | ⟨_, _, h1, _, _⟩
      · subst e; exact absurd hlt (Nat.not_lt_zero _)
      · omega
    obtain ⟨ad, rfl⟩ : ∃ ad, a = some ad := by
      rcases h with ⟨_, e, _⟩ | ⟨x, e, _⟩
      · subst e; exact absurd hlt (Nat.not_lt_zero _)
      · exact ⟨x, e⟩
    clear h
    have HT := Box.mk (show (l.take k).length = k by rw [List.length_take]; omega)
    go_enter Tryz.func9, Tryz.ntmps9
    go_wp2_with fail
    go_ret
    exact ⟨l.take k, rfl, by rw [HT.out]; exact Nat.le_refl _, by rw [HT.out]; rfl, isBytes_takeH HB.out k, rfl⟩
  · clear h
    have HT := Box.mk (show l.take k = l from List.take_of_length_le (by omega))
    go_enter Tryz.func9, Tryz.ntmps9
    go_wp2_with fail
    go_ret
    exact ⟨l, HT.out.symm, by omega, rfl, HB.out, rfl⟩
theorem endGo_cons (i : Nat) (x : UInt8) (r : List UInt8) : endGo i (x :: r) = if (x :: r).take 4 = crlf2 then ((i + 4 : Nat) : Int) else endGo (i + 1) r := by rw [endGo]
theorem endZ_take (l : List UInt8) (n : Nat) : endZ (l.take n) = if endZ l ≤ (n : Int) then endZ l else -1 := by
  have := endGo_take l n 0
  rw [Nat.zero_add] at this
  exact this
theorem endS_no {l : List UInt8} (h : endZ l = -1) (hl : l.length ≤ 9000) : endS l 10000 = (0, 4) := by
  unfold endS
  rw [h, if_neg (by omega), if_neg (by omega)]
theorem endS_yes {l : List UInt8} {k : Nat} (h : endZ l = k) (hl : k ≤ 9000) : endS l 10000 = ((k : Int), 0) := by
  unfold endS
  rw [h, if_pos (by omega)]
set_option maxRecDepth 100000 in
set_option maxHeartbeats 4000000 in
theorem headEnd_any (a ra ma : Option Addr) (n c rc mc : Nat) (at_ : Int) (x : UInt8) (raw more : List UInt8) (most : Int) (wild : Bool) (mm : Int) (w : World) (hi : IntsF w a n) (hn : n ≤ maxLen) (hr : IsBytes w ra raw rc) (hm : IsBytes w ma more mc) (hk : HdOk w mm) :
    Calls Tryz.prog 3 #[.slice a n c, .int .i64 at_, .int .u8 x.toNat, .slice ra raw.length rc, .slice ma more.length mc, .int .i64 most, .bool wild] w fun e w' => e = .returned (.bool true) ∧ Below w.heap.size w w' := by
  have HR := Box.mk hr
  have HMO := Box.mk hm
  have HK := Box.mk hk
  have HI := Box.mk hi
  clear hr hm hk hi
  go_enter Tryz.func3, Tryz.ntmps3
  go_wp2_with fail
  refine (wireH_any a n c false at_ x w HI.out hn).mono ?_
  rintro e w1 ⟨v1, l1, rfl, ho1, hlo1, hhi1, hb1⟩
  have HO1 := Box.mk ho1
  have HB1 := Box.mk hb1
  clear ho1 hb1 HI
  go_wp2_with fail
  refine (shortH_any more ma mc 30 _ (HMO.out.keep HB1.out) (by decide)).mono ?_
  rintro e w2 ⟨m2, -, hm2, rfl, hib2, rfl⟩
  have HIB2 := Box.mk hib2
  clear hib2
  have hsz := HB1.out.size
  go_wp2_with (at_builtin; refine wpList_append_mb _ rfl _ _ rfl rfl HO1.out rfl (r := m2) HIB2.out (by omega) (by omega) ?_)
  intro v3 w3 hown hgr hbl
  have HB3 := Box.mk (HB1.out.grown hgr hsz (fun q e => (HO1.out.lt e).1))
  obtain ⟨l3, hl3⟩ : ∃ q, q = l1 ++ m2 := ⟨_, rfl⟩
  rw [← hl3] at hown
  have hq3 : l3.length ≤ 630 := by rw [hl3, List.length_append]; omega
  have hq0 : 0 < l3.length := by rw [hl3, List.length_append]; omega
  obtain ⟨og, oc, rfl, hoc, hob⟩ := hown.form
  have HOB := Box.mk hob
  clear hown hgr hbl hob HIB2 HO1 hl3 hsz
  cases wild
  case' true =>
    go_wp2_with fail
    refine (shortH_any raw ra rc 300 _ (HR.out.keep HB3.out) (by decide)).mono ?_
    rintro e w4 ⟨r4, -, hr4, rfl, hib4, rfl⟩
    have HF := Box.mk hib4
    have HZ := Box.mk (show r4.length ≤ 3000000 by omega)
    clear hib4 hoc hq0 hq3 HOB HB1
    generalize ra = fa at *
    generalize rc = fc at *
    generalize r4 = l at *
    generalize most = ms at *
  case' false =>
    go_wp2_with fail
    refine (withinF most (l3.length + 20) _ (by omega) (by omega)).mono ?_
    rintro e w4 ⟨rfl, rfl⟩
    have HF := Box.mk HOB.out
    have HZ := Box.mk (show l3.length ≤ 3000000 by omega)
    clear hoc hq0 hq3 HOB HB1
    generalize withI most (l3.length + 20) = ms at *
    generalize l3 = l at *
    generalize some (⟨og, 0, none⟩ : Addr) = fa at *
    generalize oc = fc at *
  all_goals
    go_wp2_with fail
    refine (projEnd_any l fa fc ms mm _ HF.out HZ.out (HK.out.keep HB3.out)).mono ?_
    rintro e w5 ⟨rfl, hb5⟩
    have HB5 := Box.mk (below_trans HB3.out hb5)
    have HF5 := Box.mk (HF.out.keep hb5)
    clear hb5
    go_wp2_with fail
    refine (refEnd_any l fa fc ms _ HF5.out (by have := HZ.out; omega)).mono ?_
    rintro e w6 ⟨rfl, rfl⟩
    generalize (endS l ms).1 = z1 at *
    generalize (endS l ms).2 = z2 at *
    go_wp2_with fail
    refine (awakeH_any mm _ (HK.out.keep HB5.out)).mono ?_
    rintro e w7 ⟨rfl, hb7⟩
    have HB7 := Box.mk (below_trans HB5.out hb7)
    clear hb7
    go_wp2_with fail
    go_ret
    exact ⟨rfl, HB7.out⟩
set_option maxRecDepth 100000 in
set_option maxHeartbeats 4000000 in
theorem headGrows_any (a : Option Addr) (n c : Nat) (k : Int) (mm : Int) (w : World) (hi : IntsF w a n) (hn : n ≤ maxLen) (hk : HdOk w mm) :
    Calls Tryz.prog 4 #[.slice a n c, .int .i64 k] w fun e w' => e = .returned (.bool true) ∧ Below w.heap.size w w' := by
  have HK := Box.mk hk
  have HI := Box.mk hi
  clear hk hi
  go_enter Tryz.func4, Tryz.ntmps4
  go_wp2_with fail
  refine (wireH_any a n c false 0 0 w HI.out hn).mono ?_
  rintro e w1 ⟨v1, l, rfl, ho1, hlo, hhi, hb1⟩
  obtain ⟨og, oc, rfl, hoc, hob⟩ := ho1.form
  have HF := Box.mk hob
  have HB1 := Box.mk hb1
  clear ho1 hb1 HI hob
  obtain ⟨q, hq, hqe⟩ := withI_range k (l.length + 1) (by omega) (by omega)
  have HQE := Box.mk hqe
  have HT := Box.mk (show (l.take q).length = q by rw [List.length_take]; omega)
  have HZT := Box.mk (endZ_take l q)
  have hcase : endZ l = -1 ∨ ∃ K : Nat, endZ l = K ∧ K ≤ l.length := by
    rcases endGo_range l 0 with h | ⟨K, h, _, h2⟩
    · exact .inl h
    · exact .inr ⟨K, h, by omega⟩
  have HFT := Box.mk (fun W (h : IsBytes W (some ⟨og, 0, none⟩) l oc) (hk : HdOk W mm) => by
    have := projEnd_any (l.take q) (some ⟨og, 0, none⟩) oc 10000 mm W (isBytes_takeH h q) (by rw [HT.out]; omega) hk
    rw [HT.out] at this
    exact this)
  clear hqe
  obtain ⟨e1, e2, hE1, hE2, hcase⟩ : ∃ e1 e2, endS l 10000 = e1 ∧ endS (l.take q) 10000 = e2 ∧ ((e1 = (0, 4) ∧ e2 = (0, 4)) ∨ ∃ K : Nat, e1 = ((K : Int), 0) ∧ ((q < K ∧ e2 = (0, 4)) ∨ (¬ q < K ∧ e2 = ((K : Int), 0)))) := by
    refine ⟨_, _, rfl, rfl, ?_⟩
    rcases hcase with h | ⟨K, h, h2⟩
    · refine .inl ⟨endS_no h (by omega), endS_no ?_ (by rw [HT.out]; omega)⟩
      rw [HZT.out, h, if_pos (by omega)]
    · refine .inr ⟨K, endS_yes h (by omega), ?_⟩
      by_cases hlt : q < K
      · exact .inl ⟨hlt, endS_no (by rw [HZT.out, h, if_neg (by omega)]) (by rw [HT.out]; omega)⟩
      · exact .inr ⟨hlt, endS_yes (by rw [HZT.out, h, if_pos (by omega)]) (by omega)⟩
  have HE1 := Box.mk hE1
  rw [hE2] at HFT
  clear hE1 hE2 HZT HT
  go_wp2_with fail
  refine (projEnd_any l (some ⟨og, 0, none⟩) oc 10000 mm _ HF.out (by omega) (HK.out.keep HB1.out)).mono ?_
  rintro e w2 ⟨he, hb2⟩
  rw [HE1.out] at he
  have HB2 := Box.mk (below_trans HB1.out hb2)
  have HF2 := Box.mk (HF.out.keep hb2)
  clear hb2 HE1 HF HB1
  rcases hcase with ⟨rfl, rfl⟩ | ⟨K, rfl, ⟨hlt, rfl⟩ | ⟨hlt, rfl⟩⟩
  all_goals
    try dsimp only at he
    subst he
    go_wp2_with fail
    refine (withinF k (l.length + 1) _ (by omega) (by omega)).mono ?_
    rintro e w3 ⟨he, rfl⟩
    rw [HQE.out] at he
    subst he
    have hql : q ≤ l.length := by omega
    have hqc : q ≤ oc := by omega
    go_wp2_with fail
    refine (HFT.out _ HF2.out (HK.out.keep HB2.out)).mono ?_
    rintro e w4 ⟨rfl, hb4⟩
    have HB4 := Box.mk (below_trans HB2.out hb4)
    clear hb4
    go_wp2_with fail
    refine (awakeH_any mm _ (HK.out.keep HB4.out)).mono ?_
    rintro e w7 ⟨rfl, hb7⟩
    have HB7 := Box.mk (below_trans HB4.out hb7)
    clear hb7
    go_wp2_with fail
    go_ret
    exact ⟨rfl, HB7.out⟩
end Go.Proofs.YtcdianojchmgpaaGreatDoor
namespace Go.Proofs.YtcdianojchmgpaaGreatDoor
open Go.RowKit

theorem tok_no_colon {n : ByteArray} (h : tokS n = true) : ∀ c ∈ n.data.toList, c ≠ 58 := fun c hc => by
  unfold tokS at h
  simp only [Bool.and_eq_true] at h
  have h1 := List.all_eq_true.1 h.1 c hc
  intro e
  subst e
  have : tokB 58 = false := by decide +kernel
  rw [this] at h1; cases h1
theorem val_trim {v : ByteArray} (h : valS v = true) : trimBA v = v := by
  unfold valS at h
  simp only [Bool.and_eq_true] at h
  have h2 := h.2
  rw [toList_eq] at h2
  exact of_decide_eq_true h2
/-- The line of a valid field is parsed to the field. -/
theorem parse_line (n v P : ByteArray) (hn : tokS n = true) (hv : valS v = true) (hP : P.data.toList = n.data.toList ++ 58 :: 32 :: v.data.toList) : parseF P = some (n, v) := by
  have hnl : n.data.toList.length = n.size := by rw [Array.length_toList]; rfl
  have hsz : P.size = n.size + (2 + v.data.toList.length) := by
    have : P.size = P.data.toList.length := by rw [Array.length_toList]; rfl
    rw [this, hP, List.length_append, hnl]; simp; omega
  have hlt : n.size < P.size := by omega
  have hat : P.data.toList[n.size]? = some 58 := by
    rw [hP, List.getElem?_append_right (by omega), hnl, Nat.sub_self]; rfl
  have hc : colonI P = (n.size : Int) := by
    refine colonI_at P n.size hlt ?_ (fun j hj => ?_)
    · have h2 : P.data.toList[n.size]? = some P[n.size] := by
        rw [List.getElem?_eq_getElem (by simpa using hlt)]; rfl
      rw [hat] at h2
      exact (Option.some.inj h2).symm
    · rw [hP, List.getElem?_append_left (by omega)]
      intro e
      exact tok_no_colon hn 58 (List.mem_of_getElem? e) rfl
  rw [parseF_at hc]
  have e1 : P.extract 0 n.size = n := ba_ext (by
    rw [extract_ofL]
    show (ofL _).data.toList = _
    simp only [ofL, List.drop_zero, Nat.sub_zero, hP]
    rw [List.take_left' hnl])
  have e2 : trimBA (P.extract (n.size + 1) P.size) = v := by
    rw [← val_trim hv]
    refine ba_ext ?_
    rw [trimBA_list, trimBA_list, extract_ofL]
    have e3 : (P.data.toList.drop (n.size + 1)).take (P.size - (n.size + 1)) = 32 :: v.data.toList := by
      rw [hP, show n.size + 1 = n.data.toList.length + 1 by omega, List.drop_append, List.drop_of_length_le (by omega), Nat.add_sub_cancel_left, List.nil_append]
      show List.take _ (32 :: v.data.toList) = _
      exact List.take_of_length_le (by rw [List.length_cons]; omega)
    show trimL (ofL ((P.data.toList.drop (n.size + 1)).take (P.size - (n.size + 1)))).data.toList = _
    rw [e3]
    show trimL (32 :: v.data.toList) = _
    rw [trimL_front _ 32 (by decide)]
  rw [e1, e2, if_pos (by unfold fldB; rw [hn, hv]; rfl)]

end Go.Proofs.YtcdianojchmgpaaGreatDoor
namespace Go.Proofs.YtcdianojchmgpaaGreatDoor
open Go.ChangeShapes Go.WideShapes Go.ChangeAt Go.RowKit

theorem fields_none {H : Type} {enc : TypeId × Value → H} {W : World} {a : Option Addr} {len cap : Nat} {d : DataW H} {ps : List MemPlace} {base : Nat}
    (h : DataW.Trod enc Tryz.prog W base (fun _ => true) true 33 (.slice a len cap) d ps) : a = none → len = 0 ∧ cap = 0 := by
  obtain ⟨fuel, hf⟩ := h
  rcases Go.Deep.open_slice_pairs Tryz.underlying33 Tryz.underlying74 (by kernel_rfl) (by kernel_rfl) (by kernel_rfl) (by kernel_rfl) (by kernel_rfl) hf with ⟨hcs, _⟩ | ⟨x, n, c, m, k, V0, V1, D0, D1, P0, P1, hcs, _⟩
  · simp [Value.cells] at hcs
    obtain ⟨rfl, rfl, rfl⟩ := hcs
    exact fun _ => ⟨rfl, rfl⟩
  · simp [Value.cells] at hcs
    obtain ⟨rfl, rfl, rfl⟩ := hcs
    intro e; cases e
theorem open_fieldsC {H : Type} {enc : TypeId × Value → H} {W : World} {a : Option Addr} {len cap : Nat} {d : DataW H} {ps : List MemPlace} {base : Nat}
    (h : DataW.Trod enc Tryz.prog W base (fun _ => true) true 33 (.slice a len cap) d ps) :
    ∃ l : List Fld, len = l.length ∧ FldsC W a l cap ∧ l.length ≤ cap ∧ cap ≤ maxLen ∧ ShortF l ∧ (Rows.uptoBulk d ≤ 1048576 → SmallF l) := by
  obtain ⟨l, rfl, h1, h2, h3, h4, h5⟩ := open_fields h
  refine ⟨l, rfl, ⟨h1, fun e => ?_⟩, h2, h3, h4, fun hb f hf => ⟨Nat.le_trans (h5 f hf).1 hb, Nat.le_trans (h5 f hf).2 hb⟩⟩
  obtain ⟨e1, e2⟩ := fields_none h e
  exact ⟨List.eq_nil_of_length_eq_zero e1, e2⟩
theorem i64_ofF {x : Int} (h : (Lit.int .i64 x).wf = true) : -9223372036854775808 ≤ x ∧ x ≤ 9223372036854775807 := bounds_i64 h
theorem open_intsf {H : Type} {enc : TypeId × Value → H} {W : World} {a : Option Addr} {len cap : Nat} {d : DataW H} {ps : List MemPlace} {base : Nat}
    (h : DataW.Trod enc Tryz.prog W base (fun _ => true) true 22 (.slice a len cap) d ps) : IntsF W a len ∧ len ≤ maxLen := by
  obtain ⟨fuel, hf⟩ := h
  rcases open_ints Tryz.underlying22 Tryz.underlying3 (by kernel_rfl) hf with ⟨hcs, _⟩ | ⟨x, l, c, zs, hcs, _, hl, hm, hz, _, hcell, hwz⟩
  · simp [Value.cells] at hcs
    obtain ⟨rfl, rfl, rfl⟩ := hcs
    exact ⟨fun k hk => absurd hk (Nat.not_lt_zero _), Nat.zero_le _⟩
  · simp [Value.cells] at hcs
    obtain ⟨rfl, rfl, rfl⟩ := hcs
    have hz' : zs.length = cap := by simpa using hz
    refine ⟨fun k hk => ?_, Nat.le_trans hl hm⟩
    have hk' : k < zs.length := by omega
    have e : zs.getD k 0 = zs[k] := by rw [List.getD_eq_getElem?_getD, List.getElem?_eq_getElem hk']; rfl
    refine ⟨x, zs[k], rfl, by rw [hcell k hk', e], i64_ofF (hwz zs[k] (List.getElem_mem _))⟩
end Go.Proofs.YtcdianojchmgpaaGreatDoor
namespace Go.Proofs.YtcdianojchmgpaaGreatDoor
open Go.RowKit

theorem fieldsGo_len : ∀ (l : List ByteArray) (x : List Fld), fieldsGo l = some x → x.length = l.length
  | [], x, h => by cases h; rfl
  | s :: r, x, h => by
    unfold fieldsGo at h
    cases hs : parseF s with
    | none => rw [hs] at h; cases h
    | some f =>
      rw [hs] at h
      simp only at h
      cases hr : fieldsGo r with
      | none => rw [hr] at h; cases h
      | some y =>
        rw [hr] at h
        simp only [Option.map_some, Option.some.injEq] at h
        subst h
        rw [List.length_cons, List.length_cons, fieldsGo_len r y hr]
theorem fieldsS_len (l : List ByteArray) : (fieldsS l).2.length ≤ 64 := by
  unfold fieldsS
  split
  · simp
  · cases h : fieldsGo l with
    | none => simp
    | some x => simp only; rw [fieldsGo_len l x h]; omega
theorem headR_len (b : List UInt8) : (headR b).2.2.2.2.length ≤ 64 := by
  unfold headR
  split
  · rename_i l0 ls _
    split
    · split
      · split
        · simp
        · exact fieldsS_len ls
      · simp
    · simp
  · simp
theorem headA_len (b : List UInt8) : (headA b).2.2.2.2.length ≤ 64 := by
  unfold headA
  split
  · rename_i l0 ls _
    split
    · split
      · exact fieldsS_len ls
      · simp
    · simp
  · simp
theorem QVarH.all {w : World} {g : Nat} {m t : ByteArray} {z : Int} {v : Value} (h : QVarH w g m t z v) : g < w.heap.size ∧ w.cell? ⟨g, 0, none⟩ = some (.string m) ∧ w.cell? ⟨g, 1, none⟩ = some (.string t) ∧ w.cell? ⟨g, 2, none⟩ = some (.int .i64 z) ∧ w.cell? ⟨g, 3, none⟩ = some v ∧ w.cell? ⟨g, 4, none⟩ = some (.bool false) ∧ w.cell? ⟨g, 5, none⟩ = some (.slice none 0 0) := by
  refine ⟨(Array.getElem?_eq_some_iff.1 h).1, ?_, ?_, ?_, ?_, ?_, ?_⟩ <;> rw [cell_of_row _ _ _ _ _ _ h] <;> rfl
theorem AVarH.all {w : World} {g : Nat} {m : Int} {t : ByteArray} {z : Int} {v : Value} (h : AVarH w g m t z v) : g < w.heap.size ∧ w.cell? ⟨g, 0, none⟩ = some (.int .i64 m) ∧ w.cell? ⟨g, 1, none⟩ = some (.string t) ∧ w.cell? ⟨g, 2, none⟩ = some (.int .i64 z) ∧ w.cell? ⟨g, 3, none⟩ = some v ∧ w.cell? ⟨g, 4, none⟩ = some (.slice none 0 0) := by
  refine ⟨(Array.getElem?_eq_some_iff.1 h).1, ?_, ?_, ?_, ?_, ?_⟩ <;> rw [cell_of_row _ _ _ _ _ _ h] <;> rfl
set_option maxRecDepth 100000 in
set_option maxHeartbeats 4000000 in
theorem headParse_any (a ra : Option Addr) (n c rc : Nat) (reply : Bool) (at_ : Int) (x : UInt8) (raw : List UInt8) (wild : Bool) (mm : Int) (w : World) (hi : IntsF w a n) (hn : n ≤ maxLen) (hr : IsBytes w ra raw rc) (hk : HdOk w mm) :
    Calls Tryz.prog 5 #[.slice a n c, .bool reply, .int .i64 at_, .int .u8 x.toNat, .slice ra raw.length rc, .bool wild] w fun e w' => e = .returned (.bool true) ∧ Below w.heap.size w w' := by
  have HR := Box.mk hr
  have HK := Box.mk hk
  have HI := Box.mk hi
  clear hr hk hi
  go_enter Tryz.func5, Tryz.ntmps5
  go_wp2_with fail
  refine (wireH_any a n c reply at_ x w HI.out hn).mono ?_
  rintro e w1 ⟨v1, l1, rfl, ho1, hlo1, hhi1, hb1⟩
  obtain ⟨og, oc, rfl, hoc, hob⟩ := ho1.form
  have HOB := Box.mk hob
  have HB1 := Box.mk hb1
  clear ho1 hb1 HI hob
  cases wild
  case' true =>
    go_wp2_with fail
    refine (shortH_any raw ra rc 300 _ (HR.out.keep HB1.out) (by decide)).mono ?_
    rintro e w4 ⟨r4, -, hr4, rfl, hib4, rfl⟩
    have HF := Box.mk hib4
    have HZ := Box.mk (show r4.length ≤ 3000000 by omega)
    clear hib4 hoc HOB
    generalize ra = fa at *
    generalize rc = fc at *
    generalize r4 = l at *
  case' false =>
    have HF := Box.mk HOB.out
    have HZ := Box.mk (show l1.length ≤ 3000000 by omega)
    clear hoc HOB
    generalize l1 = l at *
    generalize some (⟨og, 0, none⟩ : Addr) = fa at *
    generalize oc = fc at *
  all_goals
    have HC1 := Box.mk (fun W (h : IsBytes W fa l fc) (hk : HdOk W mm) => projHeadReq_any l fa fc mm W h HZ.out hk)
    have HC2 := Box.mk (fun W (h : IsBytes W fa l fc) => refHeadReq_any l fa fc W h (by have := HZ.out; omega))
    have HC3 := Box.mk (fun W (h : IsBytes W fa l fc) (hk : HdOk W mm) => projHeadRep_any l fa fc mm W h HZ.out hk)
    have HC4 := Box.mk (fun W (h : IsBytes W fa l fc) => refHeadRep_any l fa fc W h (by have := HZ.out; omega))
    have hx1 := headR_len l
    have hx2 := headA_len l
    generalize headR l = R1 at *
    generalize headA l = R2 at *
    obtain ⟨e1, m1, t1, z1, x1⟩ := R1
    obtain ⟨e2, s2, r2, z2, x2⟩ := R2
    dsimp only at hx1 hx2
    go_wp2_with fail
    refine (HC1.out _ HF.out (HK.out.keep HB1.out)).mono ?_
    rintro e w2 ⟨f1, c1, he, hf1, hb2⟩
    dsimp only at he hf1
    subst he
    have HF2 := Box.mk (HF.out.keep hb2)
    have HB2 := Box.mk (below_trans HB1.out hb2)
    have HX1 := Box.mk hf1
    clear hb2 HB1 hf1 HC1
    go_wp2_with fail
    obtain ⟨W3, hW3⟩ : ∃ W3, W3 = w2.alloc (.cells #[.string m1, .string t1, .int .i64 z1, .slice f1 x1.length c1, .bool false, .slice none 0 0] 35) := ⟨_, rfl⟩
    have hb3 : Below w2.heap.size w2 W3 := by rw [hW3]; exact below_oneF w2 _
    have HV1 := Box.mk (show QVarH W3 w2.heap.size m1 t1 z1 (.slice f1 x1.length c1) by rw [hW3]; exact heap_alloc_new _ _)
    change Calls _ _ _ (w2.alloc (.cells #[.string m1, .string t1, .int .i64 z1, .slice f1 x1.length c1, .bool false, .slice none 0 0] 35)) _
    rw [← hW3]
    clear hW3
    refine (HC2.out _ (HF2.out.keep hb3)).mono ?_
    rintro e w4 ⟨f2, c2, he, hf2, hb4⟩
    dsimp only at he hf2
    subst he
    have HF4 := Box.mk ((HF2.out.keep hb3).keep hb4)
    have HB4 := Box.mk (below_trans (below_trans HB2.out hb3) hb4)
    have HX14 := Box.mk ((HX1.out.keep hb3).keep hb4)
    have HV14 := Box.mk (HV1.out.keep hb4)
    have HX2 := Box.mk hf2
    clear hb3 hb4 HB2 HF2 HX1 HV1 hf2 HC2
    go_wp2_with fail
    obtain ⟨W5, hW5⟩ : ∃ W5, W5 = w4.alloc (.cells #[.string m1, .string t1, .int .i64 z1, .slice f2 x1.length c2, .bool false, .slice none 0 0] 35) := ⟨_, rfl⟩
    have hb5 : Below w4.heap.size w4 W5 := by rw [hW5]; exact below_oneF w4 _
    have HV2 := Box.mk (show QVarH W5 w4.heap.size m1 t1 z1 (.slice f2 x1.length c2) by rw [hW5]; exact heap_alloc_new _ _)
    change Calls _ _ _ (w4.alloc (.cells #[.string m1, .string t1, .int .i64 z1, .slice f2 x1.length c2, .bool false, .slice none 0 0] 35)) _
    rw [← hW5]
    clear hW5
    refine (HC3.out _ (HF4.out.keep hb5) (HK.out.keep (below_trans HB4.out hb5))).mono ?_
    rintro e w6 ⟨f3, c3, he, hf3, hb6⟩
    dsimp only at he hf3
    subst he
    have HF6 := Box.mk ((HF4.out.keep hb5).keep hb6)
    have HB6 := Box.mk (below_trans (below_trans HB4.out hb5) hb6)
    have HX16 := Box.mk ((HX14.out.keep hb5).keep hb6)
    have HV16 := Box.mk ((HV14.out.keep hb5).keep hb6)
    have HX26 := Box.mk ((HX2.out.keep hb5).keep hb6)
    have HV26 := Box.mk (HV2.out.keep hb6)
    have HX3 := Box.mk hf3
    clear hb5 hb6 HB4 HF4 HX14 HV14 HX2 HV2 hf3 HC3
    go_wp2_with fail
    obtain ⟨W7, hW7⟩ : ∃ W7, W7 = w6.alloc (.cells #[.int .i64 s2, .string r2, .int .i64 z2, .slice f3 x2.length c3, .slice none 0 0] 39) := ⟨_, rfl⟩
    have hb7 : Below w6.heap.size w6 W7 := by rw [hW7]; exact below_oneF w6 _
    have HV3 := Box.mk (show AVarH W7 w6.heap.size s2 r2 z2 (.slice f3 x2.length c3) by rw [hW7]; exact heap_alloc_new _ _)
    change Calls _ _ _ (w6.alloc (.cells #[.int .i64 s2, .string r2, .int .i64 z2, .slice f3 x2.length c3, .slice none 0 0] 39)) _
    rw [← hW7]
    clear hW7
    refine (HC4.out _ (HF6.out.keep hb7)).mono ?_
    rintro e w8 ⟨f4, c4, he, hf4, hb8⟩
    dsimp only at he hf4
    subst he
    have hb78 := below_trans hb7 hb8
    have hB8 := below_trans HB6.out hb78
    obtain ⟨W9, hW9⟩ : ∃ W9, W9 = w8.alloc (.cells #[.int .i64 s2, .string r2, .int .i64 z2, .slice f4 x2.length c4, .slice none 0 0] 39) := ⟨_, rfl⟩
    have hb9 : Below w8.heap.size w8 W9 := by rw [hW9]; exact below_oneF w8 _
    have HV4 := Box.mk (show AVarH W9 w8.heap.size s2 r2 z2 (.slice f4 x2.length c4) by rw [hW9]; exact heap_alloc_new _ _)
    have HB9 := Box.mk (below_trans hB8 hb9)
    have HX19 := Box.mk ((HX16.out.keep hb78).keep hb9)
    have HV19 := Box.mk ((HV16.out.keep hb78).keep hb9)
    have HX29 := Box.mk ((HX26.out.keep hb78).keep hb9)
    have HV29 := Box.mk ((HV26.out.keep hb78).keep hb9)
    have HX39 := Box.mk ((HX3.out.keep hb78).keep hb9)
    have HV39 := Box.mk ((HV3.out.keep hb8).keep hb9)
    have HX49 := Box.mk (hf4.keep hb9)
    have HW9 := Box.mk hW9
    clear hb7 hb8 hb78 hB8 hb9 HB6 HF6 HX16 HV16 HX26 HV26 HX3 HV3 hf4 HC4 hW9
    obtain ⟨hl1, hc10, hc11, hc12, hc13, hc14, hc15⟩ := HV19.out.all
    obtain ⟨hl2, hc20, hc21, hc22, hc23, hc24, hc25⟩ := HV29.out.all
    rw [HW9.out] at hl1 hc10 hc11 hc12 hc13 hc14 hc15 hl2 hc20 hc21 hc22 hc23 hc24 hc25
    go_wp2_with fail
    clear hl1 hc10 hc11 hc12 hc13 hc14 hc15 hl2 hc20 hc21 hc22 hc23 hc24 hc25
    change Calls _ _ _ (w8.alloc (.cells #[.int .i64 s2, .string r2, .int .i64 z2, .slice f4 x2.length c4, .slice none 0 0] 39)) _
    rw [← HW9.out]
    refine (sameReq_any m1 t1 z1 false x1 [] f1 f2 none none c1 c2 0 0 W9 HX19.out HX29.out (.inl ⟨rfl, rfl, rfl⟩) (.inl ⟨rfl, rfl, rfl⟩) (by omega)).mono ?_
    rintro e w10 ⟨rfl, hb10⟩
    have HB10 := Box.mk (below_trans HB9.out hb10)
    obtain ⟨hl3, hc30, hc31, hc32, hc33, hc34⟩ := (HV39.out.keep hb10).all
    obtain ⟨hl4, hc40, hc41, hc42, hc43, hc44⟩ := (HV4.out.keep hb10).all
    have HX3A := Box.mk (HX39.out.keep hb10)
    have HX4A := Box.mk (HX49.out.keep hb10)
    clear hb10 HX39 HX49 HV39 HV4 HX19 HX29 HV19 HV29 HB9 HW9
    go_wp2_with fail
    clear hl3 hc30 hc31 hc32 hc33 hc34 hl4 hc40 hc41 hc42 hc43 hc44
    refine (sameRep_any s2 z2 r2 x2 [] f3 f4 none none c3 c4 0 0 w10 HX3A.out HX4A.out (.inl ⟨rfl, rfl, rfl⟩) (.inl ⟨rfl, rfl, rfl⟩) (by omega)).mono ?_
    rintro e w11 ⟨rfl, hb11⟩
    have HB11 := Box.mk (below_trans HB10.out hb11)
    clear hb11 HX3A HX4A HB10
    go_wp2_with fail
    refine (awakeH_any mm _ (HK.out.keep HB11.out)).mono ?_
    rintro e w12 ⟨rfl, hb12⟩
    have HB12 := Box.mk (below_trans HB11.out hb12)
    clear hb12
    go_wp2_with fail
    go_ret
    exact ⟨rfl, HB12.out⟩
end Go.Proofs.YtcdianojchmgpaaGreatDoor
namespace Go.Proofs.YtcdianojchmgpaaGreatDoor
open Go.RowKit

/-- No CR and no LF. -/
def noCL (l : List UInt8) : Prop := ∀ c ∈ l, ¬ c = 13 ∧ ¬ c = 10
theorem noCL.app {a b : List UInt8} (ha : noCL a) (hb : noCL b) : noCL (a ++ b) := fun c hc => by
  rcases List.mem_append.1 hc with h | h
  · exact ha c h
  · exact hb c h
theorem lines_word : ∀ (l cur r : List UInt8), noCL l → linesGo cur (l ++ 13 :: 10 :: r) = (linesGo [] r).map (⟨(cur ++ l).toArray⟩ :: ·)
  | [], cur, r, _ => by
    rw [List.nil_append, lines_more (by decide) (fun _ => rfl), lines_end (by simp), List.dropLast_concat, List.append_nil]
  | c :: l, cur, r, h => by
    have hc := h c (List.mem_cons_self ..)
    rw [List.cons_append, lines_more hc.2 (fun e => absurd e hc.1), lines_word l (cur ++ [c]) r (fun x hx => h x (List.mem_cons_of_mem _ hx)), List.append_assoc]
    rfl
def wordsB (ws : List (List UInt8)) : List UInt8 := ws.flatMap (· ++ [13, 10])
theorem wordsB_cons (w : List UInt8) (ws : List (List UInt8)) : wordsB (w :: ws) = w ++ 13 :: 10 :: wordsB ws := by
  unfold wordsB; rw [List.flatMap_cons, List.append_assoc]; rfl
theorem lines_words : ∀ ws : List (List UInt8), (∀ w ∈ ws, noCL w) → linesGo [] (wordsB ws) = some (ws.map fun w => (⟨w.toArray⟩ : ByteArray))
  | [], _ => by rw [show wordsB [] = [] from rfl, lines_nil]; rfl
  | w :: ws, h => by
    rw [wordsB_cons, lines_word w [] _ (h w (List.mem_cons_self ..)), lines_words ws (fun x hx => h x (List.mem_cons_of_mem _ hx))]
    rfl
theorem endGo_word : ∀ (l r : List UInt8) (i : Nat), noCL l → endGo i (l ++ r) = endGo (i + l.length) r
  | [], r, i, _ => rfl
  | c :: l, r, i, h => by
    have hc := h c (List.mem_cons_self ..)
    rw [List.cons_append, endGo_cons, if_neg (fun e => by
      have := congrArg List.head? e
      rw [List.take_succ_cons] at this
      exact hc.1 (Option.some.inj this)), endGo_word l r (i + 1) (fun x hx => h x (List.mem_cons_of_mem _ hx)), List.length_cons, show i + 1 + l.length = i + (l.length + 1) by omega]
theorem end_words : ∀ (ws : List (List UInt8)) (i : Nat), ¬ ws = [] → (∀ w ∈ ws, noCL w ∧ ¬ w = []) → endGo i (wordsB ws ++ [13, 10]) = ((i + (wordsB ws).length + 2 : Nat) : Int)
  | [], _, h, _ => absurd rfl h
  | w :: ws, i, _, h => by
    have hw := h w (List.mem_cons_self ..)
    have e : wordsB (w :: ws) ++ [13, 10] = w ++ 13 :: 10 :: (wordsB ws ++ [13, 10]) := by rw [wordsB_cons, List.append_assoc]; rfl
    have hl : (wordsB (w :: ws)).length = w.length + 2 + (wordsB ws).length := by rw [wordsB_cons, List.length_append, List.length_cons, List.length_cons]; omega
    rw [e, endGo_word w _ i hw.1, hl]
    cases ws with
    | nil =>
      rw [show wordsB [] = [] from rfl, List.nil_append, endGo_cons, if_pos (show List.take 4 [13, 10, 13, 10] = crlf2 from rfl)]
      rw [List.length_nil]
      omega
    | cons v vs =>
      have hv := h v (List.mem_cons_of_mem _ (List.mem_cons_self ..))
      obtain ⟨c, v', rfl⟩ : ∃ c v', v = c :: v' := by
        cases v with
        | nil => exact absurd rfl hv.2
        | cons c v' => exact ⟨c, v', rfl⟩
      have hc := hv.1 c (List.mem_cons_self ..)
      have hn : wordsB ((c :: v') :: vs) ++ [13, 10] = c :: (v' ++ 13 :: 10 :: (wordsB vs ++ [13, 10])) := by rw [wordsB_cons, List.append_assoc]; rfl
      have ih := end_words ((c :: v') :: vs) (i + w.length + 2) (by simp) (fun x hx => h x (List.mem_cons_of_mem _ hx))
      rw [endGo_cons, if_neg (fun e => by
        rw [hn] at e
        have := congrArg (fun l => l[2]?) e
        simp only [List.take_succ_cons, crlf2] at this
        exact hc.1 (Option.some.inj this)), endGo_cons, if_neg (fun e => by
        have := congrArg List.head? e
        rw [List.take_succ_cons] at this
        have h2 := Option.some.inj this
        revert h2; decide), show i + w.length + 1 + 1 = i + w.length + 2 by omega, ih]
      omega
theorem linesS_words (ws : List (List UInt8)) (h0 : ¬ ws = []) (h : ∀ w ∈ ws, noCL w ∧ ¬ w = []) : linesS (wordsB ws ++ [13, 10]) = some (ws.map fun w => (⟨w.toArray⟩ : ByteArray)) := by
  have e : wordsB ws ++ [13, 10] = wordsB (ws ++ [[]]) := by unfold wordsB; rw [List.flatMap_append]; rfl
  have h1 := end_words ws 0 h0 h
  have h2 : endGo 0 (wordsB ws ++ [13, 10]) = ((0 + (wordsB ws ++ [13, 10]).length : Nat) : Int) := by
    rw [h1, List.length_append, List.length_cons, List.length_cons, List.length_nil]; omega
  have h3 := end_suffix _ 0 h2
  unfold linesS endZ
  rw [if_pos ⟨by rw [h2, Nat.zero_add], h3.1⟩, e, lines_words (ws ++ [[]]) (fun w hw => by
    rcases List.mem_append.1 hw with hw | hw
    · exact (h w hw).1
    · obtain rfl := List.mem_singleton.1 hw
      exact fun c hc => absurd hc (by simp)), Option.map_some, List.map_append, List.map_cons, List.map_nil, List.dropLast_concat]
def lineW (f : Fld) : List UInt8 := f.1.data.toList ++ [58, 32] ++ f.2.data.toList
theorem linesB_words : ∀ x : List Fld, linesB x = wordsB (x.map lineW)
  | [] => rfl
  | f :: r => by
    have ih := linesB_words r
    unfold linesB at ih ⊢
    rw [List.flatMap_cons, List.map_cons, wordsB_cons, ← ih]
    unfold lineB lineW
    simp
theorem tok_noCL {m : ByteArray} (h : tokS m = true) : noCL m.data.toList := fun c hc => by
  unfold tokS at h
  rw [Bool.and_eq_true] at h
  have h1 := List.all_eq_true.1 h.1 c hc
  constructor
  · rintro rfl; revert h1; decide +kernel
  · rintro rfl; revert h1; decide +kernel
theorem targ_noCL {m : ByteArray} (h : targetS m = true) : noCL m.data.toList := fun c hc => by
  unfold targetS at h
  rw [Bool.and_eq_true] at h
  have h1 := List.all_eq_true.1 h.1 c hc
  constructor
  · rintro rfl; revert h1; decide +kernel
  · rintro rfl; revert h1; decide +kernel
theorem vis_noCL {m : ByteArray} (h : visS m = true) : noCL m.data.toList := fun c hc => by
  unfold visS at h
  have h1 := List.all_eq_true.1 h c hc
  constructor
  · rintro rfl; revert h1; decide +kernel
  · rintro rfl; revert h1; decide +kernel
def noCLb (l : List UInt8) : Bool := l.all fun c => !(c == 13) && !(c == 10)
theorem noCLb_ok {l : List UInt8} (h : noCLb l = true) : noCL l := fun c hc => by
  have := List.all_eq_true.1 h c hc
  simpa using this
theorem num_noCL {z : Int} (h0 : 0 ≤ z) (h1 : z ≤ 599) : noCL (fmtS 10 z).data.toList := by
  obtain ⟨k, rfl⟩ : ∃ k : Nat, z = k := ⟨z.toNat, by omega⟩
  have hk : k < 600 := by omega
  have h : ∀ m : Fin 600, noCLb (fmtS 10 (m.val : Int)).data.toList = true := by decide +kernel
  exact noCLb_ok (h ⟨k, hk⟩)
theorem nonempty_ba {s : ByteArray} (h : 0 < s.size) : ¬ s.data.toList = [] := fun e => by
  have h1 := congrArg List.length e
  rw [Array.length_toList, List.length_nil] at h1
  have h2 : s.data.size = s.size := rfl
  omega
theorem lineW_ok {f : Fld} (h : fldB f.1 f.2 = true) : noCL (lineW f) ∧ ¬ lineW f = [] := by
  unfold fldB at h
  rw [Bool.and_eq_true] at h
  have hv := h.2
  unfold valS at hv
  rw [Bool.and_eq_true] at hv
  refine ⟨((tok_noCL h.1).app (noCLb_ok (by decide))).app (vis_noCL hv.1), fun e => ?_⟩
  have h1 := congrArg List.length e
  unfold lineW at h1
  simp at h1
theorem fieldsGo_words : ∀ x : List Fld, allB x = true → fieldsGo (x.map fun f => (⟨(lineW f).toArray⟩ : ByteArray)) = some x
  | [], _ => rfl
  | f :: r, h => by
    have h0 := h
    unfold allB at h0
    rw [List.all_cons, Bool.and_eq_true] at h0
    have hf := h0.1
    unfold fldB at hf
    rw [Bool.and_eq_true] at hf
    have hp : parseF (⟨(lineW f).toArray⟩ : ByteArray) = some f := parse_line f.1 f.2 _ hf.1 hf.2 (by show lineW f = _; unfold lineW; simp)
    rw [List.map_cons]
    unfold fieldsGo
    rw [hp]
    simp only []
    rw [fieldsGo_words r h0.2]; rfl
theorem fieldsS_words {x : List Fld} (h : allB x = true) : fieldsS (x.map fun f => (⟨(lineW f).toArray⟩ : ByteArray)) = if 64 < x.length then (3, []) else (0, x) := by
  unfold fieldsS
  rw [List.length_map, fieldsGo_words x h]
theorem linesS_head {s : ByteArray} {x : List Fld} (hs : noCL s.data.toList) (h0 : 0 < s.size) (hx : allB x = true) : linesS (headB s x) = some (s :: x.map fun f => (⟨(lineW f).toArray⟩ : ByteArray)) := by
  have e : headB s x = wordsB (s.data.toList :: x.map lineW) ++ [13, 10] := by
    rw [headB_yes (by omega) hx, wordsB_cons, linesB_words x]
    simp
  rw [e, linesS_words _ (by simp) (fun w hw => by
    rcases List.mem_cons.1 hw with rfl | hw
    · exact ⟨hs, nonempty_ba h0⟩
    · obtain ⟨f, hf, rfl⟩ := List.mem_map.1 hw
      unfold allB at hx
      exact lineW_ok (List.all_eq_true.1 hx f hf)), List.map_cons, List.map_map]
  rfl
theorem fmtReq_line {m t : ByteArray} {z : Int} (hm : tokS m = true) (ht : targetS t = true) (hz : z = 0 ∨ z = 1) : noCL (fmtReq m t z).data.toList ∧ 0 < (fmtReq m t z).size := by
  unfold fmtReq
  rw [if_pos ⟨hm, ht, by omega, by omega⟩]
  refine ⟨?_, by simp only [ByteArray.size_append]; have e1 : http1.size = 8 := rfl; omega⟩
  rw [ba_app_list, ba_app_list, ba_app_list, ba_app_list]
  exact ((((tok_noCL hm).app (noCLb_ok (by decide))).app (targ_noCL ht)).app (noCLb_ok (by decide))).app (num_noCL (by omega) (by omega))
theorem headR_made {m t : ByteArray} {z : Int} {x : List Fld} (hm : tokS m = true) (ht : targetS t = true) (hz : z = 0 ∨ z = 1) (hx : allB x = true) :
    headR (headB (fmtReq m t z) x) = if 64 < x.length then (3, ⟨#[]⟩, ⟨#[]⟩, 0, []) else if 1 < (valuesL x hostN).length ∨ ((valuesL x hostN).length = 0 ∧ z = 1) then (2, ⟨#[]⟩, ⟨#[]⟩, 0, []) else (0, m, t, z, x) := by
  obtain ⟨h1, h2⟩ := fmtReq_line hm ht hz
  have h3 := linesS_head h1 h2 hx
  have h4 := twice_req hm ht hz
  have h5 := fieldsS_words hx
  unfold headR
  rw [h3]
  simp only []
  rw [h4]
  simp only []
  rw [h5]
  by_cases h64 : 64 < x.length
  · simp only [if_pos h64]; rfl
  · simp only [if_neg h64]; rfl
theorem fmtRep_line {st z : Int} {r : ByteArray} (h0 : 100 ≤ st) (h1 : st ≤ 599) (hz : z = 0 ∨ z = 1) (hr : visS r = true) : noCL (fmtRep st r z).data.toList := by
  unfold fmtRep
  rw [if_pos ⟨h0, h1, by omega, by omega, hr⟩]
  rw [ba_app_list, ba_app_list, ba_app_list, ba_app_list, ba_app_list]
  exact (((((noCLb_ok (by decide) : noCL http0.data.toList).app (num_noCL (by omega) (by omega))).app (noCLb_ok (by decide))).app (num_noCL (by omega) h1)).app (noCLb_ok (by decide))).app (vis_noCL hr)
theorem headA_made {st z : Int} {r : ByteArray} {x : List Fld} (h0 : 100 ≤ st) (h1 : st ≤ 599) (hz : z = 0 ∨ z = 1) (hr : visS r = true) (hx : allB x = true) (hl : x.length ≤ 64) : headA (headB (fmtRep st r z) x) = (0, st, r, z, x) := by
  obtain ⟨h2, h3⟩ := twice_rep h0 h1 hz hr
  have h4 := linesS_head (fmtRep_line h0 h1 hz hr) h3 hx
  have h5 := fieldsS_words hx
  rw [if_neg (by omega)] at h5
  unfold headA
  rw [h4]
  simp only []
  rw [h2]
  simp only []
  rw [h5]; rfl
theorem headA_nil : headA [] = (2, 0, ⟨#[]⟩, 0, []) := rfl
theorem namesF_host : (namesF.all fun s => !foldS s hostN) = true := by decide +kernel
theorem SrcF.nohost {f : Fld} (h : SrcF f) : foldS f.1 hostN = false := by
  obtain ⟨s, hs, v, hv, rfl⟩ := h
  have := List.all_eq_true.1 namesF_host s hs
  simpa using this
theorem valuesL_app (x y : List Fld) (n : ByteArray) : valuesL (x ++ y) n = valuesL x n ++ valuesL y n := by
  unfold valuesL; rw [List.filter_append, List.map_append]
theorem valuesL_none {x : List Fld} {n : ByteArray} (h : ∀ f ∈ x, foldS f.1 n = false) : valuesL x n = [] := by
  unfold valuesL
  rw [List.filter_eq_nil_iff.2 (fun f hf => by rw [h f hf]; decide)]; rfl
theorem valuesL_no1 {f : Fld} {n : ByteArray} (h : foldS f.1 n = false) : valuesL [f] n = [] := valuesL_none fun k hk => by
  obtain rfl := List.mem_singleton.1 hk; exact h
theorem RF1.host {x : List Fld} (h : RF1 x) : (valuesL x hostN).length = 1 := by
  obtain ⟨y, h1, _, rfl⟩ := h
  rw [valuesL_app, valuesL_none (fun f hf => (h1 f hf).nohost)]
  decide +kernel
theorem RF2.host {x : List Fld} (h : RF2 x) : (valuesL x hostN).length = 1 := by
  rcases h with h | ⟨y, s, h1, h2, rfl⟩
  · exact h.host
  · rw [valuesL_app, valuesL_no1 (by show foldS ⟨#[67, 111, 111, 107, 105, 101]⟩ hostN = false; decide +kernel), List.append_nil, h1.host]
theorem RF3.host {x : List Fld} (h : RF3 x) : (valuesL x hostN).length = 1 := by
  rcases h with h | ⟨y, h1, rfl⟩
  · exact h.host
  · rw [valuesL_app, valuesL_no1 (by decide +kernel), List.append_nil, h1.host]
theorem headR_req {m t : ByteArray} {z : Int} {x : List Fld} (hm : tokS m = true) (ht : targetS t = true) (hz : z = 0 ∨ z = 1) (hx : RF3 x) : headR (headB (fmtReq m t z) x) = (0, m, t, z, x) := by
  have h1 := hx.made
  have h2 := hx.host
  rw [headR_made hm ht hz (allB_yes fun f hf => (h1.1 f hf).1), if_neg (by omega), if_neg (by omega)]
end Go.Proofs.YtcdianojchmgpaaGreatDoor
namespace Go.Proofs.YtcdianojchmgpaaGreatDoor
open Go.RowKit

theorem FldsIn.grownH {w w' : World} {a : Option Addr} {l : List Fld} {row : Option Nat} (h : FldsIn w a l) (hg : w.grownBy w' row) (hne : ∀ x, a = some x → some x.block ≠ row) : FldsIn w' a l := fun j hj => by
  obtain ⟨x, e, h1, h2⟩ := h j hj
  refine ⟨x, e, ?_, ?_⟩
  · rw [World.cell?_of_block (hg.block _ (lt_cell h1) (by rw [add_blockF]; exact hne x e))]; exact h1
  · rw [World.cell?_of_block (hg.block _ (lt_cell h2) (by rw [add_blockF]; exact hne x e))]; exact h2
theorem ownF_block {B : Nat} {w : World} {fa : Option Addr} {n c : Nat} {x : List Fld} (h : OwnF B w (.slice fa n c) x) : ∀ y, fa = some y → B ≤ y.block ∧ y.block < w.heap.size := fun y e => by
  subst e
  exact h.lt (k := y.block) rfl
/-- A request's variable, whatever its body. -/
def QVarT (w : World) (g : Nat) (m t : ByteArray) (z : Int) (v : Value) (fr : Bool) (u : Value) : Prop := w.heap[g]? = some (.cells #[.string m, .string t, .int .i64 z, v, .bool fr, u] 35 (0, 0))
theorem QVarT.keep {w w' : World} {g : Nat} {m t : ByteArray} {z : Int} {v u : Value} {fr : Bool} (h : QVarT w g m t z v fr u) (hb : Below w.heap.size w w') : QVarT w' g m t z v fr u := by
  unfold QVarT at *
  rw [hb.block g (Array.getElem?_eq_some_iff.1 h).1]; exact h
theorem QVarT.two {w : World} {g : Nat} {m t : ByteArray} {z : Int} {v u : Value} {fr : Bool} (h : QVarT w g m t z v fr u) (x : Value) : w.cell? ⟨g, 5, none⟩ = some u ∧ w.frozen? ⟨g, 5, none⟩ = false ∧ (w.setCell ⟨g, 5, none⟩ x).cell? ⟨g, 4, none⟩ = some (.bool fr) ∧ (w.setCell ⟨g, 5, none⟩ x).frozen? ⟨g, 4, none⟩ = false ∧
    QVarT ((w.setCell ⟨g, 5, none⟩ x).setCell ⟨g, 4, none⟩ (.bool false)) g m t z v false x := by
  unfold QVarT at *
  have h2 : (w.setCell ⟨g, 5, none⟩ x).heap[g]? = some (.cells #[.string m, .string t, .int .i64 z, v, .bool fr, x] 35 (0, 0)) := by rw [heap_setCell_same _ _ _ _ _ _ h]; rfl
  refine ⟨by rw [cell_of_row _ _ _ _ _ _ h]; rfl, by simp [World.frozen?, h], by rw [cell_of_row _ _ _ _ _ _ h2]; rfl, by simp [World.frozen?, h2], ?_⟩
  rw [heap_setCell_same _ _ _ _ _ _ h2]; rfl
theorem rep_size (st : Int) (r : ByteArray) (z : Int) (h : r.size ≤ 1048576) : (fmtRep st r z).size ≤ 2000000 := by
  have := fmtRep_size st r z (by omega)
  unfold fmtRep
  split
  · rename_i hh
    have h1 := fmtS_small hh.2.2.1 hh.2.2.2.1
    have h2 := fmtS_code (z := st) (by omega) hh.2.1
    simp only [ByteArray.size_append]
    have e1 : http0.size = 7 := rfl
    have e2 : (⟨#[32]⟩ : ByteArray).size = 1 := rfl
    omega
  · exact Nat.zero_le _
theorem rep_head {st z : Int} {r : ByteArray} {x : List Fld} (h0 : 100 ≤ st) (h1 : st ≤ 599) (hz : z = 0 ∨ z = 1) (hr : visS r = true) (hx : allB x = true) (ht : TinyF x) (hl : x.length ≤ 5) (hs : (fmtRep st r z).size ≤ 2000000) : ¬ (headB (fmtRep st r z) x).length = 0 ∧ (headB (fmtRep st r z) x).length ≤ 3000000 := by
  have e := headB_yes (s := fmtRep st r z) (x := x) (by have := (twice_rep h0 h1 hz hr).2; omega) hx
  have h2 := linesB_tiny x ht
  have h3 : (fmtRep st r z).data.toList.length = (fmtRep st r z).size := by rw [Array.length_toList]; rfl
  rw [e]
  simp only [List.length_append, List.length_cons, List.length_nil]
  constructor <;> omega
set_option maxRecDepth 100000 in
set_option maxHeartbeats 4000000 in
theorem headTwice_any (a : Option Addr) (n c : Nat) (status minor : Int) (reason : ByteArray) (mm : Int) (w : World) (hi : IntsF w a n) (hn : n ≤ maxLen) (hr : reason.size ≤ 1048576) (hm : HdOk w mm) (ht : Tabs w) :
    Calls Tryz.prog 7 #[.slice a n c, .int .i64 status, .int .i64 minor, .string reason] w fun e w' => e = .returned (.bool true) ∧ Below w.heap.size w w' := by
  have HM := Box.mk hm
  have HT := Box.mk ht
  have HS0 := Box.mk (src_box (c := c) hi hn)
  have HB0 := Box.mk (below_oneF w (.cells #[.slice a n c, .int .i64 0] 47))
  clear hi hn hm ht
  obtain ⟨k, hk, hwk⟩ := withI_range status 500 (by decide) (by decide)
  have HWK := Box.mk hwk
  clear hwk
  obtain ⟨z2, hz2, hz01⟩ := and1 minor
  go_enter Tryz.func7, Tryz.ntmps7
  go_wp2_with fail
  refine (srcReq_any w.heap.size a n c _ HS0.out).mono ?_
  rintro e w5 ⟨m, t, z, v5, y, fr, vB, bl, rfl, hmm, htt, hz, ho5, hbo, hR3, hbl, hfr, hs5, hg5⟩
  obtain ⟨fa, fc, rfl, hfc, _⟩ := ho5.shape
  obtain ⟨ba, bc, rfl, _⟩ := hbo.val
  obtain ⟨hp0, hp1⟩ := fmtReq_made hmm htt hz
  obtain ⟨-, hlo, hhi⟩ := headB_made hp0 hp1 hR3.made.1 hR3.tiny hR3.made.2
  have HB5 := Box.mk (below_box HB0.out hg5)
  have HS5 := Box.mk hs5
  have HF5 := Box.mk hfc.1
  have HFB := Box.mk (ownF_block ho5)
  have hlt0 : w.heap.size < (w.alloc (.cells #[.slice a n c, .int .i64 0] 47)).heap.size := HS0.out.lt
  have HLW := Box.mk (show w.heap.size < w5.heap.size from hs5.lt)
  have HLS := Box.mk hs5.low
  have HFG := Box.mk (fun W W' (h : FldsIn W fa y) (hg : W.grownBy W' (some w.heap.size)) => h.grownH hg fun x e e2 => by have := (ownF_block ho5 x e).1; have := Option.some.inj e2; omega)
  have HP := Box.mk (headR_req (meth_at hmm).1 (targ_at htt).1 hz hR3)
  have HLO := Box.mk hlo
  have HHI := Box.mk hhi
  have hyl : y.length ≤ 6 := hR3.made.2
  have HCALL := Box.mk (fun W (h : FldsIn W fa y) (hk : HdOk W mm) => projFmtReq_any m t z fr y fa ba fc bl.length bc mm W (by have := (meth_at hmm).2; omega) (by have := (targ_at htt).2; omega) h hR3.tiny.small (by omega) (by omega) hk)
  clear hlt0 hp0 hp1 hlo hhi hmm htt hz ho5 hbo hR3 hbl hfr hs5 hg5 hfc HS0 HB0
  generalize headB (fmtReq m t z) y = b at *
  go_wp2_with fail
  obtain ⟨W6, hW6⟩ : ∃ W6, W6 = w5.alloc (.cells #[.string m, .string t, .int .i64 z, .slice fa y.length fc, .bool fr, .slice ba bl.length bc] 35) := ⟨_, rfl⟩
  have hb6 : Below w5.heap.size w5 W6 := by rw [hW6]; exact below_oneF w5 _
  have HV6 := Box.mk (show QVarT W6 w5.heap.size m t z (.slice fa y.length fc) fr (.slice ba bl.length bc) by rw [hW6]; exact heap_alloc_new _ _)
  have HB6 := Box.mk (below_trans HB5.out hb6)
  have HF6 := Box.mk (HF5.out.keep hb6)
  have HS6 := Box.mk (HS5.out.keep hb6)
  have hsz6 : w5.heap.size < W6.heap.size := by rw [hW6]; show _ < (w5.heap.push _).size; rw [Array.size_push]; exact Nat.lt_succ_self _
  change Calls _ _ _ (w5.alloc (.cells #[.string m, .string t, .int .i64 z, .slice fa y.length fc, .bool fr, .slice ba bl.length bc] 35)) _
  rw [← hW6]
  clear hW6 hb6 HF5 HS5
  refine (HCALL.out W6 HF6.out (HM.out.keep HB6.out)).mono ?_
  rintro e w7 ⟨qa, qc, rfl, hib, hb7⟩
  have HIB := Box.mk hib
  have HB7 := Box.mk (below_trans HB6.out hb7)
  have HV7 := Box.mk (HV6.out.keep hb7)
  have HF7 := Box.mk (HF6.out.keep hb7)
  have HS7 := Box.mk (HS6.out.keep hb7)
  have hsz7 : W6.heap.size ≤ w7.heap.size := hb7.size
  clear hib hb7 HV6 HF6 HS6 HB6 HCALL
  go_wp2_with fail
  refine (projHeadReqF_any b qa qc mm w7 HIB.out (by have := HHI.out; omega) (HM.out.keep HB7.out)).mono ?_
  rintro e w8 ⟨f2, c2, he, hf2, hfr2, hb8⟩
  rw [HP.out] at he hf2
  dsimp only at he hf2
  subst he
  obtain ⟨W9, hW9⟩ : ∃ W9, W9 = w8.alloc (.cells #[.string m, .string t, .int .i64 z, .slice f2 y.length c2, .bool false, .slice none 0 0] 35) := ⟨_, rfl⟩
  have hb9 : Below w8.heap.size w8 W9 := by rw [hW9]; exact below_oneF w8 _
  have HV9 := Box.mk ((HV7.out.keep hb8).keep hb9)
  have HF9 := Box.mk ((HF7.out.keep hb8).keep hb9)
  have HS9 := Box.mk ((HS7.out.keep hb8).keep hb9)
  have HB9 := Box.mk (below_trans (below_trans HB7.out hb8) hb9)
  have HQ9 := Box.mk (show QVarH W9 w8.heap.size m t z (.slice f2 y.length c2) by rw [hW9]; exact heap_alloc_new _ _)
  have HG9 := Box.mk (hf2.keep hb9)
  have HFR := Box.mk hfr2
  have HGL := Box.mk (show ∀ x, f2 = some x → w5.heap.size < x.block from fun x e => by have := hfr2 x e; omega)
  have hsz8 : w7.heap.size ≤ w8.heap.size := hb8.size
  have hsz9 : w8.heap.size < W9.heap.size := by rw [hW9]; show _ < (w8.heap.push _).size; rw [Array.size_push]; exact Nat.lt_succ_self _
  obtain ⟨k5, z5, k4, z4, hq9⟩ := HV9.out.two (.slice none 0 0)
  rw [hW9] at k5 z5 k4 z4
  have HQN := Box.mk hq9
  have HW9 := Box.mk hW9
  clear hb8 hb9 hq9 HV7 HF7 HS7 HB7 hf2 hfr2 HP HIB hW9 HV9
  go_wp2_with fail
  have hgw : w.heap.size ≤ w5.heap.size := HB5.out.size
  obtain ⟨W10, hW10⟩ : ∃ W10, W10 = (W9.setCell ⟨w5.heap.size, 5, none⟩ (.slice none 0 0)).setCell ⟨w5.heap.size, 4, none⟩ (.bool false) := ⟨_, rfl⟩
  have hoth : ∀ g, g ≠ w5.heap.size → W10.heap[g]? = W9.heap[g]? := fun g hg => by
    rw [hW10, heap_setCell_other _ _ _ _ (show g ≠ w5.heap.size from hg), heap_setCell_other _ _ _ _ (show g ≠ w5.heap.size from hg)]
  have HR10 := Box.mk (show QVarT W10 w5.heap.size m t z (.slice fa y.length fc) false (.slice none 0 0) by rw [hW10]; exact HQN.out)
  have HQ10 := Box.mk (show QVarH W10 w8.heap.size m t z (.slice f2 y.length c2) by unfold QVarH; rw [hoth _ (by omega)]; exact HQ9.out)
  have HF10 := Box.mk (HF9.out.same fun q e => hoth _ (by have := (HFB.out q e).2; omega))
  have HG10 := Box.mk (HG9.out.same fun q e => hoth _ (by have := HFR.out q e; omega))
  have HB10 := Box.mk (show Below w.heap.size w W10 by rw [hW10]; exact (HB9.out.setCell (p := ⟨w5.heap.size, 5, none⟩) hgw _).setCell (p := ⟨w5.heap.size, 4, none⟩) hgw _)
  have HS10 := Box.mk (HS9.out.other (q := w5.heap.size) (show W9.grownBy W10 (some w5.heap.size) by rw [hW10]; exact grownBy_trans grownBy_setCell grownBy_setCell) (by have := HLW.out; omega) (fun x e h0 => by have := HLS.out x e h0; omega))
  rw [← HW9.out, ← hW10]
  clear hW10 hoth HQN HQ9 HF9 HG9 HB9 HS9 HFB HFR HW9 k5 z5 k4 z4 hgw
  refine (withinF status 500 _ (by decide) (by decide)).mono ?_
  rintro e w11 ⟨he, hww⟩
  rw [HWK.out] at he
  subst he hww
  go_wp2_with fail
  refine (srcFieldsS_any w.heap.size 5 a n c _ HS10.out (by decide)).mono ?_
  rintro e w12 ⟨v12, y2, rfl, ho12, hl12, hf12, _, hg12⟩
  obtain ⟨fa2, fc2, rfl, hfc2, _⟩ := ho12.shape
  have htn : TinyF y2 := fun f hf => (hf12 f hf).tiny
  have HAL := Box.mk (show allB y2 = true from allB_yes fun f hf => (hf12 f hf).made.1)
  have hne : w.heap.size ≠ w5.heap.size := by have := HLW.out; omega
  have hne2 : w.heap.size ≠ w8.heap.size := by have := HLW.out; omega
  have HR12 := Box.mk (show QVarT w12 w5.heap.size m t z (.slice fa y.length fc) false (.slice none 0 0) by
    unfold QVarT; rw [hg12.block _ (Array.getElem?_eq_some_iff.1 HR10.out).1 (fun e => hne (Option.some.inj e).symm)]; exact HR10.out)
  have HQ12 := Box.mk (show QVarH w12 w8.heap.size m t z (.slice f2 y.length c2) by
    unfold QVarH; rw [hg12.block _ (Array.getElem?_eq_some_iff.1 HQ10.out).1 (fun e => hne2 (Option.some.inj e).symm)]; exact HQ10.out)
  have HB12 := Box.mk (below_box HB10.out hg12)
  have HF12 := Box.mk (HFG.out _ _ HF10.out hg12)
  have HG12 := Box.mk (HG10.out.grownH hg12 fun x e e2 => by have := HGL.out x e; have := Option.some.inj e2; have := HLW.out; omega)
  have hsz12 := hfc2.1
  have HX12 := Box.mk hfc2.1
  have HTN := Box.mk htn
  clear hne hne2 hg12 ho12 hf12 hfc2 htn hsz12 HR10 HQ10 HB10 HF10 HG10 HS10 HFG HGL HLS
  go_wp2_with fail
  obtain ⟨W13, hW13⟩ : ∃ W13, W13 = w12.alloc (.cells #[.int .i64 (100 + (k : Int)), .string reason, .int .i64 z2, .slice fa2 y2.length fc2, .slice none 0 0] 39) := ⟨_, rfl⟩
  have hb13 : Below w12.heap.size w12 W13 := by rw [hW13]; exact below_oneF w12 _
  have HA13 := Box.mk (show AVarH W13 w12.heap.size (100 + (k : Int)) reason z2 (.slice fa2 y2.length fc2) by rw [hW13]; exact heap_alloc_new _ _)
  have HB13 := Box.mk (below_trans HB12.out hb13)
  have HR13 := Box.mk (HR12.out.keep hb13)
  have HQ13 := Box.mk (HQ12.out.keep hb13)
  have HF13 := Box.mk (HF12.out.keep hb13)
  have HG13 := Box.mk (HG12.out.keep hb13)
  have HX13 := Box.mk (HX12.out.keep hb13)
  change Calls _ _ _ (w12.alloc (.cells #[.int .i64 (100 + (k : Int)), .string reason, .int .i64 z2, .slice fa2 y2.length fc2, .slice none 0 0] 39)) _
  rw [← hW13]
  clear hW13 hb13 HB12 HR12 HQ12 HF12 HG12 HX12
  have HSZ := Box.mk (show (fmtRep (100 + (k : Int)) reason z2).size ≤ 2000000 from rep_size _ _ _ hr)
  refine (projFmtRep_any (100 + (k : Int)) reason z2 y2 fa2 none fc2 0 0 W13 (by omega) HX13.out HTN.out.small (by omega) (by have := HSZ.out; omega) (tabs_below HT.out HB13.out)).mono ?_
  rintro e w14 ⟨pa, pc, he, hib, hb14⟩
  have HIB := Box.mk hib
  have HA14 := Box.mk (HA13.out.keep hb14)
  have HB14 := Box.mk (below_trans HB13.out hb14)
  have HR14 := Box.mk (HR13.out.keep hb14)
  have HQ14 := Box.mk (HQ13.out.keep hb14)
  have HF14 := Box.mk (HF13.out.keep hb14)
  have HG14 := Box.mk (HG13.out.keep hb14)
  have HX14 := Box.mk (HX13.out.keep hb14)
  clear hib hb14 HA13 HB13 HR13 HQ13 HF13 HG13 HX13
  generalize w5.heap.size = g1 at *
  generalize w8.heap.size = g2 at *
  generalize w12.heap.size = g3 at *
  have hst0 : 100 ≤ 100 + (k : Int) := by omega
  have hst1 : 100 + (k : Int) ≤ 599 := by omega
  cases hv : visS reason with
  | true =>
    have HP := Box.mk (headA_made hst0 hst1 hz01 hv HAL.out (by omega))
    have HBL := Box.mk (rep_head hst0 hst1 hz01 hv HAL.out HTN.out hl12 HSZ.out)
    have HV := Box.mk hv
    clear hv HAL HTN
    generalize headB (fmtRep (100 + (k : Int)) reason z2) y2 = b2 at *
    generalize (100 + (k : Int)) = st at *
    subst he
    have hbl0 := HBL.out.1
    go_wp2_with fail
    refine (projHeadRep_any b2 pa pc mm w14 HIB.out HBL.out.2 (HM.out.keep HB14.out)).mono ?_
    rintro e w15 ⟨f3, c3, he, hf3, hb15⟩
    rw [HP.out] at he hf3
    dsimp only at he hf3
    subst he
    obtain ⟨W16, hW16⟩ : ∃ W16, W16 = w15.alloc (.cells #[.int .i64 st, .string reason, .int .i64 z2, .slice f3 y2.length c3, .slice none 0 0] 39) := ⟨_, rfl⟩
    have hb16 : Below w15.heap.size w15 W16 := by rw [hW16]; exact below_oneF w15 _
    have hb1516 := below_trans hb15 hb16
    have HD16 := Box.mk (show AVarH W16 w15.heap.size st reason z2 (.slice f3 y2.length c3) by rw [hW16]; exact heap_alloc_new _ _)
    have HA16 := Box.mk (HA14.out.keep hb1516)
    have HB16 := Box.mk (below_trans HB14.out hb1516)
    have HR16 := Box.mk (HR14.out.keep hb1516)
    have HQ16 := Box.mk (HQ14.out.keep hb1516)
    have HF16 := Box.mk (HF14.out.keep hb1516)
    have HG16 := Box.mk (HG14.out.keep hb1516)
    have HX16 := Box.mk (HX14.out.keep hb1516)
    have HZ16 := Box.mk (hf3.keep hb16)
    have HW16 := Box.mk hW16
    obtain ⟨hl1, hc10, hc11, hc12, hc13, hc14, hc15⟩ := QVarH.all HR16.out
    obtain ⟨hl2, hc20, hc21, hc22, hc23, hc24, hc25⟩ := HQ16.out.all
    rw [HW16.out] at hl1 hc10 hc11 hc12 hc13 hc14 hc15 hl2 hc20 hc21 hc22 hc23 hc24 hc25
    clear hb15 hb16 hb1516 hf3 hW16 HA14 HB14 HR14 HQ14 HF14 HG14 HX14 HP HIB
    go_wp2_with fail
    clear hl1 hc10 hc11 hc12 hc13 hc14 hc15 hl2 hc20 hc21 hc22 hc23 hc24 hc25
    change Calls _ _ _ (w15.alloc (.cells #[.int .i64 st, .string reason, .int .i64 z2, .slice f3 y2.length c3, .slice none 0 0] 39)) _
    rw [← HW16.out]
    refine (sameReq_any m t z false y [] fa f2 none none fc c2 0 0 W16 HF16.out HG16.out (.inl ⟨rfl, rfl, rfl⟩) (.inl ⟨rfl, rfl, rfl⟩) (by omega)).mono ?_
    rintro e w17 ⟨rfl, hb17⟩
    have HB17 := Box.mk (below_trans HB16.out hb17)
    have HX17 := Box.mk (HX16.out.keep hb17)
    have HZ17 := Box.mk (HZ16.out.keep hb17)
    obtain ⟨hl3, hc30, hc31, hc32, hc33, hc34⟩ := (HA16.out.keep hb17).all
    obtain ⟨hl4, hc40, hc41, hc42, hc43, hc44⟩ := (HD16.out.keep hb17).all
    clear hb17 HB16 HX16 HZ16 HA16 HD16 HF16 HG16 HR16 HQ16 HW16
    go_wp2_with fail
    clear hl3 hc30 hc31 hc32 hc33 hc34 hl4 hc40 hc41 hc42 hc43 hc44
    refine (sameRep_any st z2 reason y2 [] fa2 f3 none none fc2 c3 0 0 w17 HX17.out HZ17.out (.inl ⟨rfl, rfl, rfl⟩) (.inl ⟨rfl, rfl, rfl⟩) (by omega)).mono ?_
    rintro e w18 ⟨rfl, hb18⟩
    have HB18 := Box.mk (below_trans HB17.out hb18)
    clear hb18 HX17 HZ17 HB17
    go_wp2_with fail
    refine (awakeH_any mm _ (HM.out.keep HB18.out)).mono ?_
    rintro e w19 ⟨rfl, hb19⟩
    have HB19 := Box.mk (below_trans HB18.out hb19)
    clear hb19
    go_wp2_with fail
    go_ret
    exact ⟨rfl, HB19.out⟩
  | false =>
    have HP := Box.mk (show headB (fmtRep (100 + (k : Int)) reason z2) y2 = [] from headB_no (.inl (by rw [fmtRep_no hv]; rfl)))
    clear hv HAL HTN
    rw [HP.out] at he HIB
    generalize (100 + (k : Int)) = st at *
    subst he
    go_wp2_with fail
    refine (projHeadRep_any [] pa pc mm w14 HIB.out (by decide) (HM.out.keep HB14.out)).mono ?_
    rintro e w15 ⟨f3, c3, he, hf3, hb15⟩
    rw [headA_nil] at he hf3
    dsimp only at he hf3
    subst he
    obtain ⟨W16, hW16⟩ : ∃ W16, W16 = w15.alloc (.cells #[.int .i64 0, .string ⟨#[]⟩, .int .i64 0, .slice f3 0 c3, .slice none 0 0] 39) := ⟨_, rfl⟩
    have hb16 : Below w15.heap.size w15 W16 := by rw [hW16]; exact below_oneF w15 _
    have hb1516 := below_trans hb15 hb16
    have HB16 := Box.mk (below_trans HB14.out hb1516)
    have HR16 := Box.mk (HR14.out.keep hb1516)
    have HQ16 := Box.mk (HQ14.out.keep hb1516)
    have HF16 := Box.mk (HF14.out.keep hb1516)
    have HG16 := Box.mk (HG14.out.keep hb1516)
    have HW16 := Box.mk hW16
    obtain ⟨hl1, hc10, hc11, hc12, hc13, hc14, hc15⟩ := QVarH.all HR16.out
    obtain ⟨hl2, hc20, hc21, hc22, hc23, hc24, hc25⟩ := HQ16.out.all
    rw [HW16.out] at hl1 hc10 hc11 hc12 hc13 hc14 hc15 hl2 hc20 hc21 hc22 hc23 hc24 hc25
    clear hb15 hb16 hb1516 hf3 hW16 HA14 HB14 HR14 HQ14 HF14 HG14 HX14 HP HIB
    go_wp2_with fail
    clear hl1 hc10 hc11 hc12 hc13 hc14 hc15 hl2 hc20 hc21 hc22 hc23 hc24 hc25
    change Calls _ _ _ (w15.alloc (.cells #[.int .i64 0, .string ⟨#[]⟩, .int .i64 0, .slice f3 0 c3, .slice none 0 0] 39)) _
    rw [← HW16.out]
    refine (sameReq_any m t z false y [] fa f2 none none fc c2 0 0 W16 HF16.out HG16.out (.inl ⟨rfl, rfl, rfl⟩) (.inl ⟨rfl, rfl, rfl⟩) (by omega)).mono ?_
    rintro e w17 ⟨rfl, hb17⟩
    have HB17 := Box.mk (below_trans HB16.out hb17)
    clear hb17 HB16 HF16 HG16 HR16 HQ16 HW16
    go_wp2_with fail
    refine (awakeH_any mm _ (HM.out.keep HB17.out)).mono ?_
    rintro e w19 ⟨rfl, hb19⟩
    have HB19 := Box.mk (below_trans HB17.out hb19)
    clear hb19
    go_wp2_with fail
    go_ret
    exact ⟨rfl, HB19.out⟩
end Go.Proofs.YtcdianojchmgpaaGreatDoor
namespace Go.Proofs.YtcdianojchmgpaaGreatDoor
open Go.RowKit

theorem RetHd.isB {w w' : World} {l : List UInt8} {e : Ending} (h : RetHd w l e w') (h1 : l.length ≤ 4000000000) : ∃ a c, e = .returned (.slice a l.length c) ∧ IsBytes w' a l c ∧ Below w.heap.size w w' := by
  by_cases h0 : 0 < l.length
  · obtain ⟨v, rfl, ho, hb⟩ := h.own h0 h1
    obtain ⟨g, c, rfl, _, hi⟩ := ho.form
    exact ⟨_, c, rfl, hi, hb⟩
  · rcases h with ⟨rfl, rfl, hb⟩ | ⟨W, s, _, hp, _⟩
    · exact ⟨none, 0, rfl, .inl ⟨rfl, rfl, rfl⟩, hb⟩
    · exact absurd hp h0
theorem lawReqF_any (b : Option Addr) (n c : Nat) (w : World) (hi : IntsF w b n) (hn : n ≤ maxLen) :
    Calls Tryz.prog 20 #[.pointer (some ⟨w.heap.size, 0, none⟩)] (w.alloc (.cells #[.slice b n c, .int .i64 0] 47)) fun e w' =>
      ∃ m t z sF x cF fr sB, ∃ l : List UInt8, ∃ cB, e = .returned (.agg #[.string m, .string t, .int .i64 z, .slice sF (List.length x) cF, .bool fr, .slice sB l.length cB]) ∧ m.size ≤ 1000 ∧ t.size ≤ 1000 ∧ FldsIn w' sF x ∧ (∀ y, sF = some y → w.heap.size ≤ y.block) ∧ x.length ≤ 6 ∧ SmallF x ∧ Below w.heap.size w w' := by
  refine (srcReq_any w.heap.size b n c _ (src_box hi hn)).mono ?_
  rintro e w' ⟨m, t, z, vF, x, fr, vB, l, rfl, hm, ht, hz, hF, hB, hR, hl, _, _, hg⟩
  obtain ⟨sF, cF, rfl, h1, _⟩ := hF.shape
  obtain ⟨sB, cB, rfl, h2⟩ := hB.bytes
  exact ⟨m, t, z, sF, x, cF, fr, sB, l, cB, rfl, (meth_at hm).2, (targ_at ht).2, h1.1, fun y e => by have := (ownF_block hF y e).1; rw [World.size_alloc] at this; omega, hR.made.2, hR.tiny.small, below_box (below_oneF w _) hg⟩
theorem fmtReq_big (m t : ByteArray) (z : Int) (hm : m.size ≤ 1048576) (ht : t.size ≤ 1048576) : (fmtReq m t z).size ≤ 3000000 := by
  unfold fmtReq
  split
  · rename_i h
    have h1 := fmtS_small h.2.2.1 h.2.2.2
    simp only [ByteArray.size_append]
    have e1 : http1.size = 8 := rfl
    have e2 : (⟨#[32]⟩ : ByteArray).size = 1 := rfl
    omega
  · exact Nat.zero_le _
theorem headB_big {s : ByteArray} {x : List Fld} (h : s.size ≤ 3000000) (hx : SmallF x) (hl : x.length ≤ 100) : (headB s x).length ≤ 4000000000 := by
  by_cases h0 : s.size = 0
  · rw [headB_no (.inl h0)]; exact Nat.zero_le _
  · by_cases h1 : allB x = true
    · rw [headB_yes h0 h1]
      have h2 := linesB_len x hx x.length
      rw [List.take_length] at h2
      have h3 : x.length * 2097156 ≤ 100 * 2097156 := Nat.mul_le_mul_right _ hl
      have h4 : s.data.toList.length = s.size := by rw [Array.length_toList]; rfl
      simp only [List.length_append, List.length_cons, List.length_nil]
      omega
    · rw [headB_no (.inr (by rw [← Bool.not_eq_true]; exact h1))]; exact Nat.zero_le _
/-- A request's variable at g, a reply's behind it, and fields in a block of their own. -/
structure HfInv (w : World) (g : Nat) (rq ra : Array Value) (fa : Option Addr) (x : List Fld) (W : World) : Prop where
  one : W.heap[g]? = some (.cells rq 35 (0, 0))
  two : W.heap[g + 1]? = some (.cells ra 39 (0, 0))
  flds : FldsIn W fa x
  new : ∀ y, fa = some y → g + 1 < y.block
  below : Below w.heap.size w W
  base : w.heap.size ≤ g
theorem HfInv.keep {w : World} {g : Nat} {rq ra : Array Value} {fa : Option Addr} {x : List Fld} {W W' : World} (h : HfInv w g rq ra fa x W) (hb : Below W.heap.size W W') : HfInv w g rq ra fa x W' :=
  ⟨(hb.block _ (lt_row h.one)).trans h.one, (hb.block _ (lt_row h.two)).trans h.two, h.flds.keep hb, h.new, below_trans h.below hb, h.base⟩
theorem HfInv.put {w : World} {g : Nat} {rq ra : Array Value} {fa : Option Addr} {x : List Fld} {W : World} (h : HfInv w g rq ra fa x W) (i : Nat) (v : Value) : HfInv w g rq (ra.setIfInBounds i v) fa x (W.setCell ⟨g + 1, i, none⟩ v) :=
  ⟨(heap_setCell_other W ⟨g + 1, i, none⟩ g _ (by show g ≠ g + 1; omega)).trans h.one, heap_setCell_same W (g + 1) i _ _ _ h.two, h.flds.same fun y e => heap_setCell_other _ _ _ _ (by have := h.new y e; show y.block ≠ g + 1; omega), h.new,
    h.below.setCell (p := ⟨g + 1, i, none⟩) (by have := h.base; show _ ≤ g + 1; omega) _, h.base⟩
/-- The two messages in their variables, as they are formatted. -/
def HfS (w W : World) : Prop := ∃ m t z fa x fc fr ba bn bc st r z2 ga y gc ha hn hc,
  W.heap[w.heap.size]? = some (.cells #[.string m, .string t, .int .i64 z, .slice fa (List.length x) fc, .bool fr, .slice ba bn bc] 35 (0, 0)) ∧
  W.heap[w.heap.size + 1]? = some (.cells #[.int .i64 st, .string r, .int .i64 z2, .slice ga (List.length y) gc, .slice ha hn hc] 39 (0, 0)) ∧ m.size ≤ 1048576 ∧ t.size ≤ 1048576 ∧ r.size ≤ 1048576 ∧
  FldsIn W fa x ∧ FldsIn W ga y ∧ SmallF x ∧ SmallF y ∧ Below w.heap.size w W

section
variable (m t : ByteArray) (z : Int) (fa ba : Option Addr) (x : List Fld) (fc bn bc : Nat) (fr : Bool) (st : Int) (r : ByteArray) (z2 : Int) (ga ha : Option Addr) (y : List Fld) (gc hn hc : Nat) (b : Option Addr) (n cb : Nat) (raw : Bool) (mm : Int) (w : World)
set_option maxRecDepth 100000 in
set_option maxHeartbeats 4000000 in
theorem headFormat_any (hi : IntsF w b n) (hnb : n ≤ maxLen) (hms : m.size ≤ 1048576) (hts : t.size ≤ 1048576) (hrs : r.size ≤ 1048576) (hfx : FldsIn w fa x) (hgy : FldsIn w ga y) (hsx : SmallF x) (hsy : SmallF y) (ht : Tabs w) (hm : HdOk w mm) :
    Calls Tryz.prog 6 #[.slice b n cb, .agg #[.string m, .string t, .int .i64 z, .slice fa x.length fc, .bool fr, .slice ba bn bc], .agg #[.int .i64 st, .string r, .int .i64 z2, .slice ga y.length gc, .slice ha hn hc], .bool raw] w fun e w' => e = .returned (.bool true) ∧ Below w.heap.size w w' := by
  have HM := Box.mk hm
  have HT := Box.mk ht
  have HI := Box.mk (And.intro hi hnb)
  have HFM := Box.mk (show HfS w ((w.alloc (.cells #[.string m, .string t, .int .i64 z, .slice fa x.length fc, .bool fr, .slice ba bn bc] 35)).alloc (.cells #[.int .i64 st, .string r, .int .i64 z2, .slice ga y.length gc, .slice ha hn hc] 39)) from by
    have h := heap_alloc_new (w.alloc (.cells #[.string m, .string t, .int .i64 z, .slice fa x.length fc, .bool fr, .slice ba bn bc] 35)) (.cells #[.int .i64 st, .string r, .int .i64 z2, .slice ga y.length gc, .slice ha hn hc] 39)
    rw [World.size_alloc] at h
    have hb := below_twoF (below_oneF w (.cells #[.string m, .string t, .int .i64 z, .slice fa x.length fc, .bool fr, .slice ba bn bc] 35)) (.cells #[.int .i64 st, .string r, .int .i64 z2, .slice ga y.length gc, .slice ha hn hc] 39)
    exact ⟨m, t, z, fa, x, fc, fr, ba, bn, bc, st, r, z2, ga, y, gc, ha, hn, hc, ((below_oneF (w.alloc (.cells #[.string m, .string t, .int .i64 z, .slice fa x.length fc, .bool fr, .slice ba bn bc] 35)) _).block _ (by rw [World.size_alloc]; omega)).trans (heap_alloc_new _ _), h, hms, hts, hrs, hfx.keep hb, hgy.keep hb, hsx, hsy, hb⟩)
  clear hm ht hi hnb hms hts hrs hfx hgy hsx hsy
  go_enter Tryz.func6, Tryz.ntmps6
  go_upto_if 10 with fail
  generalize (w.alloc (.cells #[.string m, .string t, .int .i64 z, .slice fa x.length fc, .bool fr, .slice ba bn bc] 35)).alloc (.cells #[.int .i64 st, .string r, .int .i64 z2, .slice ga y.length gc, .slice ha hn hc] 39) = W at *
  go_cut [] (fun wx => Box (HfS w wx))
  case first =>
    cases raw with
    | true =>
      go_wp2_with fail
      go_meet
      exact HFM
    | false =>
      obtain ⟨_, _, _, _, _, _, _, _, _, _, st, r, z2, ga, y, gc, ha, hn, hc, hr1, hr2, _, _, hrs, _, _, _, _, hb⟩ := HFM.out
      have HI2 := Box.mk (And.intro (HI.out.1.keep hb) HI.out.2)
      have HR1 := Box.mk hr1
      have HR2 := Box.mk hr2
      have HB := Box.mk hb
      have HRS := Box.mk hrs
      clear hr1 hr2 hb hrs HFM HI
      go_wp2_with fail
      refine (lawReqF_any b n cb W HI2.out.1 HI2.out.2).mono ?_
      rintro e w5 ⟨m5, t5, z5, sF, x, cF, fr5, sB, l, cB, rfl, hm5, ht5, hfx5, hnew5, hxl, hsx, hb5⟩
      have HB5 := Box.mk (below_trans HB.out hb5)
      have hrow1 := (hb5.block _ (lt_row HR1.out)).trans HR1.out
      have HR5 := Box.mk ((hb5.block _ (lt_row HR2.out)).trans HR2.out)
      have HSZ := Box.mk (And.intro (show m5.size ≤ 1048576 by omega) (And.intro (show t5.size ≤ 1048576 by omega) hsx))
      have HROW1 := Box.mk hrow1
      have HFX5 := Box.mk hfx5
      have HNEW := Box.mk (show ∀ q, sF = some q → w.heap.size + 1 < q.block from fun q e => by have := hnew5 q e; have := lt_row HR2.out; omega)
      clear hb5 HB HR1 HR2 HI2 hm5 ht5 hrow1 hfx5 hnew5 hsx
      generalize hg : w.heap.size = g at *
      have HG := Box.mk hg
      clear hg
      go_wp2_with (refine wpList_store_row rfl 35 _ _ rfl g #[.string m5, .string t5, .int .i64 z5, .slice sF x.length cF, .bool fr5, .slice sB l.length cB] rfl rfl 35 _ HROW1.out sizeR rfl (by simp [Value.oneCell']) ?_)
      have HV := Box.mk (show HfInv w g #[.string m5, .string t5, .int .i64 z5, .slice sF x.length cF, .bool fr5, .slice sB l.length cB] #[.int .i64 st, .string r, .int .i64 z2, .slice ga y.length gc, .slice ha hn hc] sF x (w5.setRow g #[.string m5, .string t5, .int .i64 z5, .slice sF x.length cF, .bool fr5, .slice sB l.length cB]) from
        ⟨setRow_heap _ _ _ _ _ _ HROW1.out, (setRow_other w5 g (g + 1) _ (by omega)).trans HR5.out, HFX5.out.same fun q e => setRow_other _ _ _ _ (by have := HNEW.out q e; omega), HNEW.out,
          below_setRow (g := g) (show Below w.heap.size w w5 by rw [HG.out]; exact HB5.out) (by have := HG.out; omega) _, by have := HG.out; omega⟩)
      clear HB5 HR5 HROW1 HFX5 HNEW
      generalize w5.setRow g #[.string m5, .string t5, .int .i64 z5, .slice sF x.length cF, .bool fr5, .slice sB l.length cB] = W6 at *
      refine wp_region_phases [3, 5, 7] (fun p => match p with | 0 => [0, 1, 2] | 1 => [0, 1, 4] | 2 => [0, 1, 6] | _ => [])
        (fun p => match p with
          | 0 => [.val (.pointer (some ⟨g, 3, none⟩)), .val (.slice sF x.length cF), .val (.pointer (some ⟨g + 1, 0, none⟩)), .any, .nope, .any, .nope, .any]
          | 1 => [.val (.pointer (some ⟨g, 3, none⟩)), .val (.slice sF x.length cF), .any, .any, .val (.pointer (some ⟨g + 1, 2, none⟩)), .any, .nope, .any]
          | 2 => [.val (.pointer (some ⟨g, 3, none⟩)), .val (.slice sF x.length cF), .any, .any, .any, .any, .val (.pointer (some ⟨g + 1, 3, none⟩)), .any]
          | _ => [.any, .any, .any, .any, .any, .any, .any, .any])
        (fun p => match p with
          | 0 => HfInv w g #[.string m5, .string t5, .int .i64 z5, .slice sF x.length cF, .bool fr5, .slice sB l.length cB] #[.int .i64 st, .string r, .int .i64 z2, .slice ga y.length gc, .slice ha hn hc] sF x
          | 1 => HfInv w g #[.string m5, .string t5, .int .i64 z5, .slice sF x.length cF, .bool fr5, .slice sB l.length cB] #[.int .i64 200, .string r, .int .i64 z2, .slice ga y.length gc, .slice ha hn hc] sF x
          | 2 => HfInv w g #[.string m5, .string t5, .int .i64 z5, .slice sF x.length cF, .bool fr5, .slice sB l.length cB] #[.int .i64 200, .string r, .int .i64 1, .slice ga y.length gc, .slice ha hn hc] sF x
          | _ => HfInv w g #[.string m5, .string t5, .int .i64 z5, .slice sF x.length cF, .bool fr5, .slice sB l.length cB] #[.int .i64 200, .string r, .int .i64 1, .slice sF x.length cF, .slice ha hn hc] sF x)
        (by kernel_rfl) (by kernel_rfl) (by kernel_rfl) (by kernel_rfl) (by kernel_rfl) (by kernel_rfl) ?_ HV.out ?_ ?_ ?_
      · intro p w1 w2 h hb
        match p, h with
        | 0, h => exact HfInv.keep h hb
        | 1, h => exact HfInv.keep h hb
        | 2, h => exact HfInv.keep h hb
        | (_ + 3), h => exact HfInv.keep h hb
      · intro p hp
        match p, hp with
        | 0, _ =>
          refine ⟨?_, ?_, ?_, trivial⟩ <;> intro a1 w1 hv hf hd
          · exact ⟨wanted_none rfl, loc_fieldR rfl (hf.base 5 rfl) (by decide) rfl⟩
          · exact ⟨wanted_none rfl, loc_cell rfl (hd 0 rfl) (by rw [cell_of_row _ _ _ _ _ _ hv.one]; rfl) (agg_fields _) rfl⟩
          · exact ⟨wanted_none rfl, loc_fieldA rfl (hf.base 6 rfl) (by decide) rfl⟩
        | 1, _ =>
          refine ⟨?_, ?_, ?_, trivial⟩ <;> intro a1 w1 hv hf hd
          · exact ⟨wanted_none rfl, loc_fieldR rfl (hf.base 5 rfl) (by decide) rfl⟩
          · exact ⟨wanted_none rfl, loc_cell rfl (hd 0 rfl) (by rw [cell_of_row _ _ _ _ _ _ hv.one]; rfl) (agg_fields _) rfl⟩
          · exact ⟨wanted_none rfl, loc_fieldA rfl (hf.base 6 rfl) (by decide) rfl⟩
        | 2, _ =>
          refine ⟨?_, ?_, ?_, trivial⟩ <;> intro a1 w1 hv hf hd
          · exact ⟨wanted_none rfl, loc_fieldR rfl (hf.base 5 rfl) (by decide) rfl⟩
          · exact ⟨wanted_none rfl, loc_cell rfl (hd 0 rfl) (by rw [cell_of_row _ _ _ _ _ _ hv.one]; rfl) (agg_fields _) rfl⟩
          · exact ⟨wanted_none rfl, loc_fieldA rfl (hf.base 6 rfl) (by decide) rfl⟩
        | 3, _ => exact trivial
      · intro p hp
        match p, hp with
        | 0, _ =>
          intro a2 w2 hv hf hd
          have e17 : a2.eval (.tmp 17) = .pointer (some ⟨g + 1, 0, none⟩) := hd 2 rfl
          refine ⟨wanted_none rfl, wp_store_int (z := 200) (u := .int .i64 st) rfl e17 rfl (by kernel_rfl) (by rw [cell_of_row _ _ _ _ _ _ hv.two]; rfl) (frozen_of_row w2 (g + 1) 0 _ _ hv.two) ?_⟩
          exact ⟨undef, rfl, hv.put 0 _, trivial, ⟨.inr fun _ _ h => h, .inr fun _ _ h => h, .inr fun _ _ _ => trivial, .inl rfl, .inr fun _ _ h => h.elim, .inr fun _ _ _ => trivial, .inr fun _ _ h => h, .inr fun _ _ _ => trivial, trivial⟩⟩
        | 1, _ =>
          intro a2 w2 hv hf hd
          have e18 : a2.eval (.tmp 18) = .pointer (some ⟨g + 1, 2, none⟩) := hd 4 rfl
          refine ⟨wanted_none rfl, wp_store_int (z := 1) (u := .int .i64 z2) rfl e18 rfl (by kernel_rfl) (by rw [cell_of_row _ _ _ _ _ _ hv.two]; rfl) (frozen_of_row w2 (g + 1) 2 _ _ hv.two) ?_⟩
          exact ⟨undef, rfl, hv.put 2 _, trivial, ⟨.inr fun _ _ h => h, .inr fun _ _ h => h, .inr fun _ _ _ => trivial, .inr fun _ _ _ => trivial, .inr fun _ _ _ => trivial, .inl rfl, .inr fun _ _ h => h.elim, .inr fun _ _ _ => trivial, trivial⟩⟩
        | 2, _ =>
          intro a2 w2 hv hf hd
          have e19 : a2.eval (.tmp 19) = .pointer (some ⟨g + 1, 3, none⟩) := hd 6 rfl
          have e16 : a2.eval (.tmp 16) = .slice sF x.length cF := hd 1 rfl
          refine ⟨wanted_none rfl, wp_store_slice (u := .slice ga y.length gc) rfl e19 e16 (by kernel_rfl) (by rw [cell_of_row _ _ _ _ _ _ hv.two]; rfl) (frozen_of_row w2 (g + 1) 3 _ _ hv.two) ?_⟩
          exact ⟨undef, rfl, hv.put 3 _, trivial, ⟨.inr fun _ _ _ => trivial, .inr fun _ _ _ => trivial, .inr fun _ _ _ => trivial, .inr fun _ _ _ => trivial, .inr fun _ _ _ => trivial, .inr fun _ _ _ => trivial, .inr fun _ _ _ => trivial, .inl rfl, trivial⟩⟩
      · intro a2 w2 hv hf hh
        clear hh
        rw [fr_putAll hf]
        clear hf
        simp only [putAll]
        generalize a2.eval (.tmp 15) = u15
        generalize a2.eval (.tmp 16) = u16
        generalize a2.eval (.tmp 17) = u17
        generalize a2.eval (.tmp 18) = u18
        generalize a2.eval (.tmp 19) = u19
        clear a2
        simp only [Act.put, List.setIfInBounds_toArray, List.set_cons_succ, List.set_cons_zero]
        rename (∀ (a' : Act) (w' : World), Met _ a' w' → _) => hM
        refine hM _ _ ?_
        go_meet
        have hg := HG.out
        exact ⟨⟨m5, t5, z5, sF, x, cF, fr5, sB, l.length, cB, _, r, _, sF, x, cF, ha, hn, hc, by rw [hg]; exact hv.one, by rw [hg]; exact hv.two, HSZ.out.1, HSZ.out.2.1, HRS.out, hv.flds, hv.flds, HSZ.out.2.2, HSZ.out.2.2, hv.below⟩⟩
  case rest =>
    obtain ⟨m, t, z, fa, x, fc, fr, ba, bn, bc, st, r, z2, ga, y, gc, ha, hn, hc, hr1, hr2, hms, hts, hrs, hfx, hgy, hsx, hsy, hb⟩ := hcut.out
    have HR := Box.mk (And.intro hr1 hr2)
    have HB := Box.mk hb
    have HFX := Box.mk hfx
    have HGY := Box.mk hgy
    have HSX := Box.mk hsx
    have HSY := Box.mk hsy
    generalize hg : w.heap.size = g at *
    have HG := Box.mk hg
    clear hr1 hr2 hb hcut HFM hg hfx hgy hsx hsy
    obtain ⟨hlt, hc0, hc1, hc2, hc3, hc4, hc5⟩ := row_cells6 HR.out.1
    have hd3 : wc.cell? ⟨g + 1, 3, none⟩ = some (.slice ga y.length gc) := by rw [cell_of_row _ _ _ _ _ _ HR.out.2]; rfl
    have HMW := Box.mk (HM.out.keep (by rw [HG.out]; exact HB.out))
    by_cases h1 : 100 < x.length
    · go_wp2_with fail
      refine (awakeH_any mm _ HMW.out).mono ?_
      rintro e w7 ⟨rfl, hb7⟩
      have HB7 := Box.mk (below_trans (show Below w.heap.size w wc by rw [HG.out]; exact HB.out) hb7)
      clear hb7
      go_wp2_with fail
      go_ret
      exact ⟨rfl, HB7.out⟩
    · by_cases h2 : 100 < y.length
      · go_wp2_with fail
        refine (awakeH_any mm _ HMW.out).mono ?_
        rintro e w7 ⟨rfl, hb7⟩
        have HB7 := Box.mk (below_trans (show Below w.heap.size w wc by rw [HG.out]; exact HB.out) hb7)
        clear hb7
        go_wp2_with fail
        go_ret
        exact ⟨rfl, HB7.out⟩
      · go_wp2_with fail
        have HL := Box.mk (And.intro (headB_big (s := fmtReq m t z) (fmtReq_big m t z hms hts) HSX.out (by omega)) (headB_big (s := fmtRep st r z2) (Nat.le_trans (rep_size st r z2 hrs) (by decide)) HSY.out (by omega)))
        have HZ := Box.mk (And.intro (fmtReq_big m t z hms hts) (rep_size st r z2 hrs))
        clear hlt hc0 hc1 hc2 hc3 hc4 hc5 hd3
        rename_i K hK
        refine wp_region_local (S := [.val (.agg #[.string m, .string t, .int .i64 z, .slice fa x.length fc, .bool fr, .slice ba bn bc]), .bytes (headB (fmtReq m t z) x), .val (.string ⟨(headB (fmtReq m t z) x).toArray⟩), .val (.agg #[.string m, .string t, .int .i64 z, .slice fa x.length fc, .bool fr, .slice ba bn bc]), .bytes (headB (fmtReq m t z) x), .val (.string ⟨(headB (fmtReq m t z) x).toArray⟩), .val (.bool true), .val (.bool true),
          .val (.agg #[.int .i64 st, .string r, .int .i64 z2, .slice ga y.length gc, .slice ha hn hc]), .bytes (headB (fmtRep st r z2) y), .val (.string ⟨(headB (fmtRep st r z2) y).toArray⟩), .val (.agg #[.int .i64 st, .string r, .int .i64 z2, .slice ga y.length gc, .slice ha hn hc]), .bytes (headB (fmtRep st r z2) y), .val (.string ⟨(headB (fmtRep st r z2) y).toArray⟩), .val (.bool true), .val (.bool true), .val (.bool true), .val (.bool true), .val (.bool true), .val (.bool true)])
          (by kernel_rfl) (by kernel_rfl) (by kernel_rfl) ?_ ?_
        · have hbw : ∀ w', Below wc.heap.size wc w' → Below w.heap.size w w' := fun w' hb => below_trans (by rw [HG.out]; exact HB.out) hb
          have row1 : ∀ w', Below wc.heap.size wc w' → w'.heap[g]? = some (.cells #[.string m, .string t, .int .i64 z, .slice fa x.length fc, .bool fr, .slice ba bn bc] 35 (0, 0)) := fun w' hb => by rw [hb.block g (lt_row HR.out.1)]; exact HR.out.1
          have row2 : ∀ w', Below wc.heap.size wc w' → w'.heap[g + 1]? = some (.cells #[.int .i64 st, .string r, .int .i64 z2, .slice ga y.length gc, .slice ha hn hc] 39 (0, 0)) := fun w' hb => by rw [hb.block (g + 1) (lt_row HR.out.2)]; exact HR.out.2
          refine ⟨?_, ?_, ?_, ?_, ?_, ?_, ?_, ?_, ?_, ?_, ?_, ?_, ?_, ?_, ?_, ?_, ?_, ?_, ?_, ?_, trivial⟩ <;> intro a w3 hb hf hd
          · exact ⟨wanted_none rfl, loc_load rfl (by rw [show a.eval (.tmp 5) = .pointer (some ⟨g, 0, none⟩) from hf.base 5 rfl]; exact run_loadReq _ _ (row1 w3 hb)) rfl⟩
          · refine ⟨wanted_none rfl, loc_call rfl (by kernel_rfl) ?_⟩
            show Calls _ _ #[a.eval (.tmp 31)] w3 _
            rw [show a.eval (.tmp 31) = _ from hd 0 rfl]
            refine (projFmtReq_any m t z fr x fa ba fc bn bc mm w3 (by omega) (by omega) (HFX.out.keep hb) HSX.out (by omega) (by have := HZ.out.1; omega) (HMW.out.keep hb)).mono ?_
            rintro e w' ⟨qa, qc, rfl, hqb, hb'⟩
            exact ⟨_, rfl, hb', qa, qc, rfl, hqb⟩
          · exact ⟨wanted_none rfl, loc_string rfl (hd 1 rfl) rfl⟩
          · exact ⟨wanted_none rfl, loc_load rfl (by rw [show a.eval (.tmp 5) = .pointer (some ⟨g, 0, none⟩) from hf.base 5 rfl]; exact run_loadReq _ _ (row1 w3 hb)) rfl⟩
          · refine ⟨wanted_none rfl, loc_call rfl (by kernel_rfl) ?_⟩
            show Calls _ _ #[a.eval (.tmp 34)] w3 _
            rw [show a.eval (.tmp 34) = _ from hd 3 rfl]
            refine (refFmtReq_any m t z fr x fa ba fc bn bc w3 (by omega) (by omega) (HFX.out.keep hb) HSX.out (by omega) (by have := HZ.out.1; omega)).mono ?_
            rintro e w' hret
            obtain ⟨qa, qc, rfl, hqb, hb'⟩ := hret.isB HL.out.1
            exact ⟨_, rfl, hb', qa, qc, rfl, hqb⟩
          · exact ⟨wanted_none rfl, loc_string rfl (hd 4 rfl) rfl⟩
          · exact ⟨wanted_none rfl, loc_eql_str rfl (hd 2 rfl) (hd 5 rfl) rfl⟩
          · exact ⟨wanted_none rfl, loc_move rfl (hd 6 rfl)⟩
          · exact ⟨wanted_true rfl rfl (hd 7 rfl), loc_load rfl (by rw [show a.eval (.tmp 6) = .pointer (some ⟨g + 1, 0, none⟩) from hf.base 6 rfl]; exact run_loadRep _ _ (row2 w3 hb)) rfl⟩
          · refine ⟨wanted_true rfl rfl (hd 7 rfl), loc_call rfl (by kernel_rfl) ?_⟩
            show Calls _ _ #[a.eval (.tmp 39)] w3 _
            rw [show a.eval (.tmp 39) = _ from hd 8 rfl]
            refine (projFmtRep_any st r z2 y ga ha gc hn hc w3 (by omega) (HGY.out.keep hb) HSY.out (by omega) (by have := HZ.out.2; omega) (tabs_below HT.out (hbw w3 hb))).mono ?_
            rintro e w' ⟨qa, qc, rfl, hqb, hb'⟩
            exact ⟨_, rfl, hb', qa, qc, rfl, hqb⟩
          · exact ⟨wanted_true rfl rfl (hd 7 rfl), loc_string rfl (hd 9 rfl) rfl⟩
          · exact ⟨wanted_true rfl rfl (hd 7 rfl), loc_load rfl (by rw [show a.eval (.tmp 6) = .pointer (some ⟨g + 1, 0, none⟩) from hf.base 6 rfl]; exact run_loadRep _ _ (row2 w3 hb)) rfl⟩
          · refine ⟨wanted_true rfl rfl (hd 7 rfl), loc_call rfl (by kernel_rfl) ?_⟩
            show Calls _ _ #[a.eval (.tmp 42)] w3 _
            rw [show a.eval (.tmp 42) = _ from hd 11 rfl]
            refine (refFmtRep_any st r z2 y ga ha gc hn hc w3 (by omega) (HGY.out.keep hb) HSY.out (by omega) (by have := HZ.out.2; omega)).mono ?_
            rintro e w' hret
            obtain ⟨qa, qc, rfl, hqb, hb'⟩ := hret.isB HL.out.2
            exact ⟨_, rfl, hb', qa, qc, rfl, hqb⟩
          · exact ⟨wanted_true rfl rfl (hd 7 rfl), loc_string rfl (hd 12 rfl) rfl⟩
          · exact ⟨wanted_true rfl rfl (hd 7 rfl), loc_eql_str rfl (hd 10 rfl) (hd 13 rfl) rfl⟩
          · exact ⟨wanted_none rfl, loc_pick rfl (hd 7 rfl) (hd 14 rfl)⟩
          · exact ⟨wanted_none rfl, loc_move rfl (hd 15 rfl)⟩
          · refine ⟨wanted_true rfl rfl (hd 16 rfl), loc_call rfl (by kernel_rfl) ?_⟩
            show Calls _ _ #[] w3 _
            refine (awakeH_any mm w3 (HMW.out.keep hb)).mono ?_
            rintro e w' ⟨rfl, hb'⟩
            exact ⟨_, rfl, hb', rfl⟩
          · exact ⟨wanted_none rfl, loc_pick rfl (hd 16 rfl) (hd 17 rfl)⟩
          · exact ⟨wanted_none rfl, loc_assign rfl (hd 18 rfl)⟩
        · intro a w3 hb hf hh
          refine hK a w3 ?_
          go_wp2_with fail
          exact local_ret rfl hf.defers (show a.eval (.tmp 8) = .bool true from hh 19 (by decide)) ⟨rfl, below_trans (by rw [HG.out]; exact HB.out) hb⟩
end
end Go.Proofs.YtcdianojchmgpaaGreatDoor
