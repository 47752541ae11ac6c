/- A region that draws its order, in phases, where an operation may read a slot that a later one writes. The law ChunkedFeed, walked. Single operations of the law ChunkedPieces; its loop's state. The law ChunkedPieces, walked. The law ChunkedEncode, walked. The law ChunkedLimits, walked. -/
import Derived.Test.YtbplpfcgmmflnaaDoorPk1
import Derived.Test.YtbplpfcgmmflnaaDoorPk2
import Derived.Test.YtbplpfcgmmflnaaDoorPk3
import Derived.Test.YtbplpfcgmmflnaaDoorPk4
import Derived.Test.YtbplpfcgmmflnaaDoorPk5
import Derived.Deep.Quiet
import Derived.Deep.QuietTactic
import Derived.Tactics
import Derived.KernelRfl
import Derived.Below
import Derived.Test.YtbplpfcgmmflnaaDoorRows
import Derived.WalkKit
import Derived.WalkSpells
import Derived.WalkLawsBesides
import Derived.BigQuiet
import Derived.Lib.Bytealg
import Derived.Lib.IndexLaws
import Derived.Lib.Hide
import Derived.ProofKit
import Derived.OpenShut
import Derived.Laws.IdiomStrings
import Derived.Lib.Strings
import Derived.Laws.Bits64
import Derived.Deep.AppendLies
import Derived.SliceStrings
import Derived.Lib.SlBytesConst
import Derived.Maps.AppendAt
import Derived.Laws.AppendOwnNone
import Derived.Great.BuildSlice
import Derived.Laws.Rows
import Derived.Lib.SlTrimSet
import Derived.Lib.IndexBytes
import Derived.Lib.Split
import Derived.Shelf.Strings.SlTrimAscii
import Derived.Shelf.Strings.SplitShaped
import Derived.Shelf.LaysM
import Derived.Shelf.Strings.BuilderK
import Derived.Shelf.Strconv.Itoa4
import Derived.Test.YtbplpfcgmmflnaaDoorProg
import Derived.Lib.SplitLaws
import Derived.WalkSmall
import Derived.Laws.BitsAllLaws
import Derived.Laws.Shifts
import Derived.Maps.OwnOps
import Derived.Maps.OwnSet
import Derived.Deep.SlicePairs
import Derived.Lib.AppendZerosOnto
import Derived.Lib.AppendStr
import Derived.Laws.CopyOwn
import Derived.OwnWalk
import Derived.Laws.Strings3
import Derived.Lib.ItoaMem
import Derived.Laws.Concat
import Derived.Deep.Matrix
import Derived.IntWalk
import Derived.Sort.Grow
import Derived.Lib.LaidTab
import Derived.LaidSub
import Derived.Lib.ConvBytes
import Derived.Laws.RangeAny
import Derived.Laws.Tables
import Derived.ArgAppend
import Derived.Deep.CutBlock
import Derived.Deep.CutRange
namespace Go.Proofs.YtbplpfcgmmflnaaDoor
open Go.RowKit

/-- Slot k is written by an operation that need not wait for operation i. -/
def isDstI (ops : Array Oper) (i k : Nat) : Bool := (List.range ops.size).any fun j => ((ops[j]?).bind (·.dst) == some k) && (!decide (j = i) && !(match ops[j]? with | some o => waitsFor o i | none => false))
/-- The frame when operation i comes up. -/
structure FrW (ops : Array Oper) (i : Nat) (a0 a : Act) : Prop where
  defers : a.defers = a0.defers
  size : a.tmps.size = a0.tmps.size
  base : ∀ k, isDstI ops i k = false → a.eval (.tmp k) = a0.eval (.tmp k)
/-- The frame after the operations that m marks. -/
structure FrM (ops : Array Oper) (m : Array Bool) (a0 a : Act) : Prop where
  defers : a.defers = a0.defers
  size : a.tmps.size = a0.tmps.size
  base : ∀ k, (∀ j o, ops[j]? = some o → o.dst = some k → m.getD j false = false) → a.eval (.tmp k) = a0.eval (.tmp k)
theorem FrM.plain {ops : Array Oper} {m : Array Bool} {a0 a : Act} (h : FrM ops m a0 a) : Fr ops a0 a := ⟨h.defers, h.size, fun k hk => h.base k fun j o ho hd => by
  have : isDst ops k = true := by
    unfold isDst
    exact List.any_eq_true.2 ⟨o, Array.mem_toList_iff.2 (Array.mem_of_getElem? ho), by rw [hd]; simp⟩
  rw [hk] at this; cases this⟩
theorem FrM.at {ops : Array Oper} {m : Array Bool} {a0 a : Act} {i : Nat} (h : FrM ops m a0 a) (hmi : m.getD i false = false) (hcl : ∀ j o, ops[j]? = some o → m.getD j false = true → ∀ i, waitsFor o i = true → m.getD i false = true) : FrW ops i a0 a :=
  ⟨h.defers, h.size, fun k hk => h.base k fun j o ho hd => by
    by_cases hji : j = i
    · subst hji; exact hmi
    · by_cases hw : waitsFor o i = true
      · cases hm : m.getD j false with
        | false => rfl
        | true => rw [hcl j o ho hm i hw] at hmi; cases hmi
      · exfalso
        have : isDstI ops i k = true := by
          unfold isDstI
          exact List.any_eq_true.2 ⟨j, List.mem_range.2 (Array.getElem?_eq_some_iff.1 ho).1, by simp only [ho, Option.bind_some, hd]; simp [hji, hw]⟩
        rw [hk] at this; cases this⟩
theorem frM_put {ops : Array Oper} {m : Array Bool} {a0 a : Act} {o : Oper} {i : Nat} (ho : ops[i]? = some o) (him : i < m.size) (h : FrM ops m a0 a) (v : Value) : FrM ops (m.setIfInBounds i true) a0 (a.put o.dst v) := by
  refine ⟨?_, ?_, fun k hk => ?_⟩
  · have := h.defers
    cases o.dst <;> simpa [Act.put] using this
  · have := h.size
    cases o.dst <;> simpa [Act.put] using this
  · have hne : o.dst ≠ some k := fun e => by
      have := hk i o ho e
      simp [him] at this
    rw [eval_put_other hne, h.base k fun j oj hoj hd => by
      have h2 := hk j oj hoj hd
      by_cases hji : j = i
      · subst hji
        obtain rfl := Option.some.inj (ho.symm.trans hoj)
        exact absurd hd hne
      · rwa [getD_set_ne false (fun e => hji e.symm)] at h2]
def StepIW (P : Program) (Q : Exit → Act → World → Prop) (ops : Array Oper) (S : List Spec) (Inv : World → Prop) (a0 : Act) (i : Nat) (o : Oper) (s : Spec) : Prop :=
  ∀ a w, Inv w → FrW ops i a0 a → (∀ j, waitsFor o j = true → Holds ops S a w j) →
    Region.wanted o (yielded ops a.tmps) = true ∧ o.wp P a w (fun a' w' => ∃ v, a' = a.put o.dst v ∧ Below w.heap.size w w' ∧ s.p v w') Q
def SidesIW (P : Program) (Q : Exit → Act → World → Prop) (ops : Array Oper) (S : List Spec) (Inv : World → Prop) (a0 : Act) : List Nat → Prop
  | i :: r => (match ops[i]?, S[i]? with | some o, some s => StepIW P Q ops S Inv a0 i o s | _, _ => False) ∧ SidesIW P Q ops S Inv a0 r
  | [] => True
def ChainIW (P : Program) (Q : Exit → Act → World → Prop) (ops : Array Oper) (S S' : List Spec) (Inv Inv' : World → Prop) (a0 : Act) (c : Nat) : Prop :=
  match ops[c]?, S'[c]? with
  | some o, some s => ∀ a w, Inv w → FrW ops c a0 a → (∀ j, waitsFor o j = true → Holds ops S a w j) →
      Region.wanted o (yielded ops a.tmps) = true ∧ o.wp P a w (fun a' w' => ∃ v, a' = a.put o.dst v ∧ Inv' w' ∧ s.p v w' ∧ Over ops a w w' c 0 S S') Q
  | _, _ => False
section
variable {P : Program} {Q : Exit → Act → World → Prop} {ops : Array Oper} {a0 : Act} {w0 : World}
theorem sidesIW_at {S : List Spec} {Inv : World → Prop} : ∀ {l : List Nat}, SidesIW P Q ops S Inv a0 l → ∀ i, i ∈ l → ∀ o, ops[i]? = some o → ∃ s, S[i]? = some s ∧ StepIW P Q ops S Inv a0 i o s
  | k :: r, h, i, hi, o, ho => by
    rcases List.mem_cons.1 hi with rfl | hi
    · have := h.1
      rw [ho] at this
      cases hs : S[i]? with
      | none => rw [hs] at this; exact this.elim
      | some s => rw [hs] at this; exact ⟨s, rfl, this⟩
    · exact sidesIW_at h.2 i hi o ho
theorem wp_region_phasesW {id : Nat} (chain : List Nat) (sides : Nat → List Nat) (S : Nat → List Spec) (Inv : Nat → World → Prop) (hm : P.follows .mixedOrders = true)
    (hB : (List.range ops.size).all (fun i => match ops[i]? with | some x => x.after.all (fun e => !Region.binds .any e || decide (e.on < i)) | none => true) = true)
    (hd : dstsOk ops a0.tmps.size = true) (hc : chainB ops chain = true) (hlt : chain.all (fun c => decide (c < ops.size)) = true) (hsB : (List.range (chain.length + 1)).all (fun p => sidesB ops chain chain.length (sides p) p) = true)
    (hI : ∀ p w w', Inv p w → Below w.heap.size w w' → Inv p w') (h0 : Inv 0 w0) (hS : ∀ p, p ≤ chain.length → SidesIW P Q ops (S p) (Inv p) a0 (sides p))
    (hC : ∀ p (hp : p < chain.length), ChainIW P Q ops (S p) (S (p + 1)) (Inv p) (Inv (p + 1)) a0 chain[p])
    (hQ : ∀ a w, Inv chain.length w → Fr ops a0 a → (∀ j, j < ops.size → Holds ops (S chain.length) a w j) → Q .normal a w) : (Code.region id ops true).wp P Q a0 w0 := by
  have hchain : ∀ p q (hp : p < chain.length) (hq : q < chain.length), p < q → beforeB ops ops.size chain[q] chain[p] = true ∧ chain[p] ≠ chain[q] := fun p q hp hq hpq => by
    have h1 := List.all_eq_true.1 (List.all_eq_true.1 hc p (List.mem_range.2 hp)) q (List.mem_range.2 hq)
    simp only [List.getElem?_eq_getElem hp, List.getElem?_eq_getElem hq, Bool.or_eq_true, Bool.and_eq_true, decide_eq_true_eq] at h1
    rcases h1 with h1 | h1
    · omega
    · exact ⟨h1.1.1.1, h1.1.1.2⟩
  refine wp_region_inv hm (fun m a w => FrM ops m a0 a ∧ (∀ j o, ops[j]? = some o → m.getD j false = true → ∀ i, waitsFor o i = true → m.getD i false = true) ∧
    ∃ p, p ≤ chain.length ∧ (∀ q (hq : q < chain.length), m.getD chain[q] false = decide (q < p)) ∧ Inv p w ∧ ∀ j, m.getD j false = true → Holds ops (S p) a w j) ?_ ?_ ?_
  · rintro m a w hs ⟨hf, hcl, p, hp, hph, hinv, hh⟩ i hi
    obtain ⟨h1, o, ho, hall⟩ := mem_ready.1 hi
    have hil : i < ops.size := (Array.getElem?_eq_some_iff.1 ho).1
    have him : i < m.size := by rw [hs]; exact hil
    have hmi : m.getD i false = false := by simp [him] at h1 ⊢; exact h1
    have hdeps : ∀ j, waitsFor o j = true → m.getD j false = true := fun j hj => by
      obtain ⟨e, he, h2⟩ := List.any_eq_true.1 hj
      simp only [Bool.and_eq_true, beq_iff_eq] at h2
      obtain ⟨h3, rfl⟩ := h2
      exact hall e (Array.mem_toList_iff.1 he) h3
    have hcl' : ∀ j o, ops[j]? = some o → (m.setIfInBounds i true).getD j false = true → ∀ k, waitsFor o k = true → (m.setIfInBounds i true).getD k false = true := fun j oj hoj hj k hk => by
      by_cases hji : j = i
      · subst hji
        obtain rfl : o = oj := Option.some.inj (ho.symm.trans hoj)
        exact getD_set_true (hdeps k hk)
      · rw [getD_set_ne false (fun e => hji e.symm)] at hj
        exact getD_set_true (hcl j oj hoj hj k hk)
    unfold wpOp
    simp only [ho]
    by_cases hic : i ∈ chain
    · obtain ⟨q, hq, rfl⟩ := List.getElem_of_mem hic
      have hqp : p ≤ q := by
        have := hph q hq
        rw [hmi] at this
        have := of_decide_eq_false this.symm
        omega
      have hqe : q = p := by
        rcases Nat.lt_or_ge p q with h2 | h2
        · exfalso
          have h3 := before_ready hcl ho hdeps (hchain p q (by omega) hq h2).1
          rw [hph p (by omega)] at h3
          simp at h3
        · omega
      subst hqe
      have hCp := hC q hq
      unfold ChainIW at hCp
      rw [ho] at hCp
      cases hsc : (S (q + 1))[chain[q]]? with
      | none => rw [hsc] at hCp; exact hCp.elim
      | some s =>
        rw [hsc] at hCp
        simp only at hCp
        obtain ⟨hw, hwp⟩ := hCp a w hinv (hf.at hmi hcl) fun j hj => hh j (hdeps j hj)
        rw [if_pos hw]
        refine .inl (Oper.wp_mono ?_ hwp)
        rintro a' w' ⟨v, rfl, hinv', hsp, hov⟩
        refine ⟨frM_put ho him hf v, hcl', q + 1, hq, fun r hr => ?_, hinv', fun j hj => ?_⟩
        · by_cases hrq : r = q
          · subst hrq
            simp [him]
          · have hne : chain[q] ≠ chain[r] := by
              rcases Nat.lt_or_ge q r with h2 | h2
              · exact (hchain q r hq hr h2).2
              · exact fun e => (hchain r q hr hq (by omega)).2 e.symm
            rw [getD_set_ne false hne, hph r hr]
            by_cases hrl : r < q
            · simp [hrl, show r < q + 1 by omega]
            · simp [hrl, show ¬ r < q + 1 by omega]
        · by_cases hji : j = chain[q]
          · subst hji
            unfold Holds
            simp only [ho, hsc]
            cases hdo : o.dst with
            | none => trivial
            | some d =>
              show s.p ((a.put (some d) v).eval (.tmp d)) w'
              rw [eval_put_same]
              · exact hsp
              · rw [hf.size]; exact (dsts_lt hd ho hdo).1
          · have hj' : m.getD j false = true := by rw [getD_set_ne false (fun e => hji e.symm)] at hj; exact hj
            have h5 := holds_put (a := a) (v := v) hd ho hji (hh j hj')
            unfold Holds at *
            cases hoj : ops[j]? with
            | none => simp
            | some o' =>
              cases hsj : (S (q + 1))[j]? with
              | none => simp
              | some s' =>
                obtain ⟨s0, hs0, himp⟩ := over_at hov j s' hsj (by omega)
                simp only [hoj, hs0] at h5
                simp only
                cases hdo : o'.dst with
                | none => trivial
                | some d =>
                  simp only [hdo] at h5
                  refine himp _ (fun o2 d2 ho2 hd2 => ?_) h5
                  rw [Nat.zero_add, hoj] at ho2
                  obtain rfl := Option.some.inj ho2
                  rw [hdo] at hd2
                  obtain rfl := Option.some.inj hd2
                  exact eval_put_other fun e => (dsts_lt hd ho e).2 j o' hoj hji hdo
    · have hside : i ∈ sides p := by
        have := List.all_eq_true.1 (List.all_eq_true.1 hsB p (List.mem_range.2 (by omega))) i (List.mem_range.2 hil)
        simp only [Bool.or_eq_true, List.contains_iff_mem, List.any_eq_true] at this
        rcases this with (h2 | h2) | ⟨q, hq, h2⟩
        · exact absurd h2 hic
        · exact h2
        · exfalso
          have hql := List.mem_range.1 hq
          rw [List.getElem?_eq_getElem hql] at h2
          simp only at h2
          by_cases hqp : q < p
          · rw [if_pos hqp] at h2
            have h3 := before_marked hcl _ _ _ h2 (by rw [hph q hql]; simp [hqp])
            rw [hmi] at h3; cases h3
          · rw [if_neg hqp] at h2
            have h3 := before_ready hcl ho hdeps h2
            rw [hph q hql] at h3
            simp [hqp] at h3
      obtain ⟨s, hsi, hstep⟩ := sidesIW_at (hS p hp) i hside o ho
      obtain ⟨hw, hwp⟩ := hstep a w hinv (hf.at hmi hcl) fun j hj => hh j (hdeps j hj)
      rw [if_pos hw]
      refine .inl (Oper.wp_mono ?_ hwp)
      rintro a' w' ⟨v, rfl, hb', hsp⟩
      refine ⟨frM_put ho him hf v, hcl', p, hp, fun r hr => ?_, hI p w w' hinv hb', fun j hj => ?_⟩
      · rw [getD_set_ne false (fun e => hic (by rw [e]; exact List.getElem_mem hr)), hph r hr]
      · by_cases hji : j = i
        · subst hji
          unfold Holds
          simp only [ho, hsi]
          cases hdo : o.dst with
          | none => trivial
          | some d =>
            show s.p ((a.put (some d) v).eval (.tmp d)) w'
            rw [eval_put_same]
            · exact hsp
            · rw [hf.size]; exact (dsts_lt hd ho hdo).1
        · have hj' : m.getD j false = true := by rw [getD_set_ne false (fun e => hji e.symm)] at hj; exact hj
          exact holds_put hd ho hji (holds_mono (hh j hj') hb')
  · rintro m a w hs ⟨hf, hcl, p, hp, hph, hinv, hh⟩ hr
    have hmarked : ∀ j, j < ops.size → m.getD j false = true := fun j => by
      induction j using Nat.strongRecOn with
      | _ j ih =>
        intro hj
        cases hmj : m.getD j false with
        | true => rfl
        | false =>
          exfalso
          have hoj : ops[j]? = some ops[j] := Array.getElem?_eq_getElem hj
          have hbk := List.all_eq_true.1 hB j (List.mem_range.2 hj)
          rw [hoj] at hbk
          simp only [Array.all_eq_true_iff_forall_mem, Bool.or_eq_true, Bool.not_eq_true', decide_eq_true_eq] at hbk
          have hlt : ∀ e ∈ ops[j].after, Region.binds .any e = true → e.on < j := fun e he hbd => by
            rcases hbk e he with h | h
            · rw [hbd] at h; cases h
            · exact h
          have : j ∈ Region.ready .any ops m := mem_ready.2 ⟨by
            have hs' : j < m.size := by rw [hs]; exact hj
            simp [hs'] at hmj ⊢; exact hmj, ops[j], hoj, fun e he hbd => ih _ (hlt e he hbd) (by have := hlt e he hbd; omega)⟩
          rw [hr] at this; cases this
    have hpe : p = chain.length := by
      rcases Nat.lt_or_ge p chain.length with h2 | h2
      · exfalso
        have h3 := hph p h2
        have h4 := hmarked chain[p] (of_decide_eq_true (List.all_eq_true.1 hlt _ (List.getElem_mem h2)))
        rw [h4] at h3
        simp at h3
      · omega
    subst hpe
    exact hQ a w hinv hf.plain fun j hj => hh j (hmarked j hj)
  · have hz : ∀ j, (Array.replicate ops.size false).getD j false = false := fun j => by
      simp only [Array.getD_eq_getD_getElem?, Array.getElem?_replicate]; split <;> rfl
    refine ⟨⟨rfl, rfl, fun _ _ => rfl⟩, fun j o _ hj => (by rw [hz] at hj; cases hj), 0, Nat.zero_le _, fun q _ => by rw [hz]; rfl, hI 0 w0 _ h0 (Below.refl _ _).drew, fun j hj => (by rw [hz] at hj; cases hj)⟩

end
end Go.Proofs.YtbplpfcgmmflnaaDoor
namespace Go.Proofs.YtbplpfcgmmflnaaDoor
open Go.RowKit

set_option maxRecDepth 100000 in
set_option maxHeartbeats 8000000 in
theorem chunkedFeed_any (a : Option Addr) (n c : Nat) (at_ : Int) (x : UInt8) (raw : List UInt8) (ra : Option Addr) (rc : Nat) (ca : Option Addr) (cn cc : Nat) (oa0 : Option Addr) (on0 oc0 : Nat) (wild : Bool) (w : World) (hi : IntsF w a n) (hn : n ≤ maxLen) (hc : n ≤ c) (ha : 0 < n → ∃ ad, a = some ad)
    (hr : IsBytes w ra raw rc) (hcu : IntsF w ca cn) (hro : IntsF w oa0 on0) (ht : Tabs w) :
    Calls Tryd.prog 3 #[.slice a n c, .int .i64 at_, .int .u8 x.toNat, .slice ra raw.length rc, .slice ca cn cc, .slice oa0 on0 oc0, .bool wild] w fun e w' => e = .returned (.bool true) ∧ Below w.heap.size w w' := by
  have HI := Box.mk hi
  have HN := Box.mk (And.intro hn (And.intro hc ha))
  have HR0 := Box.mk hr
  have HCU := Box.mk hcu
  have HRO := Box.mk hro
  have HT := Box.mk ht
  clear hi hn hc ha hr ht hcu hro
  go_enter Tryd.func3, Tryd.ntmps3
  go_wp2_with fail
  refine (wire_any a n c at_ x _ HI.out HN.out.1 HN.out.2.1 HN.out.2.2).mono ?_
  rintro e w1 ⟨b0, ba0, bc0, rfl, hown, hbl, _, _, hb1⟩
  have HBY := Box.mk hown.bytes
  have HB1 := Box.mk hb1
  clear hown hb1 HI HN
  go_upto_if 33 with fail
  go_cut [15] from 34 to 35 (fun v wx => ∃ (b : List UInt8) (ba : Option Addr) (bc : Nat), v = .slice ba b.length bc ∧ wx = w1 ∧ b.length ≤ 600 ∧ Box (IsBytes w1 ba b bc))
  case first =>
    cases wild
    · go_wp2_with fail
      go_meet
      exact ⟨b0, ba0, bc0, rfl, rfl, hbl, HBY⟩
    · go_wp2_with fail
      refine (short_any raw ra rc 400 _ (HR0.out.keep HB1.out) (by decide)).mono ?_
      rintro e w2 ⟨s, hs, hsl, rfl, hsb, rfl⟩
      have HSB := Box.mk hsb
      clear hs hsb
      go_wp2_with fail
      go_meet
      exact ⟨s, ra, rc, rfl, rfl, by omega, HSB⟩
  case rest =>
    obtain ⟨b9, ba9, bc9, rfl, rfl, hb9, HB9⟩ := hcut
    have HL0 := Box.mk (show LawF w wc.heap.size (wc.heap.size + 1) zeroC none none 0 0 b9 ba9 bc9 ((wc.alloc (.cells #[.int .i64 0, .int .i64 0, .int .i64 0, .slice none 0 0] 27)).alloc (.cells #[.int .i64 0, .int .i64 0, .int .i64 0, .slice none 0 0] 27)) from
      ⟨okC_zero, CVar.keep (heap_alloc_new _ _) (below_oneF _ _), by
        have h := heap_alloc_new (wc.alloc (.cells #[.int .i64 0, .int .i64 0, .int .i64 0, .slice none 0 0] 27)) (.cells #[.int .i64 0, .int .i64 0, .int .i64 0, .slice none 0 0] 27)
        rw [World.size_alloc] at h; exact h, .inl ⟨rfl, rfl, rfl⟩, .inl ⟨rfl, rfl, rfl⟩, HB9.out.keep (below_twoF (below_oneF wc _) _), by omega, below_trans HB1.out (below_twoF (below_oneF wc _) _)⟩)
    have hlo := HB1.out.size
    clear HB9 HBY HR0
    go_wp2_with fail
    generalize hgx : wc.heap.size = gx at *
    have hbl0 := hbl
    clear hbl hgx
    go_loopw [15, 18] (fun bv iv wr => ∃ i : Nat, i ≤ 40 ∧ iv = .int .i64 i ∧ ∃ (s : Chk) (b : List UInt8) (ba xa ya : Option Addr) (bc xc yc : Nat), bv = .slice ba b.length bc ∧ Box (LawF w gx (gx + 1) s xa ya xc yc b ba bc wr)) (fun _ iv _ => 40 - (intOf iv).toNat)
    case atStart => exact ⟨0, by decide, rfl, zeroC, b9, ba9, none, none, bc9, 0, 0, rfl, HL0⟩
    case round =>
      clear HL0
      obtain ⟨i, hi40, rfl, s, b, ba, xa, ya, bc, xc, yc, rfl, HL⟩ := hrel
      by_cases hgo : 0 < b.length ∧ i < 40
      · have hb0 := hgo.1
        have hi4 := hgo.2
        clear hgo
        have hlen := HL.out.len
        obtain ⟨bad, rfl⟩ : ∃ bad, ba = some bad := by
          rcases HL.out.rest with ⟨_, e, _⟩ | ⟨y, e, _⟩
          · rw [e] at hb0; exact absurd hb0 (Nat.lt_irrefl _)
          · exact ⟨y, e⟩
        have hcapb : b.length ≤ bc := by
          rcases HL.out.rest with ⟨e, _⟩ | ⟨_, _, h1, _⟩
          · cases e
          · exact h1
        go_upto_if 50 with fail
        go_cut [19] from 36 to 123 (fun v wx => ∃ q : Nat, v = .int .i64 q ∧ wx = wr ∧ 1 ≤ q ∧ q ≤ b.length)
        case first =>
          by_cases hic : i < cn
          · obtain ⟨cad, z, rfl, hz, _⟩ := (HCU.out.keep HL.out.below) i hic
            obtain ⟨q, hq, hqe⟩ := withI_range z b.length hb0 (by omega)
            go_wp2_with fail
            refine (withinF z b.length _ hb0 (by omega)).mono ?_
            rintro e w2 ⟨he, rfl⟩
            rw [hqe] at he
            subst he
            go_wp2_with fail
            go_meet
            exact ⟨q + 1, by go_num, rfl, by omega, by omega⟩
          · go_wp2_with fail
            go_meet
            exact ⟨b.length, rfl, rfl, by omega, Nat.le_refl _⟩
        case rest =>
          obtain ⟨q, rfl, rfl, hq1, hqb⟩ := hcut
          go_upto_if 62 with fail
          go_cut [20] from 36 to 123 (fun v wx => ∃ room : Int, v = .int .i64 room ∧ wx = wc ∧ -1 ≤ room ∧ room ≤ 1000)
          case first =>
            by_cases hic : i < on0
            · obtain ⟨cad, z, rfl, hz, _⟩ := (HRO.out.keep HL.out.below) i hic
              obtain ⟨q2, hq2, hqe⟩ := withI_range z 12 (by decide) (by decide)
              go_wp2_with fail
              refine (withinF z 12 _ (by decide) (by decide)).mono ?_
              rintro e w2 ⟨he, rfl⟩
              rw [hqe] at he
              subst he
              go_wp2_with fail
              go_meet
              exact ⟨(q2 : Int) - 1, by go_num, rfl, by omega, by omega⟩
            · go_wp2_with fail
              go_meet
              exact ⟨1000, rfl, rfl, by decide, by decide⟩
          case rest =>
            obtain ⟨room, rfl, rfl, hro1, hro2⟩ := hcut
            obtain ⟨p, hp⟩ : ∃ p, p = b.take q := ⟨_, rfl⟩
            have hpl : p.length = q := by rw [hp, List.length_take]; omega
            have HPL := Box.mk hpl
            have HPB := Box.mk (show IsBytes wc (some bad) p bc by rw [hp]; exact isBytes_take HL.out.rest q)
            obtain ⟨er, s2, out, k, hR⟩ : ∃ er s2 out k, feedS room s [] 0 p = (er, s2, out, k) := ⟨_, _, _, _, rfl⟩
            have HR := Box.mk hR
            have hkp : k ≤ p.length := by have h := feedS_le room p s [] 0; rw [hR] at h; simpa using h
            have hkb : k ≤ b.length := by omega
            have HOK := Box.mk (fun (h0 : er = 0) => show OkC s2 from by have h := feedS_okC room p s [] 0 HL.out.ok (by rw [hR]; exact h0); rw [hR] at h; exact h)
            have hpz : p.length ≤ 1000 := by omega
            have hmin : ∀ (ts : Array TypeId) (t : TypeId) (W : World), (Builtin.min_ ts t #[.int .i64 (q : Int), .int .i64 (b.length : Int)]).run Tryd.prog W = .ok (.int .i64 (q : Int)) W := fun ts t W => by
              rw [run_min_int2, if_neg (by omega)]
            clear hp hpl hR hkp
            go_wp2_with fail
            clear hmin
            rename_i K hK
            refine wp_region_phases [12] (fun p => match p with | 0 => [0, 1, 2, 3, 4, 5, 6, 7, 8, 9, 10, 11] | _ => [8, 9, 10, 13, 14, 15])
              (fun p => match p with
                | 0 => [.val (.agg #[.int .i64 s.ph, .int .i64 s.left, .int .i64 s.tr, .slice xa s.line.length xc]), .val (.slice (some bad) b.length bc), .val (.int .i64 q), .val (.slice (some bad) q bc), .val (.int .i64 room), .fed er s2 out k, .fed er s2 out k, .agf s2, .bytesL out, .val (.int .i64 k), .val (.int .i64 er), .cnew wc.heap.size, .nopeC, .nopeC, .nopeC, .nopeC]
                | _ => [.any, .any, .any, .any, .any, .any, .fed er s2 out k, .any, .bytesL out, .val (.int .i64 k), .val (.int .i64 er), .cst wc.heap.size s2, .any, .bytesL out, .val (.int .i64 k), .val (.int .i64 er)])
              (fun _ wx => Below wc.heap.size wc wx)
              (by kernel_rfl) (by kernel_rfl) (by kernel_rfl) (by kernel_rfl) (by kernel_rfl) (by kernel_rfl) (fun _ _ _ h hb => below_trans h hb) (Below.refl _ _) ?_ ?_ ?_
            · intro ph hph
              match ph, hph with
              | 0, _ =>
                refine ⟨?_, ?_, ?_, ?_, ?_, ?_, ?_, ?_, ?_, ?_, ?_, ?_, trivial⟩ <;> intro a1 w1 hv hf hd
                · exact ⟨wanted_none rfl, loc_load rfl (by rw [show a1.eval (.tmp 16) = _ from hf.base 16 rfl]; exact run_loadC (HL.out.x.keep hv)) rfl⟩
                · exact ⟨wanted_none rfl, loc_move rfl (hf.base 15 rfl)⟩
                · exact ⟨wanted_none rfl, loc_move rfl (hf.base 19 rfl)⟩
                · exact ⟨wanted_none rfl, loc_upto_val rfl (hd 1 rfl) (hd 2 rfl) hqb hcapb rfl⟩
                · exact ⟨wanted_none rfl, loc_move rfl (hf.base 20 rfl)⟩
                · refine ⟨wanted_none rfl, loc_call rfl (by kernel_rfl) ?_⟩
                  show Calls _ _ #[a1.eval (.tmp 74), a1.eval (.tmp 77), a1.eval (.tmp 78)] w1 _
                  rw [show a1.eval (.tmp 74) = _ from hd 0 rfl, show a1.eval (.tmp 77) = _ from hd 3 rfl, show a1.eval (.tmp 78) = _ from hd 4 rfl]
                  have hcall := projFeed_any s p room xa (some bad) xc bc w1 (HL.out.xl.keep hv) (HPB.out.keep hv) HL.out.ok (by omega) (by omega) (by omega)
                  rw [HPL.out] at hcall
                  refine hcall.mono ?_
                  rintro e w' ⟨na, nc, oa, oc, he, h1, h2, h3⟩
                  rw [HR.out] at he h1 h2
                  exact ⟨_, he, h3, na, nc, oa, oc, rfl, h1, h2⟩
                · exact ⟨wanted_none rfl, loc_move rfl (hd 5 rfl)⟩
                · obtain ⟨na, nc, oa, oc, h1, h2, h3⟩ := hd 6 rfl
                  exact ⟨wanted_none rfl, loc_extract40 rfl h1 ⟨na, nc, rfl, h2⟩⟩
                · obtain ⟨na, nc, oa, oc, h1, h2, h3⟩ := hd 6 rfl
                  exact ⟨wanted_none rfl, loc_extract41 rfl h1 ⟨oa, oc, rfl, h3⟩⟩
                · obtain ⟨na, nc, oa, oc, h1, h2, h3⟩ := hd 6 rfl
                  exact ⟨wanted_none rfl, loc_extract42 rfl h1 rfl⟩
                · obtain ⟨na, nc, oa, oc, h1, h2, h3⟩ := hd 6 rfl
                  exact ⟨wanted_none rfl, loc_extract43 rfl h1 rfl⟩
                · exact ⟨wanted_none rfl, loc_allocC rfl hv.size fun v w' h => h⟩
              | 1, _ =>
                refine ⟨?_, ?_, ?_, ?_, ?_, ?_, trivial⟩ <;> intro a1 w1 hv hf hd
                · obtain ⟨na, nc, oa, oc, h1, h2, h3⟩ := hd 6 rfl
                  exact ⟨wanted_none rfl, loc_extract41 rfl h1 ⟨oa, oc, rfl, h3⟩⟩
                · obtain ⟨na, nc, oa, oc, h1, h2, h3⟩ := hd 6 rfl
                  exact ⟨wanted_none rfl, loc_extract42 rfl h1 rfl⟩
                · obtain ⟨na, nc, oa, oc, h1, h2, h3⟩ := hd 6 rfl
                  exact ⟨wanted_none rfl, loc_extract43 rfl h1 rfl⟩
                · exact ⟨wanted_none rfl, loc_assign rfl (hd 8 rfl)⟩
                · exact ⟨wanted_none rfl, loc_assign rfl (hd 9 rfl)⟩
                · exact ⟨wanted_none rfl, loc_assign rfl (hd 10 rfl)⟩
            · intro ph hph
              match ph, hph with
              | 0, _ =>
                intro a1 w1 hv hf hd
                obtain ⟨gp, ep, hgp, hgc⟩ := hd 11 rfl
                obtain ⟨na, nc, eagg, hnb⟩ := hd 7 rfl
                refine ⟨wanted_none rfl, wp_store_row 27 _ _ rfl gp #[.int .i64 s2.ph, .int .i64 s2.left, .int .i64 s2.tr, .slice na s2.line.length nc] ep eagg 27 _ hgc sizeC rfl (oneC _ _ _ _ _ _) ⟨undef, rfl, below_setRow hv hgp _, trivial, ?_⟩⟩
                exact ⟨.inr fun _ _ _ => trivial, .inr fun _ _ _ => trivial, .inr fun _ _ _ => trivial, .inr fun _ _ _ => trivial, .inr fun _ _ _ => trivial, .inr fun _ _ _ => trivial, .inr fun _ _ h => fed_row hgc h, .inr fun _ _ _ => trivial,
                  .inr fun _ _ h => bytesV_row hgc h, .inr fun _ _ h => h, .inr fun _ _ h => h, .inr fun v hv2 _ => ⟨gp, na, nc, (hv2 _ _ rfl rfl).trans ep, hgp, setRow_heap _ _ _ _ _ _ hgc, hgc.setRB hnb _⟩, .inl rfl, .inr fun _ _ h => h.elim, .inr fun _ _ h => h.elim, .inr fun _ _ h => h.elim, trivial⟩
            · intro a2 w6 hv hf hh
              obtain ⟨gp, pa, pc, ep, hgp, hpc, hpb⟩ := hh 11 (by decide)
              obtain ⟨oa, oc, eo, hob⟩ := hh 13 (by decide)
              have ek : a2.eval (.tmp 23) = .int .i64 k := hh 14 (by decide)
              have ee : a2.eval (.tmp 24) = .int .i64 er := hh 15 (by decide)
              have eo' : a2.eval (.tmp 22) = .slice oa out.length oc := eo
              have ep' : a2.eval (.tmp 21) = .pointer (some ⟨gp, 0, none⟩) := ep
              refine hK a2 w6 ?_
              rw [fr_putAll hf]
              simp only [putAll, ep', eo', ek, ee]
              clear hf hh ek ee eo eo' ep ep'
              generalize a2.eval (.tmp 74) = t74
              generalize a2.eval (.tmp 75) = t75
              generalize a2.eval (.tmp 76) = t76
              generalize a2.eval (.tmp 77) = t77
              generalize a2.eval (.tmp 78) = t78
              generalize a2.eval (.tmp 79) = t79
              generalize a2.eval (.tmp 73) = t73
              generalize a2.eval (.tmp 80) = t80
              generalize a2.eval (.tmp 81) = t81
              generalize a2.eval (.tmp 82) = t82
              generalize a2.eval (.tmp 83) = t83
              clear a2
              simp only [Act.put, List.setIfInBounds_toArray, List.set_cons_succ, List.set_cons_zero]
              have HV14 := Box.mk hv
              have HPC := Box.mk hpc
              have HPP := Box.mk hpb
              have HOB := Box.mk hob
              have HL2 := Box.mk (HL.out.keep hv)
              have HPB2 := Box.mk (HPB.out.keep hv)
              clear hv hpc hpb hob
              go_wp2_with fail
              rename_i K hK
              refine wp_region_phases [12] (fun p => match p with | 0 => [0, 1, 2, 3, 4, 5, 6, 7, 8, 9, 10, 11] | _ => [8, 9, 10, 13, 14, 15])
                (fun p => match p with
                  | 0 => [.val (.agg #[.int .i64 s.ph, .int .i64 s.left, .int .i64 s.tr, .slice ya s.line.length yc]), .val (.slice (some bad) b.length bc), .val (.int .i64 q), .val (.slice (some bad) q bc), .val (.int .i64 room), .fed er s2 out k, .fed er s2 out k, .agf s2, .bytesL out, .val (.int .i64 k), .val (.int .i64 er), .cnew w6.heap.size, .nopeC, .nopeC, .nopeC, .nopeC]
                  | _ => [.any, .any, .any, .any, .any, .any, .fed er s2 out k, .any, .bytesL out, .val (.int .i64 k), .val (.int .i64 er), .cst w6.heap.size s2, .any, .bytesL out, .val (.int .i64 k), .val (.int .i64 er)])
                (fun _ wx => Below w6.heap.size w6 wx)
                (by kernel_rfl) (by kernel_rfl) (by kernel_rfl) (by kernel_rfl) (by kernel_rfl) (by kernel_rfl) (fun _ _ _ h hb => below_trans h hb) (Below.refl _ _) ?_ ?_ ?_
              · intro ph hph
                match ph, hph with
                | 0, _ =>
                  refine ⟨?_, ?_, ?_, ?_, ?_, ?_, ?_, ?_, ?_, ?_, ?_, ?_, trivial⟩ <;> intro a1 w1 hv hf hd
                  · exact ⟨wanted_none rfl, loc_load rfl (by rw [show a1.eval (.tmp 17) = _ from hf.base 17 rfl]; exact run_loadC (HL2.out.y.keep hv)) rfl⟩
                  · exact ⟨wanted_none rfl, loc_move rfl (hf.base 15 rfl)⟩
                  · exact ⟨wanted_none rfl, loc_move rfl (hf.base 19 rfl)⟩
                  · exact ⟨wanted_none rfl, loc_upto_val rfl (hd 1 rfl) (hd 2 rfl) hqb hcapb rfl⟩
                  · exact ⟨wanted_none rfl, loc_move rfl (hf.base 20 rfl)⟩
                  · refine ⟨wanted_none rfl, loc_call rfl (by kernel_rfl) ?_⟩
                    show Calls _ _ #[a1.eval (.tmp 85), a1.eval (.tmp 88), a1.eval (.tmp 89)] w1 _
                    rw [show a1.eval (.tmp 85) = _ from hd 0 rfl, show a1.eval (.tmp 88) = _ from hd 3 rfl, show a1.eval (.tmp 89) = _ from hd 4 rfl]
                    have hcall := refFeed_any s p room ya (some bad) yc bc w1 (HL2.out.yl.keep hv) (HPB2.out.keep hv) HL2.out.ok (by omega)
                    rw [HPL.out] at hcall
                    refine hcall.mono ?_
                    rintro e w' ⟨na, nc, fa, fc, he, h1, h2, h3⟩
                    rw [HR.out] at he h1 h2
                    exact ⟨_, he, h3, na, nc, fa, fc, rfl, h1, h2⟩
                  · exact ⟨wanted_none rfl, loc_move rfl (hd 5 rfl)⟩
                  · obtain ⟨na, nc, fa, fc, h1, h2, h3⟩ := hd 6 rfl
                    exact ⟨wanted_none rfl, loc_extract40 rfl h1 ⟨na, nc, rfl, h2⟩⟩
                  · obtain ⟨na, nc, fa, fc, h1, h2, h3⟩ := hd 6 rfl
                    exact ⟨wanted_none rfl, loc_extract41 rfl h1 ⟨fa, fc, rfl, h3⟩⟩
                  · obtain ⟨na, nc, fa, fc, h1, h2, h3⟩ := hd 6 rfl
                    exact ⟨wanted_none rfl, loc_extract42 rfl h1 rfl⟩
                  · obtain ⟨na, nc, fa, fc, h1, h2, h3⟩ := hd 6 rfl
                    exact ⟨wanted_none rfl, loc_extract43 rfl h1 rfl⟩
                  · exact ⟨wanted_none rfl, loc_allocC rfl hv.size fun v w' h => h⟩
                | 1, _ =>
                  refine ⟨?_, ?_, ?_, ?_, ?_, ?_, trivial⟩ <;> intro a1 w1 hv hf hd
                  · obtain ⟨na, nc, fa, fc, h1, h2, h3⟩ := hd 6 rfl
                    exact ⟨wanted_none rfl, loc_extract41 rfl h1 ⟨fa, fc, rfl, h3⟩⟩
                  · obtain ⟨na, nc, fa, fc, h1, h2, h3⟩ := hd 6 rfl
                    exact ⟨wanted_none rfl, loc_extract42 rfl h1 rfl⟩
                  · obtain ⟨na, nc, fa, fc, h1, h2, h3⟩ := hd 6 rfl
                    exact ⟨wanted_none rfl, loc_extract43 rfl h1 rfl⟩
                  · exact ⟨wanted_none rfl, loc_assign rfl (hd 8 rfl)⟩
                  · exact ⟨wanted_none rfl, loc_assign rfl (hd 9 rfl)⟩
                  · exact ⟨wanted_none rfl, loc_assign rfl (hd 10 rfl)⟩
              · intro ph hph
                match ph, hph with
                | 0, _ =>
                  intro a1 w1 hv hf hd
                  obtain ⟨gq, ep, hgp, hgc⟩ := hd 11 rfl
                  obtain ⟨na, nc, eagg, hnb⟩ := hd 7 rfl
                  refine ⟨wanted_none rfl, wp_store_row 27 _ _ rfl gq #[.int .i64 s2.ph, .int .i64 s2.left, .int .i64 s2.tr, .slice na s2.line.length nc] ep eagg 27 _ hgc sizeC rfl (oneC _ _ _ _ _ _) ⟨undef, rfl, below_setRow hv hgp _, trivial, ?_⟩⟩
                  exact ⟨.inr fun _ _ _ => trivial, .inr fun _ _ _ => trivial, .inr fun _ _ _ => trivial, .inr fun _ _ _ => trivial, .inr fun _ _ _ => trivial, .inr fun _ _ _ => trivial, .inr fun _ _ h => fed_row hgc h, .inr fun _ _ _ => trivial,
                    .inr fun _ _ h => bytesV_row hgc h, .inr fun _ _ h => h, .inr fun _ _ h => h, .inr fun v hv2 _ => ⟨gq, na, nc, (hv2 _ _ rfl rfl).trans ep, hgp, setRow_heap _ _ _ _ _ _ hgc, hgc.setRB hnb _⟩, .inl rfl, .inr fun _ _ h => h.elim, .inr fun _ _ h => h.elim, .inr fun _ _ h => h.elim, trivial⟩
              · intro a2 w7 hv hf hh
                obtain ⟨gq, qa, qc, ep, hgp, hpc, hpb⟩ := hh 11 (by decide)
                obtain ⟨fa, fc, eo, hob⟩ := hh 13 (by decide)
                have ek : a2.eval (.tmp 27) = .int .i64 k := hh 14 (by decide)
                have ee : a2.eval (.tmp 28) = .int .i64 er := hh 15 (by decide)
                have eo' : a2.eval (.tmp 26) = .slice fa out.length fc := eo
                have ep' : a2.eval (.tmp 25) = .pointer (some ⟨gq, 0, none⟩) := ep
                refine hK a2 w7 ?_
                rw [fr_putAll hf]
                simp only [putAll, ep', eo', ek, ee]
                clear hf hh ek ee eo eo' ep ep'
                generalize a2.eval (.tmp 85) = t85
                generalize a2.eval (.tmp 86) = t86
                generalize a2.eval (.tmp 87) = t87
                generalize a2.eval (.tmp 88) = t88
                generalize a2.eval (.tmp 89) = t89
                generalize a2.eval (.tmp 90) = t90
                generalize a2.eval (.tmp 84) = t84
                generalize a2.eval (.tmp 91) = t91
                generalize a2.eval (.tmp 92) = t92
                generalize a2.eval (.tmp 93) = t93
                generalize a2.eval (.tmp 94) = t94
                clear a2
                simp only [Act.put, List.setIfInBounds_toArray, List.set_cons_succ, List.set_cons_zero]
                have HQC := Box.mk hpc
                have HQP := Box.mk hpb
                have HFB := Box.mk hob
                have HPC7 := Box.mk (HPC.out.keep hv)
                have HPP7 := Box.mk (HPP.out.keep hv)
                have HL3 := Box.mk (HL2.out.keep hv)
                have hc1 := conv_bytes (HOB.out.keep hv)
                have hc2 := conv_bytes HFB.out
                obtain ⟨hp0, hp1, hp2, hp3⟩ := HPC7.out.cells
                obtain ⟨hq0, hq1', hq2, hq3⟩ := HQC.out.cells
                have hgx6 := HL2.out.x.lt
                have hgy6 := HL2.out.y.lt
                have hgpx := HL.out.x.lt
                have hgpy := HL.out.y.lt
                clear hv hpc hpb hob HPC HPP HOB
                go_wp2_with fail
                refine (sameChunk_any s2.ph s2.left s2.tr s2.line pa qa pc qc _ HPP7.out HQP.out).mono ?_
                rintro e w8 ⟨rfl, hb8⟩
                have HL4 := Box.mk (HL3.out.keep hb8)
                have HP8 := Box.mk (HPC7.out.keep hb8)
                have HQ8 := Box.mk (HQC.out.keep hb8)
                have HPP8 := Box.mk (HPP7.out.keep hb8)
                have HQP8 := Box.mk (HQP.out.keep hb8)
                clear hb8 hc1 hc2 hp0 hp1 hp2 hp3 hq0 hq1' hq2 hq3 HPC7 HQC HPP7 HQP HFB HL3
                by_cases h0 : er = 0
                · have e0 : (er != 0) = false := by rw [h0]; rfl
                  have HOK2 := Box.mk (HOK.out h0)
                  obtain ⟨b2, hb2⟩ : ∃ b2, b2 = b.drop k := ⟨_, rfl⟩
                  have hb2l : b2.length ≤ 1000 := by rw [hb2, List.length_drop]; omega
                  have HB2 := Box.mk hb2
                  clear h0 hb2
                  go_wp2_with fail
                  rename_i K hK
                  refine wp_region_phasesW [5, 6] (fun p => match p with | 0 => [0, 1, 2, 3, 4] | 1 => [1, 2, 3, 4] | _ => [2, 3, 4, 7])
                    (fun p => match p with
                      | 0 => [.val (.agg #[.int .i64 s2.ph, .int .i64 s2.left, .int .i64 s2.tr, .slice pa s2.line.length pc]), .val (.agg #[.int .i64 s2.ph, .int .i64 s2.left, .int .i64 s2.tr, .slice qa s2.line.length qc]), .val (.slice (some bad) b.length bc), .val (.int .i64 k), .bytesL b2, .nopeC, .nopeC, .nopeC]
                      | 1 => [.any, .val (.agg #[.int .i64 s2.ph, .int .i64 s2.left, .int .i64 s2.tr, .slice qa s2.line.length qc]), .val (.slice (some bad) b.length bc), .val (.int .i64 k), .bytesL b2, .any, .nopeC, .nopeC]
                      | _ => [.any, .any, .val (.slice (some bad) b.length bc), .val (.int .i64 k), .bytesL b2, .any, .any, .bytesL b2])
                    (fun p => match p with
                      | 0 => fun wx => Below w8.heap.size w8 wx
                      | 1 => fun wx => CVar wx gx s2.ph s2.left s2.tr (.slice pa s2.line.length pc) ∧ CVar wx (gx + 1) s.ph s.left s.tr (.slice ya s.line.length yc) ∧ CVar wx gq s2.ph s2.left s2.tr (.slice qa s2.line.length qc) ∧ IsBytes wx pa s2.line pc ∧ IsBytes wx qa s2.line qc ∧ IsBytes wx (some bad) b bc ∧ Below w.heap.size w wx
                      | _ => fun wx => CVar wx gx s2.ph s2.left s2.tr (.slice pa s2.line.length pc) ∧ CVar wx (gx + 1) s2.ph s2.left s2.tr (.slice qa s2.line.length qc) ∧ IsBytes wx pa s2.line pc ∧ IsBytes wx qa s2.line qc ∧ IsBytes wx (some bad) b bc ∧ Below w.heap.size w wx)
                    (by kernel_rfl) (by kernel_rfl) (by kernel_rfl) (by kernel_rfl) (by kernel_rfl) (by kernel_rfl) ?_ (Below.refl _ _) ?_ ?_ ?_
                  · intro ph w1' w2' h hb
                    match ph, h with
                    | 0, h => exact below_trans h hb
                    | 1, h =>
                      obtain ⟨h1, h2, h3, h4, h5, h6, h7⟩ := h
                      exact ⟨h1.keep hb, h2.keep hb, h3.keep hb, h4.keep hb, h5.keep hb, h6.keep hb, below_trans h7 hb⟩
                    | (_ + 2), h =>
                      obtain ⟨h1, h2, h4, h5, h6, h7⟩ := h
                      exact ⟨h1.keep hb, h2.keep hb, h4.keep hb, h5.keep hb, h6.keep hb, below_trans h7 hb⟩
                  · intro ph hph
                    match ph, hph with
                    | 0, _ =>
                      refine ⟨?_, ?_, ?_, ?_, ?_, trivial⟩ <;> intro a1 w1' hv hf hd
                      · exact ⟨wanted_none rfl, loc_load rfl (by rw [show a1.eval (.tmp 21) = _ from hf.base 21 rfl]; exact run_loadC (HP8.out.keep hv)) rfl⟩
                      · exact ⟨wanted_none rfl, loc_load rfl (by rw [show a1.eval (.tmp 25) = _ from hf.base 25 rfl]; exact run_loadC (HQ8.out.keep hv)) rfl⟩
                      · exact ⟨wanted_none rfl, loc_move rfl (hf.base 15 rfl)⟩
                      · exact ⟨wanted_none rfl, loc_move rfl (hf.base 23 rfl)⟩
                      · exact ⟨wanted_none rfl, loc_from rfl ⟨some bad, bc, hd 2 rfl, HL4.out.rest.keep hv⟩ (hd 3 rfl) hkb fun v h => by rw [HB2.out]; exact h⟩
                    | 1, _ =>
                      refine ⟨?_, ?_, ?_, ?_, trivial⟩ <;> intro a1 w1' hv hf hd
                      · exact ⟨wanted_none rfl, loc_load rfl (by rw [show a1.eval (.tmp 25) = _ from hf.base 25 rfl]; exact run_loadC hv.2.2.1) rfl⟩
                      · exact ⟨wanted_none rfl, loc_move rfl (hf.base 15 rfl)⟩
                      · exact ⟨wanted_none rfl, loc_move rfl (hf.base 23 rfl)⟩
                      · exact ⟨wanted_none rfl, loc_from rfl ⟨some bad, bc, hd 2 rfl, hv.2.2.2.2.2.1⟩ (hd 3 rfl) hkb fun v h => by rw [HB2.out]; exact h⟩
                    | 2, _ =>
                      refine ⟨?_, ?_, ?_, ?_, trivial⟩ <;> intro a1 w1' hv hf hd
                      · exact ⟨wanted_none rfl, loc_move rfl (hf.base 15 rfl)⟩
                      · exact ⟨wanted_none rfl, loc_move rfl (hf.base 23 rfl)⟩
                      · exact ⟨wanted_none rfl, loc_from rfl ⟨some bad, bc, hd 2 rfl, hv.2.2.2.2.1⟩ (hd 3 rfl) hkb fun v h => by rw [HB2.out]; exact h⟩
                      · exact ⟨wanted_none rfl, loc_assign rfl (hd 4 rfl)⟩
                  · intro ph hph
                    match ph, hph with
                    | 0, _ =>
                      intro a1 w1' hv hf hd
                      have hx := HL4.out.x.keep hv
                      refine ⟨wanted_none rfl, wp_store_row 27 _ _ rfl gx #[.int .i64 s2.ph, .int .i64 s2.left, .int .i64 s2.tr, .slice pa s2.line.length pc] (hf.base 16 rfl) (hd 0 rfl) 27 _ hx sizeC rfl (oneC _ _ _ _ _ _) ⟨undef, rfl, ?_, trivial, ?_⟩⟩
                      · exact ⟨setRow_heap _ _ _ _ _ _ hx, (HL4.out.y.keep hv).row (by omega), (HQ8.out.keep hv).row (by omega), hx.setRB (HPP8.out.keep hv) _, hx.setRB (HQP8.out.keep hv) _, hx.setRB (HL4.out.rest.keep hv) _, below_setRow (below_trans HL4.out.below hv) hlo _⟩
                      · exact ⟨.inr fun _ _ _ => trivial, .inr fun _ _ h => h, .inr fun _ _ h => h, .inr fun _ _ h => h, .inr fun _ _ h => bytesV_row hx h, .inl rfl, .inr fun _ _ h => h.elim, .inr fun _ _ h => h.elim, trivial⟩
                    | 1, _ =>
                      intro a1 w1' hv hf hd
                      obtain ⟨h1, hx, h3, h4, h5, h6, h7⟩ := hv
                      refine ⟨wanted_none rfl, wp_store_row 27 _ _ rfl (gx + 1) #[.int .i64 s2.ph, .int .i64 s2.left, .int .i64 s2.tr, .slice qa s2.line.length qc] (hf.base 17 rfl) (hd 1 rfl) 27 _ hx sizeC rfl (oneC _ _ _ _ _ _) ⟨undef, rfl, ?_, trivial, ?_⟩⟩
                      · exact ⟨h1.row (by omega), setRow_heap _ _ _ _ _ _ hx, hx.setRB h4 _, hx.setRB h5 _, hx.setRB h6 _, below_setRow h7 (by omega) _⟩
                      · exact ⟨.inr fun _ _ _ => trivial, .inr fun _ _ _ => trivial, .inr fun _ _ h => h, .inr fun _ _ h => h, .inr fun _ _ h => bytesV_row hx h, .inr fun _ _ _ => trivial, .inl rfl, .inr fun _ _ h => h.elim, trivial⟩
                  · intro a2 w10 hv hf hh
                    obtain ⟨va, vc, e15, hvb⟩ := hh 7 (by decide)
                    have e15' : a2.eval (.tmp 15) = .slice va b2.length vc := e15
                    obtain ⟨h1, h2, h4, h5, _, h7⟩ := hv
                    have HL10 := Box.mk (show LawF w gx (gx + 1) s2 pa qa pc qc b2 va vc w10 from ⟨HOK2.out, h1, h2, h4, h5, hvb, hb2l, h7⟩)
                    (try simp only [Exit.inBlock, Exit.then])
                    apply_assumption
                    rw [fr_putAll hf]
                    simp only [putAll, e15']
                    clear hf hh e15 e15' hvb h1 h2 h4 h5 h7
                    generalize a2.eval (.tmp 119) = t119
                    generalize a2.eval (.tmp 120) = t120
                    generalize a2.eval (.tmp 121) = t121
                    generalize a2.eval (.tmp 122) = t122
                    generalize a2.eval (.tmp 123) = t123
                    clear a2
                    simp only [Act.put, List.setIfInBounds_toArray, List.set_cons_succ, List.set_cons_zero]
                    clear HL4 HP8 HQ8 HPP8 HQP8
                    go_wp2_with fail
                    go_roundw
                    case rel => exact ⟨i + 1, by omega, by go_num, s2, b2, va, pa, qa, vc, pc, qc, rfl, HL10⟩
                    case measure => simp [intOf]; omega
                · have e0 : (er != 0) = true := by rw [bne_iff_ne]; exact h0
                  clear h0
                  go_wp2_with fail
                  refine (awakeC_any 0 _ (tabs_below HT.out HL4.out.below)).mono ?_
                  rintro e w9 ⟨rfl, hb9⟩
                  have HB9 := Box.mk (below_trans HL4.out.below hb9)
                  clear hb9
                  go_wp2_with fail
                  go_ret
                  exact ⟨rfl, HB9.out⟩
      · by_cases hb0 : 0 < b.length
        · have hi4 : ¬ i < 40 := fun h => hgo ⟨hb0, h⟩
          clear hgo
          go_wp2_with fail
          refine (awakeC_any 0 _ (tabs_below HT.out HL.out.below)).mono ?_
          rintro e w9 ⟨rfl, hb9⟩
          have HB9 := Box.mk (below_trans HL.out.below hb9)
          clear hb9
          go_wp2_with fail
          go_ret
          exact ⟨rfl, HB9.out⟩
        · clear hgo
          go_wp2_with fail
          refine (awakeC_any 0 _ (tabs_below HT.out HL.out.below)).mono ?_
          rintro e w9 ⟨rfl, hb9⟩
          have HB9 := Box.mk (below_trans HL.out.below hb9)
          clear hb9
          go_wp2_with fail
          go_ret
          exact ⟨rfl, HB9.out⟩
end Go.Proofs.YtbplpfcgmmflnaaDoor
namespace Go.Proofs.YtbplpfcgmmflnaaDoor
open Go.RowKit

section
variable {Q : Exit → Act → World → Prop} {act : Act} {w : World} {o : Oper} {s : Spec}
theorem loc_slicePart {x y z : Operand} (ho : o.op = .slice 23 x (some y) (some z) none) {ad : Addr} {n c l q : Nat} (hx : act.eval x = .slice (some ad) n c) (hy : act.eval y = .int .i64 l) (hz : act.eval z = .int .i64 ((l + q : Nat) : Int)) (hl : l < c) (hq : l + q ≤ c) (hs : s.p (.slice (some (ad.add l)) q (c - l)) w) :
    o.wp Tryd.prog act w (fun a' w' => ∃ v, a' = act.put o.dst v ∧ Below w.heap.size w w' ∧ s.p v w') Q := by
  have es : (sizeOf (Tryd.prog.elem 23)).run Tryd.prog w = .ok 1 w := by rw [show Tryd.prog.elem 23 = 5 by kernel_rfl]; exact sizeOf_u8Q w
  refine loc_run (v := .slice (some (ad.add l)) q (c - l)) ?_ (Below.refl _ _) hs
  have hrun : (Instr.sliceAt 23 (.slice (some ad) n c) (some (.int .i64 (l : Int))) (some (.int .i64 ((l + q : Nat) : Int))) none).run Tryd.prog w = .ok (.slice (some (ad.add l)) q (c - l)) w := by
    rw [run_sliceAt_slice w 23 _ _ _ _ (by kernel_rfl), run_slice_lh w 23 _ _ _ (by kernel_rfl) .i64 .i64 (l : Int) ((l + q : Nat) : Int) (by omega) (by omega) (by omega), es]
    simp [Result.andThen, sliced, show ¬ c = l by omega]
    omega
  unfold execOp
  simp only [ho, hx, hy, hz, Option.map_some, Option.map_none, Sem.run_bind, hrun, Result.andThen_ok, Sem.run_pure]
theorem loc_min2N {x y : Operand} {ts : Array TypeId} (ho : o.op = .call { callee := .builtin .min, args := #[x, y], argTypes := ts }) {m k r : Nat} (hx : act.eval x = .int .i64 m) (hy : act.eval y = .int .i64 k) (hr : r = min m k) (hs : s.p (.int .i64 (r : Int)) w) :
    o.wp Tryd.prog act w (fun a' w' => ∃ v, a' = act.put o.dst v ∧ Below w.heap.size w w' ∧ s.p v w') Q :=
  loc_run (v := .int .i64 (r : Int)) (by
    unfold execOp
    simp [ho, hx, hy, resolve, invoke, builtin, run_min_int2]
    split <;> omega) (Below.refl _ _) hs
theorem loc_rem3 {x : Operand} {t : TypeId} (ho : o.op = .binOp .rem 3 x (.const (.int .i64 3)) t) {k : Nat} (hx : act.eval x = .int .i64 k) (hs : s.p (.int .i64 ((k % 3 : Nat) : Int)) w) :
    o.wp Tryd.prog act w (fun a' w' => ∃ v, a' = act.put o.dst v ∧ Below w.heap.size w w' ∧ s.p v w') Q :=
  loc_run (v := .int .i64 ((k % 3 : Nat) : Int)) (by
    have e : (k : Int).tmod 3 = ((k % 3 : Nat) : Int) := by rw [Int.tmod_eq_emod_of_nonneg (by omega)]; omega
    have h : (Op.intDiv .rem .i64 (k : Int) 3).run Tryd.prog w = .ok (.int .i64 ((k % 3 : Nat) : Int)) w := by
      unfold Op.intDiv
      rw [if_neg (by decide), ← e]; rfl
    have hc : act.eval (.const (.int .i64 3)) = .int .i64 3 := rfl
    unfold execOp
    simp only [ho, hx, hc]
    simp [eqGuard, binOp, h, Result.andThen]) (Below.refl _ _) hs
end
def Fresh (B : Nat) (a : Option Addr) (l : List UInt8) : Prop := ∀ y, a = some y → l ≠ [] → B ≤ y.block
def FedF (B : Nat) (er : Int) (s : Chk) (out : List UInt8) (k : Nat) (w : World) (v : Value) : Prop := ∃ a c oa oc, v = .tuple #[.agg #[.int .i64 s.ph, .int .i64 s.left, .int .i64 s.tr, .slice a s.line.length c], .slice oa out.length oc, .int .i64 k, .int .i64 er] ∧ IsBytes w a s.line c ∧ IsBytes w oa out oc ∧ Fresh B a s.line
def Spec.fedf (B : Nat) (er : Int) (s : Chk) (out : List UInt8) (k : Nat) : Spec := ⟨fun v w => FedF B er s out k w v, fun _ _ _ h hb => by
  obtain ⟨a, c, oa, oc, h1, h2, h3, h4⟩ := h
  exact ⟨a, c, oa, oc, h1, h2.keep hb, h3.keep hb, h4⟩⟩
def AgF (B : Nat) (s : Chk) (w : World) (v : Value) : Prop := ∃ a c, v = .agg #[.int .i64 s.ph, .int .i64 s.left, .int .i64 s.tr, .slice a s.line.length c] ∧ IsBytes w a s.line c ∧ Fresh B a s.line
def Spec.agff (B : Nat) (s : Chk) : Spec := ⟨fun v w => AgF B s w v, fun _ _ _ h hb => by
  obtain ⟨a, c, h1, h2, h3⟩ := h
  exact ⟨a, c, h1, h2.keep hb, h3⟩⟩
def CStF (B : Nat) (s : Chk) (w : World) (v : Value) : Prop := ∃ g a c, v = .pointer (some ⟨g, 0, none⟩) ∧ B ≤ g ∧ CVar w g s.ph s.left s.tr (.slice a s.line.length c) ∧ IsBytes w a s.line c ∧ Fresh B a s.line
def Spec.cstf (B : Nat) (s : Chk) : Spec := ⟨fun v w => CStF B s w v, fun _ _ _ h hb => by
  obtain ⟨g, a, c, h1, h2, h3, h4, h5⟩ := h
  exact ⟨g, a, c, h1, h2, h3.keep hb, h4.keep hb, h5⟩⟩
theorem fedf_row {w : World} {g : Nat} {p l t : Int} {va : Option Addr} {n vc : Nat} {cs : Array Value} {B : Nat} {er : Int} {s : Chk} {out : List UInt8} {k : Nat} {v : Value} (h : CVar w g p l t (.slice va n vc)) (f : FedF B er s out k w v) : FedF B er s out k (w.setRow g cs) v := by
  obtain ⟨a, c, oa, oc, h1, h2, h3, h4⟩ := f
  exact ⟨a, c, oa, oc, h1, h.setRB h2 _, h.setRB h3 _, h4⟩
/-- An own slice that does not lie where the line lies. -/
def OwnAp (B : Nat) (pa : Option Addr) (ln o : List UInt8) (w : World) (v : Value) : Prop := Own B w v o ∧ ∀ q, v.ownBlock = some q → ∀ y, pa = some y → ln ≠ [] → y.block ≠ q
def Spec.ownap (B : Nat) (pa : Option Addr) (ln o : List UInt8) : Spec := ⟨fun v w => OwnAp B pa ln o w v, fun _ _ _ h hb => ⟨h.1.keep hb, h.2⟩⟩
theorem IsBytes.blockC {w : World} {a : Option Addr} {l : List UInt8} {c : Nat} (h : IsBytes w a l c) {y : Addr} (e : a = some y) (hl : l ≠ []) : y.block < w.heap.size := by
  subst e; exact h.lt hl
theorem size_setRowC (w : World) (g : Nat) (cs : Array Value) : (w.setRow g cs).heap.size = w.heap.size := by
  unfold World.setRow; simp
/-- In the law's loop: the state at gx, what has come out, what has been read. -/
structure LawP (w5 : World) (s : Chk) (xa : Option Addr) (xc : Nat) (ov : Value) (out : List UInt8) (u : Nat) (b : List UInt8) (W : World) : Prop where
  ok : OkC s
  x : CVar W w5.heap.size s.ph s.left s.tr (.slice xa s.line.length xc)
  xl : IsBytes W xa s.line xc
  own : Own (w5.heap.size + 1) W ov out
  apart : ∀ q, ov.ownBlock = some q → ∀ y, xa = some y → s.line ≠ [] → y.block ≠ q
  below : Below w5.heap.size w5 W
  size : w5.heap.size + 1 ≤ W.heap.size
  le : u ≤ b.length
  len : out.length ≤ u
  eq : feedU zeroC [] 0 b = feedU s out u (b.drop u)
theorem LawP.keep {w5 : World} {s : Chk} {xa : Option Addr} {xc : Nat} {ov : Value} {out : List UInt8} {u : Nat} {b : List UInt8} {W W' : World} (h : LawP w5 s xa xc ov out u b W) (hb : Below W.heap.size W W') : LawP w5 s xa xc ov out u b W' :=
  ⟨h.ok, h.x.keep hb, h.xl.keep hb, h.own.keep hb, h.apart, below_trans h.below hb, Nat.le_trans h.size hb.size, h.le, h.len, h.eq⟩
/-- How the whole ends, at the end of the loop. -/
theorem pcsC_more {s : Chk} {out : List UInt8} {u : Nat} {b : List UInt8} (he : feedU zeroC [] 0 b = feedU s out u (b.drop u)) (h4 : ¬ s.ph = 4) (hu : u = b.length) : (decodeS b).1 = 4 := by
  rw [decodeS_eq, he, List.drop_of_length_le (by omega), feedU_nil]
  simp [h4]
theorem pcsC_done {s : Chk} {out : List UInt8} {u : Nat} {b : List UInt8} (he : feedU zeroC [] 0 b = feedU s out u (b.drop u)) (h4 : s.ph = 4) : decodeS b = (0, out, u) := by
  rw [decodeS_eq, he, feedU_done h4]
  simp [h4]
theorem pcsC_bad {s : Chk} {out : List UInt8} {u q : Nat} {b p : List UInt8} {room : Int} (he : feedU zeroC [] 0 b = feedU s out u (b.drop u)) (hp : p = (b.drop u).take q) (hbad : ¬ (feedS room s [] 0 p).1 = 0) : (decodeS b).1 = (feedS room s [] 0 p).1 := by
  have h := feedS_bad ((b.drop u).drop q) room p s [] 0 out u hbad
  rw [hp, List.take_append_drop] at h
  rw [decodeS_eq, he, h, ← hp]
  simp [hbad]
theorem pcsC_step {s s2 : Chk} {out d : List UInt8} {u q k : Nat} {b p : List UInt8} {room : Int} (he : feedU zeroC [] 0 b = feedU s out u (b.drop u)) (hp : p = (b.drop u).take q) (hR : feedS room s [] 0 p = (0, s2, d, k)) : k ≤ p.length ∧ d.length ≤ k ∧ feedU zeroC [] 0 b = feedU s2 (out ++ d) (u + k) (b.drop (u + k)) := by
  obtain ⟨d2, m, h1, h2, h3, h4, h5⟩ := feedS_piece ((b.drop u).drop q) room p s [] 0 out u (by rw [hR])
  rw [hR] at h1 h2 h5
  simp only [List.nil_append, Nat.zero_add] at h1 h2
  subst h1 h2
  refine ⟨h3, h4, ?_⟩
  rw [hp, List.take_append_drop, List.drop_drop] at h5
  rw [he, h5]
end Go.Proofs.YtbplpfcgmmflnaaDoor
namespace Go.Proofs.YtbplpfcgmmflnaaDoor
open Go.RowKit

set_option maxRecDepth 100000 in
set_option maxHeartbeats 8000000 in
theorem chunkedPieces_any (a : Option Addr) (n c : Nat) (at_ : Int) (x : UInt8) (ca : Option Addr) (cn cc : Nat) (w : World) (hi : IntsF w a n) (hn : n ≤ maxLen) (hc : n ≤ c) (ha : 0 < n → ∃ ad, a = some ad) (hcu : IntsF w ca cn) (ht : Tabs w) :
    Calls Tryd.prog 4 #[.slice a n c, .int .i64 at_, .int .u8 x.toNat, .slice ca cn cc] w fun e w' => e = .returned (.bool true) ∧ Below w.heap.size w w' := by
  have HI := Box.mk hi
  have HN := Box.mk (And.intro hn (And.intro hc ha))
  have HCU := Box.mk hcu
  have HT := Box.mk ht
  clear hi hn hc ha ht hcu
  go_enter Tryd.func4, Tryd.ntmps4
  go_wp2_with fail
  refine (wire_any a n c at_ x _ HI.out HN.out.1 HN.out.2.1 HN.out.2.2).mono ?_
  rintro e w1 ⟨b, ba, bc, rfl, hown, hbl, hb0, _, hb1⟩
  have HBY := Box.mk hown.bytes
  have HB1 := Box.mk hb1
  clear hown hb1 HI HN
  go_wp2_with fail
  refine (projDecode_any b ba bc 0 _ HBY.out (by omega) (tabs_below HT.out HB1.out)).mono ?_
  rintro e w5 ⟨oa, oc, he, hby, hb5⟩
  obtain ⟨er0, body, n0, hD⟩ : ∃ er body n0, decodeS b = (er, body, n0) := ⟨_, _, _, rfl⟩
  rw [hD] at he hby
  simp only [] at he hby
  subst he
  have HD := Box.mk hD
  have HB5 := Box.mk (below_trans HB1.out hb5)
  have HBY5 := Box.mk (HBY.out.keep hb5)
  have HBO5 := Box.mk hby
  have hw5 := HB5.out.size
  obtain ⟨bad, rfl⟩ : ∃ bad, ba = some bad := by
    rcases HBY.out with ⟨_, e, _⟩ | ⟨y, e, _⟩
    · rw [e] at hb0; exact absurd hb0 (Nat.lt_irrefl _)
    · exact ⟨y, e⟩
  have hcapb : b.length ≤ bc := by
    rcases HBY.out with ⟨e, _⟩ | ⟨_, _, h1, _⟩
    · cases e
    · exact h1
  have HL0 := Box.mk (show LawP w5 zeroC none 0 (.slice none 0 0) [] 0 b (w5.alloc (.cells #[.int .i64 0, .int .i64 0, .int .i64 0, .slice none 0 0] 27)) from
    ⟨okC_zero, heap_alloc_new _ _, .inl ⟨rfl, rfl, rfl⟩, Own.start _ _, (fun _ e => by cases e), below_oneF _ _, by rw [World.size_alloc]; exact Nat.le_refl _, Nat.zero_le _, Nat.le_refl _, rfl⟩)
  clear hD hb5 hby HBY
  go_wp2_with fail
  go_loopw [14, 15, 16] (fun ov uv iv wr => ∃ u i : Nat, uv = .int .i64 u ∧ iv = .int .i64 i ∧ i ≤ u ∧ u ≤ b.length ∧ ∃ (s : Chk) (xa : Option Addr) (xc : Nat) (out : List UInt8), Box (LawP w5 s xa xc ov out u b wr)) (fun _ uv _ _ => b.length - (intOf uv).toNat)
  case atStart => exact ⟨0, 0, rfl, rfl, Nat.le_refl _, Nat.zero_le _, zeroC, none, 0, [], HL0⟩
  case round =>
    clear HL0
    obtain ⟨u, i, rfl, rfl, hiu, hub, s, xa, xc, out, HL⟩ := hrel
    obtain ⟨va, vc, rfl, hobv⟩ := HL.out.own.val
    have HOBV := Box.mk hobv
    clear hobv
    obtain ⟨hd0, hd1, hd2, hd3⟩ := HL.out.x.cells
    have hlen := HL.out.len
    have hsz := HL.out.size
    by_cases hlt : u < b.length
    · by_cases h4 : s.ph = 4
      · have e4 : (s.ph != 4) = false := by rw [h4]; rfl
        have H4 := Box.mk h4
        clear h4
        have HDN := Box.mk (pcsC_done HL.out.eq H4.out)
        obtain ⟨rfl, rfl, rfl⟩ : er0 = 0 ∧ body = out ∧ n0 = u := by
          have h := HDN.out
          rw [HD.out] at h
          injection h with h1 h2
          injection h2 with h2 h3
          exact ⟨h1, h2, h3⟩
        have hc1 := conv_bytes HOBV.out
        have hc2 := conv_bytes (HBO5.out.keep HL.out.below)
        clear HDN
        go_wp2_with fail
        refine (awakeC_any 0 _ (tabs_below HT.out (below_trans HB5.out HL.out.below))).mono ?_
        rintro e w9 ⟨rfl, hb9⟩
        have HB9 := Box.mk (below_trans (below_trans HB5.out HL.out.below) hb9)
        clear hb9
        go_wp2_with fail
        (try rw [Exit.noGoto_ret])
        go_ret
        exact ⟨rfl, HB9.out⟩
      · have e4 : (s.ph != 4) = true := by rw [bne_iff_ne]; exact h4
        have H4 := Box.mk h4
        clear h4
        go_upto_if 44 with fail
        go_cut [17] from 32 to 99 (fun v wx => ∃ kk : Nat, v = .int .i64 kk ∧ wx = wr ∧ 1 ≤ kk ∧ kk ≤ 9)
        case first =>
          by_cases hic : i < cn
          · obtain ⟨cad, z, rfl, hz, _⟩ := (HCU.out.keep (below_trans HB5.out HL.out.below)) i hic
            obtain ⟨q, hq, hqe⟩ := withI_range z 9 (by decide) (by decide)
            go_wp2_with fail
            refine (withinF z 9 _ (by decide) (by decide)).mono ?_
            rintro e w2 ⟨he, rfl⟩
            rw [hqe] at he
            subst he
            go_wp2_with fail
            go_meet
            exact ⟨q + 1, by go_num, rfl, by omega, by omega⟩
          · go_wp2_with fail
            go_meet
            exact ⟨1, rfl, rfl, by decide, by decide⟩
        case rest =>
          obtain ⟨kk, rfl, rfl, hk1, hk9⟩ := hcut
          obtain ⟨q, hq⟩ : ∃ q, q = min kk (b.length - u) := ⟨_, rfl⟩
          have hq1 : 1 ≤ q := by omega
          have hqk : q ≤ kk := by omega
          have hqu : u + q ≤ b.length := by omega
          have HQ := Box.mk (show u + q = min (u + kk) b.length by omega)
          obtain ⟨p, hp⟩ : ∃ p, p = (b.drop u).take q := ⟨_, rfl⟩
          have hpl : p.length = q := by rw [hp, List.length_take, List.length_drop]; omega
          have HPL := Box.mk hpl
          have HPE := Box.mk hp
          have HPB := Box.mk (show IsBytes wc (some (bad.add u)) p (bc - u) by rw [hp]; exact isBytes_piece (HBY5.out.keep HL.out.below) hlt hqu)
          obtain ⟨room, hroom⟩ : ∃ room : Nat, room = 1 + (i + 1) % 3 := ⟨_, rfl⟩
          have hr1 : 1 ≤ room := by omega
          have hr3 : room ≤ 3 := by omega
          have HRM := Box.mk hroom
          obtain ⟨er, s2, d, k, hR⟩ : ∃ er s2 d k, feedS room s [] 0 p = (er, s2, d, k) := ⟨_, _, _, _, rfl⟩
          have HR := Box.mk hR
          have HOK := Box.mk (fun (h0 : er = 0) => show OkC s2 from by have h := feedS_okC room p s [] 0 HL.out.ok (by rw [hR]; exact h0); rw [hR] at h; exact h)
          have HST := Box.mk (fun (h0 : er = 0) => pcsC_step HL.out.eq hp (by rw [hR, h0]))
          have HBAD := Box.mk (fun (h0 : ¬ er = 0) => show er0 = er from by
            have h := pcsC_bad (room := room) HL.out.eq hp (by rw [hR]; exact h0)
            rw [hR, HD.out] at h
            exact h)
          have HMV := Box.mk (fun (h0 : er = 0) => show 1 ≤ k from by
            obtain ⟨y, r, hy⟩ : ∃ y r, p = y :: r := by
              cases hpc : p with
              | nil => rw [hpc] at hpl; simp at hpl; omega
              | cons y r => exact ⟨y, r, rfl⟩
            have h := feedS_moves (room := (room : Int)) (s := s) (x := y) (p := r) H4.out (by omega) (by rw [← hy, hR]; exact h0)
            rw [← hy, hR] at h
            exact h)
          clear hp hpl hR hq hroom hd0 hd1 hd2 hd3
          have hi1 : i + 1 ≤ 601 := by omega
          go_wp2_with fail
          rename_i K hK
          refine wp_region_phases [20] (fun p => match p with | 0 => [0, 1, 2, 3, 4, 5, 6, 7, 8, 9, 10, 11, 12, 13, 14, 15, 16, 17, 18, 19] | _ => [16, 17, 18, 21, 22, 23])
            (fun p => match p with
              | 0 => [.val (.agg #[.int .i64 s.ph, .int .i64 s.left, .int .i64 s.tr, .slice xa s.line.length xc]), .val (.slice (some bad) b.length bc), .val (.int .i64 u), .val (.int .i64 u), .val (.int .i64 kk), .val (.int .i64 ((u + kk : Nat) : Int)), .val (.slice (some bad) b.length bc), .val (.int .i64 b.length), .val (.int .i64 ((u + q : Nat) : Int)), .val (.slice (some (bad.add u)) q (bc - u)), .val (.int .i64 ((i : Int) + 1)), .val (.int .i64 (((i + 1) % 3 : Nat) : Int)), .val (.int .i64 (room : Int)), .fedf wc.heap.size er s2 d k, .fedf wc.heap.size er s2 d k, .agff wc.heap.size s2, .bytesL d, .val (.int .i64 k), .val (.int .i64 er), .cnew wc.heap.size, .nopeC, .nopeC, .nopeC, .nopeC]
              | _ => [.any, .any, .any, .any, .any, .any, .any, .any, .any, .any, .any, .any, .any, .any, .fedf wc.heap.size er s2 d k, .any, .bytesL d, .val (.int .i64 k), .val (.int .i64 er), .cstf wc.heap.size s2, .any, .bytesL d, .val (.int .i64 k), .val (.int .i64 er)])
            (fun _ wx => Below wc.heap.size wc wx)
            (by kernel_rfl) (by kernel_rfl) (by kernel_rfl) (by kernel_rfl) (by kernel_rfl) (by kernel_rfl) (fun _ _ _ h hb => below_trans h hb) (Below.refl _ _) ?_ ?_ ?_
          · intro ph hph
            match ph, hph with
            | 0, _ =>
              refine ⟨?_, ?_, ?_, ?_, ?_, ?_, ?_, ?_, ?_, ?_, ?_, ?_, ?_, ?_, ?_, ?_, ?_, ?_, ?_, ?_, trivial⟩ <;> intro a1 w1 hv hf hd
              · exact ⟨wanted_none rfl, loc_load rfl (by rw [show a1.eval (.tmp 13) = _ from hf.base 13 rfl]; exact run_loadC (HL.out.x.keep hv)) rfl⟩
              · exact ⟨wanted_none rfl, loc_move rfl (hf.base 9 rfl)⟩
              · exact ⟨wanted_none rfl, loc_move rfl (hf.base 15 rfl)⟩
              · exact ⟨wanted_none rfl, loc_move rfl (hf.base 15 rfl)⟩
              · exact ⟨wanted_none rfl, loc_move rfl (hf.base 17 rfl)⟩
              · exact ⟨wanted_none rfl, loc_addF rfl (m := u) (k := kk) (hd 3 rfl) (hd 4 rfl) (by omega) rfl⟩
              · exact ⟨wanted_none rfl, loc_move rfl (hf.base 9 rfl)⟩
              · exact ⟨wanted_none rfl, loc_len rfl (hd 6 rfl) rfl⟩
              · exact ⟨wanted_none rfl, loc_min2N rfl (m := u + kk) (k := b.length) (hd 5 rfl) (hd 7 rfl) HQ.out rfl⟩
              · exact ⟨wanted_none rfl, loc_slicePart rfl (hd 1 rfl) (hd 2 rfl) (hd 8 rfl) (by omega) (by omega) rfl⟩
              · exact ⟨wanted_none rfl, loc_move rfl (hf.base 16 rfl)⟩
              · exact ⟨wanted_none rfl, loc_rem3 rfl (k := i + 1) ((hd 10 rfl).trans (by rw [Int.natCast_add]; rfl)) rfl⟩
              · exact ⟨wanted_none rfl, loc_addF rfl (m := 1) (k := (i + 1) % 3) rfl (hd 11 rfl) (by omega) (by rw [HRM.out]; rfl)⟩
              · refine ⟨wanted_none rfl, loc_call rfl (by kernel_rfl) ?_⟩
                show Calls _ _ #[a1.eval (.tmp 54), a1.eval (.tmp 63), a1.eval (.tmp 66)] w1 _
                rw [show a1.eval (.tmp 54) = _ from hd 0 rfl, show a1.eval (.tmp 63) = _ from hd 9 rfl, show a1.eval (.tmp 66) = _ from hd 12 rfl]
                have hcall := projFeedF_any s p room xa (some (bad.add u)) xc (bc - u) w1 (HL.out.xl.keep hv) (HPB.out.keep hv) HL.out.ok (by have := HPL.out; omega) (by omega) (by omega)
                rw [HPL.out] at hcall
                refine hcall.mono ?_
                rintro e w' ⟨na, nc, oa', oc', he, h1, h2, h3, h4⟩
                rw [HR.out] at he h1 h2 h4
                exact ⟨_, he, h3, na, nc, oa', oc', rfl, h1, h2, fun y e hne => Nat.le_trans hv.size (h4 y e hne)⟩
              · exact ⟨wanted_none rfl, loc_move rfl (hd 13 rfl)⟩
              · obtain ⟨na, nc, oa', oc', h1, h2, h3, h4⟩ := hd 14 rfl
                exact ⟨wanted_none rfl, loc_extract40 rfl h1 ⟨na, nc, rfl, h2, h4⟩⟩
              · obtain ⟨na, nc, oa', oc', h1, h2, h3, h4⟩ := hd 14 rfl
                exact ⟨wanted_none rfl, loc_extract41 rfl h1 ⟨oa', oc', rfl, h3⟩⟩
              · obtain ⟨na, nc, oa', oc', h1, h2, h3, h4⟩ := hd 14 rfl
                exact ⟨wanted_none rfl, loc_extract42 rfl h1 rfl⟩
              · obtain ⟨na, nc, oa', oc', h1, h2, h3, h4⟩ := hd 14 rfl
                exact ⟨wanted_none rfl, loc_extract43 rfl h1 rfl⟩
              · exact ⟨wanted_none rfl, loc_allocC rfl hv.size fun v w' h => h⟩
            | 1, _ =>
              refine ⟨?_, ?_, ?_, ?_, ?_, ?_, trivial⟩ <;> intro a1 w1 hv hf hd
              · obtain ⟨na, nc, oa', oc', h1, h2, h3, h4⟩ := hd 14 rfl
                exact ⟨wanted_none rfl, loc_extract41 rfl h1 ⟨oa', oc', rfl, h3⟩⟩
              · obtain ⟨na, nc, oa', oc', h1, h2, h3, h4⟩ := hd 14 rfl
                exact ⟨wanted_none rfl, loc_extract42 rfl h1 rfl⟩
              · obtain ⟨na, nc, oa', oc', h1, h2, h3, h4⟩ := hd 14 rfl
                exact ⟨wanted_none rfl, loc_extract43 rfl h1 rfl⟩
              · exact ⟨wanted_none rfl, loc_assign rfl (hd 16 rfl)⟩
              · exact ⟨wanted_none rfl, loc_assign rfl (hd 17 rfl)⟩
              · exact ⟨wanted_none rfl, loc_assign rfl (hd 18 rfl)⟩
          · intro ph hph
            match ph, hph with
            | 0, _ =>
              intro a1 w1 hv hf hd
              obtain ⟨gp, ep, hgp, hgc⟩ := hd 19 rfl
              obtain ⟨na, nc, eagg, hnb, hfr⟩ := hd 15 rfl
              refine ⟨wanted_none rfl, wp_store_row 27 _ _ rfl gp #[.int .i64 s2.ph, .int .i64 s2.left, .int .i64 s2.tr, .slice na s2.line.length nc] ep eagg 27 _ hgc sizeC rfl (oneC _ _ _ _ _ _) ⟨undef, rfl, below_setRow hv hgp _, trivial, ?_⟩⟩
              exact ⟨.inr fun _ _ _ => trivial, .inr fun _ _ _ => trivial, .inr fun _ _ _ => trivial, .inr fun _ _ _ => trivial, .inr fun _ _ _ => trivial, .inr fun _ _ _ => trivial, .inr fun _ _ _ => trivial, .inr fun _ _ _ => trivial, .inr fun _ _ _ => trivial, .inr fun _ _ _ => trivial, .inr fun _ _ _ => trivial, .inr fun _ _ _ => trivial, .inr fun _ _ _ => trivial, .inr fun _ _ _ => trivial, .inr fun _ _ h => fedf_row hgc h, .inr fun _ _ _ => trivial,
                .inr fun _ _ h => bytesV_row hgc h, .inr fun _ _ h => h, .inr fun _ _ h => h, .inr fun v hv2 _ => ⟨gp, na, nc, (hv2 _ _ rfl rfl).trans ep, hgp, setRow_heap _ _ _ _ _ _ hgc, hgc.setRB hnb _, hfr⟩, .inl rfl, .inr fun _ _ h => h.elim, .inr fun _ _ h => h.elim, .inr fun _ _ h => h.elim, trivial⟩
          · intro a2 w6 hv hf hh
            obtain ⟨gp, pa, pc, ep, hgp, hpc, hpb, hpf⟩ := hh 19 (by decide)
            obtain ⟨fa, fc, eo, hob⟩ := hh 21 (by decide)
            have ek : a2.eval (.tmp 20) = .int .i64 k := hh 22 (by decide)
            have ee1 : a2.eval (.tmp 21) = .int .i64 er := hh 23 (by decide)
            have eo' : a2.eval (.tmp 19) = .slice fa d.length fc := eo
            have ep' : a2.eval (.tmp 18) = .pointer (some ⟨gp, 0, none⟩) := ep
            (try simp only [Exit.then])
            refine hK a2 w6 ?_
            rw [fr_putAll hf]
            simp only [putAll, ep', eo', ek, ee1]
            clear hf hh ek ee1 eo eo' ep ep'
            generalize a2.eval (.tmp 53) = t53
            generalize a2.eval (.tmp 54) = t54
            generalize a2.eval (.tmp 55) = t55
            generalize a2.eval (.tmp 56) = t56
            generalize a2.eval (.tmp 57) = t57
            generalize a2.eval (.tmp 58) = t58
            generalize a2.eval (.tmp 59) = t59
            generalize a2.eval (.tmp 60) = t60
            generalize a2.eval (.tmp 61) = t61
            generalize a2.eval (.tmp 62) = t62
            generalize a2.eval (.tmp 63) = t63
            generalize a2.eval (.tmp 64) = t64
            generalize a2.eval (.tmp 65) = t65
            generalize a2.eval (.tmp 66) = t66
            generalize a2.eval (.tmp 67) = t67
            generalize a2.eval (.tmp 68) = t68
            generalize a2.eval (.tmp 69) = t69
            generalize a2.eval (.tmp 70) = t70
            generalize a2.eval (.tmp 71) = t71
            clear a2
            simp only [Act.put, List.setIfInBounds_toArray, List.set_cons_succ, List.set_cons_zero]
            have HPC := Box.mk hpc
            have HPP := Box.mk hpb
            have HPF := Box.mk hpf
            have HOB := Box.mk hob
            have HL2 := Box.mk (HL.out.keep hv)
            have hgx6 := HL2.out.x.lt
            have hgpx := HL.out.x.lt
            have hw6 := hv.size
            clear hv hpc hpb hpf hob
            by_cases h0 : er = 0
            · have e0 : (er != 0) = false := by rw [h0]; rfl
              obtain ⟨hkp, hdk, heq⟩ := HST.out h0
              have hk1' := HMV.out h0
              have HOK2 := Box.mk (HOK.out h0)
              have HEQ := Box.mk heq
              have hkq : k ≤ kk := by have := HPL.out; omega
              have hkb : u + k ≤ b.length := by have := HPL.out; omega
              have hz1 : ¬ ((k : Int) < 1) := by omega
              have hz2 : ¬ kk < k := by omega
              have hz3 : ¬ k < d.length := by omega
              clear heq h0 HST HMV HOK HBAD
              go_wp2_with fail
              clear hz1 hz2 hz3
              rename_i K hK
              obtain ⟨o2, ho2⟩ : ∃ o2, o2 = out ++ d := ⟨_, rfl⟩
              have hol2 : o2.length ≤ u + k := by rw [ho2, List.length_append]; omega
              have HO2 := Box.mk ho2
              clear ho2
              refine wp_region_phasesW [3, 7] (fun p => match p with | 0 => [0, 1, 2, 4, 5, 6] | 1 => [0, 4, 5, 6] | _ => [4, 5, 6, 8, 9])
                (fun p => match p with
                  | 0 => [.val (.agg #[.int .i64 s2.ph, .int .i64 s2.left, .int .i64 s2.tr, .slice pa s2.line.length pc]), .val (.slice va out.length vc), .val (.slice fa d.length fc), .nopeC, .val (.int .i64 u), .val (.int .i64 k), .val (.int .i64 ((u + k : Nat) : Int)), .nopeC, .nopeC, .nopeC]
                  | 1 => [.val (.agg #[.int .i64 s2.ph, .int .i64 s2.left, .int .i64 s2.tr, .slice pa s2.line.length pc]), .any, .any, .ownap (w5.heap.size + 1) pa s2.line o2, .val (.int .i64 u), .val (.int .i64 k), .val (.int .i64 ((u + k : Nat) : Int)), .nopeC, .nopeC, .nopeC]
                  | _ => [.any, .any, .any, .ownap (w5.heap.size + 1) pa s2.line o2, .val (.int .i64 u), .val (.int .i64 k), .val (.int .i64 ((u + k : Nat) : Int)), .any, .ownap (w5.heap.size + 1) pa s2.line o2, .val (.int .i64 ((u + k : Nat) : Int))])
                (fun p => match p with
                  | 0 => fun wx => Below w6.heap.size w6 wx
                  | 1 => fun wx => CVar wx w5.heap.size s.ph s.left s.tr (.slice xa s.line.length xc) ∧ CVar wx gp s2.ph s2.left s2.tr (.slice pa s2.line.length pc) ∧ IsBytes wx pa s2.line pc ∧ Below w5.heap.size w5 wx ∧ w5.heap.size + 1 ≤ wx.heap.size
                  | _ => fun wx => CVar wx w5.heap.size s2.ph s2.left s2.tr (.slice pa s2.line.length pc) ∧ IsBytes wx pa s2.line pc ∧ Below w5.heap.size w5 wx ∧ w5.heap.size + 1 ≤ wx.heap.size)
                (by kernel_rfl) (by kernel_rfl) (by kernel_rfl) (by kernel_rfl) (by kernel_rfl) (by kernel_rfl) ?_ (Below.refl _ _) ?_ ?_ ?_
              · intro ph w1' w2' h hb
                match ph, h with
                | 0, h => exact below_trans h hb
                | 1, h =>
                  obtain ⟨h1, h2, h3, h4, h5⟩ := h
                  exact ⟨h1.keep hb, h2.keep hb, h3.keep hb, below_trans h4 hb, Nat.le_trans h5 hb.size⟩
                | (_ + 2), h =>
                  obtain ⟨h1, h3, h4, h5⟩ := h
                  exact ⟨h1.keep hb, h3.keep hb, below_trans h4 hb, Nat.le_trans h5 hb.size⟩
              · intro ph hph
                match ph, hph with
                | 0, _ =>
                  refine ⟨?_, ?_, ?_, ?_, ?_, ?_, trivial⟩ <;> intro a1 w1' hv hf hd
                  · exact ⟨wanted_none rfl, loc_load rfl (by rw [show a1.eval (.tmp 18) = _ from hf.base 18 rfl]; exact run_loadC (HPC.out.keep hv)) rfl⟩
                  · exact ⟨wanted_none rfl, loc_move rfl (hf.base 14 rfl)⟩
                  · exact ⟨wanted_none rfl, loc_move rfl (hf.base 19 rfl)⟩
                  · exact ⟨wanted_none rfl, loc_move rfl (hf.base 15 rfl)⟩
                  · exact ⟨wanted_none rfl, loc_move rfl (hf.base 20 rfl)⟩
                  · exact ⟨wanted_none rfl, loc_addF rfl (m := u) (k := k) (hd 4 rfl) (hd 5 rfl) (by omega) rfl⟩
                | 1, _ =>
                  refine ⟨?_, ?_, ?_, ?_, trivial⟩ <;> intro a1 w1' hv hf hd
                  · exact ⟨wanted_none rfl, loc_load rfl (by rw [show a1.eval (.tmp 18) = _ from hf.base 18 rfl]; exact run_loadC hv.2.1) rfl⟩
                  · exact ⟨wanted_none rfl, loc_move rfl (hf.base 15 rfl)⟩
                  · exact ⟨wanted_none rfl, loc_move rfl (hf.base 20 rfl)⟩
                  · exact ⟨wanted_none rfl, loc_addF rfl (m := u) (k := k) (hd 4 rfl) (hd 5 rfl) (by omega) rfl⟩
                | 2, _ =>
                  refine ⟨?_, ?_, ?_, ?_, ?_, trivial⟩ <;> intro a1 w1' hv hf hd
                  · exact ⟨wanted_none rfl, loc_move rfl (hf.base 15 rfl)⟩
                  · exact ⟨wanted_none rfl, loc_move rfl (hf.base 20 rfl)⟩
                  · exact ⟨wanted_none rfl, loc_addF rfl (m := u) (k := k) (hd 4 rfl) (hd 5 rfl) (by omega) rfl⟩
                  · exact ⟨wanted_none rfl, loc_assign rfl (hd 3 rfl)⟩
                  · exact ⟨wanted_none rfl, loc_assign rfl (hd 6 rfl)⟩
              · intro ph hph
                match ph, hph with
                | 0, _ =>
                  intro a1 w1' hv hf hd
                  have e1 : a1.eval (.tmp 94) = .slice va out.length vc := hd 1 rfl
                  have ho1 : Own (w5.heap.size + 1) w1' (a1.eval (.tmp 94)) out := by rw [e1]; exact HL2.out.own.keep hv
                  have hw1 := hv.size
                  refine ⟨wanted_none rfl, wp_append_ownb rfl (B := w5.heap.size + 1) (l := out) (r := d) ho1 ⟨fa, fc, hd 2 rfl, HOB.out.keep hv⟩ (by have := HPL.out; omega) (by omega) fun v' w' h1 h2 h3 => ⟨v', rfl, ?_, ?_, ?_⟩⟩
                  · rw [e1] at h2
                    have hne : ∀ q', (Value.slice va out.length vc).ownBlock = some q' → w5.heap.size + 1 ≤ q' ∧ q' < wc.heap.size := fun q' e => HL.out.own.lt e
                    refine ⟨(HL2.out.x.keep hv).grownC h2 (fun e => by have := (hne _ e.symm).1; omega), (HPC.out.keep hv).grownC h2 (fun e => by have := (hne _ e.symm).2; omega), ?_, (below_trans HL2.out.below hv).grown h2 (by omega) (fun q' e => by have := (hne q' e).1; omega), by have := h2.size; omega⟩
                    exact (HPP.out.keep hv).same fun y ey hl => h2.block _ ((HPP.out.keep hv).blockC ey hl) (fun e => by have := (hne _ e.symm).2; have := HPF.out y ey hl; omega)
                  · refine ⟨by rw [HO2.out]; exact h1, fun q' eq y ey => ?_⟩
                    rw [e1] at h3
                    rcases h3 with h3 | h3
                    · have h8 := (HL.out.own.lt (h3 ▸ eq)).2
                      intro hl e
                      have := HPF.out y ey hl
                      omega
                    · intro hl e
                      have h9 : q' = w1'.heap.size := (Option.some.inj (h3.symm.trans eq)).symm
                      have := (HPP.out.keep hv).blockC ey hl
                      omega
                  · exact ⟨.inr fun _ _ h => h, .inr fun _ _ _ => trivial, .inr fun _ _ _ => trivial, .inl rfl, .inr fun _ _ h => h, .inr fun _ _ h => h, .inr fun _ _ h => h, .inr fun _ _ h => h.elim, .inr fun _ _ h => h.elim, .inr fun _ _ h => h.elim, trivial⟩
                | 1, _ =>
                  intro a1 w1' hv hf hd
                  obtain ⟨hx, h3, h4, h6, h7⟩ := hv
                  refine ⟨wanted_none rfl, wp_store_row 27 _ _ rfl w5.heap.size #[.int .i64 s2.ph, .int .i64 s2.left, .int .i64 s2.tr, .slice pa s2.line.length pc] (hf.base 13 rfl) (hd 0 rfl) 27 _ hx sizeC rfl (oneC _ _ _ _ _ _) ⟨undef, rfl, ?_, trivial, ?_⟩⟩
                  · exact ⟨setRow_heap _ _ _ _ _ _ hx, hx.setRB h4 _, below_setRow h6 (Nat.le_refl _) _, by rw [size_setRowC]; exact h7⟩
                  · exact ⟨.inr fun _ _ _ => trivial, .inr fun _ _ _ => trivial, .inr fun _ _ _ => trivial, .inr fun _ _ h => ⟨h.1.setR (by omega), h.2⟩, .inr fun _ _ h => h, .inr fun _ _ h => h, .inr fun _ _ h => h, .inl rfl, .inr fun _ _ h => h.elim, .inr fun _ _ h => h.elim, trivial⟩
              · intro a2 w10 hv hf hh
                obtain ⟨h14, hap⟩ := hh 8 (by decide)
                have e15 : a2.eval (.tmp 15) = .int .i64 ((u + k : Nat) : Int) := hh 9 (by decide)
                obtain ⟨h1, h4, h6, h7⟩ := hv
                have HL10 := Box.mk (show LawP w5 s2 pa pc (a2.eval (.tmp 14)) o2 (u + k) b w10 from ⟨HOK2.out, h1, h4, h14, hap, h6, h7, hkb, hol2, by rw [HEQ.out, HO2.out]⟩)
                clear hh h14 hap h1 h4 h6 h7
                rw [fr_putAll hf]
                simp only [putAll, e15]
                clear hf e15
                generalize a2.eval (.tmp 93) = t93
                generalize a2.eval (.tmp 94) = t94
                generalize a2.eval (.tmp 95) = t95
                generalize a2.eval (.tmp 96) = t96
                generalize a2.eval (.tmp 97) = t97
                generalize a2.eval (.tmp 98) = t98
                generalize a2.eval (.tmp 99) = t99
                generalize a2.eval (.tmp 14) = ov2 at *
                clear a2
                simp only [Act.put, List.setIfInBounds_toArray, List.set_cons_succ, List.set_cons_zero]
                clear HL HL2 HPC HPP HPF HOB
                (try simp only [Exit.inBlock])
                go_roundw
                case rel =>
                  (repeat apply Exists.intro)
                  refine ⟨?_, rfl⟩
                  exact ⟨u + k, i + 1, by go_num, by go_num, by omega, hkb, s2, pa, pc, o2, HL10⟩
                case measure => simp [intOf]; omega
            · have e0 : (er != 0) = true := by rw [bne_iff_ne]; exact h0
              have ee : (er == er0) = true := by rw [HBAD.out h0]; exact beq_self_eq_true _
              clear h0 HST HMV HOK HBAD
              go_wp2_with fail
              refine (awakeC_any 0 _ (tabs_below HT.out (below_trans HB5.out HL2.out.below))).mono ?_
              rintro e w9 ⟨rfl, hb9⟩
              have HB9 := Box.mk (below_trans (below_trans HB5.out HL2.out.below) hb9)
              clear hb9
              go_wp2_with fail
              (try rw [Exit.noGoto_ret])
              go_ret
              exact ⟨rfl, HB9.out⟩
    · obtain rfl : u = b.length := by omega
      by_cases h4 : s.ph = 4
      · have e4 : (s.ph != 4) = false := by rw [h4]; rfl
        have H4 := Box.mk h4
        clear h4
        have HDN := Box.mk (pcsC_done HL.out.eq H4.out)
        obtain ⟨rfl, rfl, rfl⟩ : er0 = 0 ∧ body = out ∧ n0 = b.length := by
          have h := HDN.out
          rw [HD.out] at h
          injection h with h1 h2
          injection h2 with h2 h3
          exact ⟨h1, h2, h3⟩
        have hc1 := conv_bytes HOBV.out
        have hc2 := conv_bytes (HBO5.out.keep HL.out.below)
        clear HDN
        go_wp2_with fail
        refine (awakeC_any 0 _ (tabs_below HT.out (below_trans HB5.out HL.out.below))).mono ?_
        rintro e w9 ⟨rfl, hb9⟩
        have HB9 := Box.mk (below_trans (below_trans HB5.out HL.out.below) hb9)
        clear hb9
        go_wp2_with fail
        (try rw [Exit.noGoto_ret])
        go_ret
        exact ⟨rfl, HB9.out⟩
      · have e4 : (s.ph != 4) = true := by rw [bne_iff_ne]; exact h4
        have HM := Box.mk (pcsC_more HL.out.eq h4 rfl)
        have em : (er0 == 4) = true := by have h := HM.out; rw [HD.out] at h; rw [show er0 = 4 from h]; rfl
        clear h4 HM
        go_wp2_with fail
        refine (awakeC_any 0 _ (tabs_below HT.out (below_trans HB5.out HL.out.below))).mono ?_
        rintro e w9 ⟨rfl, hb9⟩
        have HB9 := Box.mk (below_trans (below_trans HB5.out HL.out.below) hb9)
        clear hb9
        go_wp2_with fail
        (try rw [Exit.noGoto_ret])
        go_ret
        exact ⟨rfl, HB9.out⟩
end Go.Proofs.YtbplpfcgmmflnaaDoor
namespace Go.Proofs.YtbplpfcgmmflnaaDoor
open Go.RowKit

/-- A slice of slices of bytes of the call's own; the bytes lie in the memory that was there before. -/
structure CutS (w0 w : World) (v : Value) (ls : List (List UInt8)) : Prop where
  own : ∃ vs : List Value, w.ownsRow w0.heap.size 23 1 v vs.length vs ∧ vs.length = ls.length ∧ ∀ j (hj : j < ls.length), ∃ ba bc, vs[j]? = some (.slice ba ls[j].length bc) ∧ IsBytes w0 ba ls[j] bc
  below : Below w0.heap.size w0 w
theorem CutS.start (w : World) : CutS w w (.slice none 0 0) [] := ⟨⟨[], World.ownsRow_nil _ _ _ _, rfl, fun _ hj => absurd hj (Nat.not_lt_zero _)⟩, Below.refl _ _⟩
theorem CutS.keep {w0 w w' : World} {v : Value} {ls : List (List UInt8)} (h : CutS w0 w v ls) (hb : Below w.heap.size w w') : CutS w0 w' v ls := by
  obtain ⟨⟨vs, h1, h2, h3⟩, h4⟩ := h
  refine ⟨⟨vs, ?_, h2, h3⟩, below_trans h4 hb⟩
  obtain ⟨k1, k2⟩ := h1
  refine ⟨k1, ?_⟩
  rcases k2 with k2 | ⟨g, cap, cur, hv, hg, hc, r⟩
  · exact .inl k2
  · exact .inr ⟨g, cap, cur, hv, hg, by rw [hb.block g (Array.getElem?_eq_some_iff.1 hc).1]; exact hc, r⟩
theorem CutS.val {w0 w : World} {v : Value} {ls : List (List UInt8)} (h : CutS w0 w v ls) : ∃ a c, v = .slice a ls.length c ∧ SlcIn w a ls := by
  obtain ⟨⟨vs, h1, h2, h3⟩, h4⟩ := h
  have h5 := h1
  obtain ⟨k1, k2⟩ := h1
  rcases k2 with ⟨rfl, k2⟩ | ⟨g, cap, cur, rfl, hg, hc, hncap, hm, hsz, ht⟩
  · have : ls = [] := List.eq_nil_of_length_eq_zero (by omega)
    subst this
    exact ⟨none, 0, rfl, slcIn_nil _ _⟩
  · refine ⟨some ⟨g, 0, none⟩, cap, by rw [h2], fun j hj => ?_⟩
    obtain ⟨ba, bc, e1, e2⟩ := h3 j hj
    exact ⟨_, ba, bc, rfl, World.ownsRow.cells h5 (g := g) rfl j _ e1, e2.keep h4⟩
section
variable {ops : Array Oper} {rest : List Oper} {o : Oper} {act : Act} {Q : Exit → Act → World → Prop}
theorem wpList_append_cutS (w0 w : World) (hgd : o.guard = none) (s x : Operand) (ho : o.op = .call { callee := .builtin .append, args := #[s, x], argTypes := #[39, 39] })
    {v : Value} {ls : List (List UInt8)} (hs : act.eval s = v) (h : CutS w0 w v ls) {ad : Addr} {c : Nat} (hx : act.eval x = .slice (some ad) 1 c) {ba : Option Addr} {l : List UInt8} {bc : Nat} (hc : w.cell? (ad.add 0) = some (.slice ba l.length bc)) (hb : IsBytes w0 ba l bc)
    (hn : ls.length ≤ 1000)
    (K : ∀ v' w', CutS w0 w' v' (ls ++ [l]) → wpList Tryd.prog ops Q rest (act.put o.dst v') w') : wpList Tryd.prog ops Q (o :: rest) act w := by
  obtain ⟨i0, hi, hz0, hz1, hz2⟩ := info_parts Tryd.info23
  obtain ⟨⟨vs, h1, h2, h3⟩, h4⟩ := h
  refine wpList_append_own_at w hgd s x 39 ho w0.heap.size 23 i0 (.slice none 0 0) 1 24 Tryd.underlying39 hi hz0 hz1 hz2 rfl (by decide) v vs.length vs hs h1 ad 1 c [.slice ba l.length bc] hx rfl ?_ ?_ (by unfold maxLen; omega) (by omega) h4.size ?_
  · intro j u hj
    have hj0 : j < 1 := by
      have := (List.getElem?_eq_some_iff.1 hj).1
      simpa using this
    obtain rfl : j = 0 := by omega
    simp at hj
    subst hj
    exact hc
  · intro u hu
    obtain rfl := List.mem_singleton.1 hu
    rfl
  · intro v' w' hown hgrow _ h5
    refine K v' w' ⟨⟨vs ++ [.slice ba l.length bc], ?_, by simp [h2], fun j hj => ?_⟩, h4.grown hgrow h4.size (fun q e => ?_)⟩
    · rw [List.length_append]; exact hown
    · rw [List.length_append] at hj
      by_cases hjl : j < ls.length
      · obtain ⟨ba2, bc2, e1, e2⟩ := h3 j hjl
        refine ⟨ba2, bc2, ?_, ?_⟩
        · rw [List.getElem?_append_left (by omega), e1, List.getElem_append_left hjl]
        · rw [List.getElem_append_left hjl]; exact e2
      · have hje : j = ls.length := by simp at hj; omega
        subst hje
        refine ⟨ba, bc, ?_, ?_⟩
        · rw [List.getElem?_append_right (by omega)]; simp [h2]
        · simpa using hb
    · exact (World.ownsRow.lt h1 q e).1
theorem loc_eqlEC {w : World} {s : Spec} {x y : Operand} {t : TypeId} (ho : o.op = .binOp .eql 29 x y t) {n : Int} (hx : act.eval x = .int .i64 n) (hy : act.eval y = .int .i64 n) (hs : s.p (.bool true) w) :
    o.wp Tryd.prog act w (fun a' w' => ∃ v, a' = act.put o.dst v ∧ Below w.heap.size w w' ∧ s.p v w') Q :=
  loc_run (v := .bool true) (by
    unfold execOp
    simp [ho, hx, hy, eqGuard, binOp, Op.intCmp]) (Below.refl _ _) hs
end
theorem own_emptyC (w : World) : Own w.heap.size (w.alloc (.cells #[] 5)) (.slice (some ⟨w.heap.size, 0, none⟩) 0 0) [] :=
  World.ownsRow_made (e := 5) (size := 1) w #[] 0 (Nat.le_refl _) (by decide) rfl
theorem encL_len : ∀ (ls : List (List UInt8)), (∀ x ∈ ls, x.length ≤ 300) → (encL ls).length ≤ 368 * ls.length + 5
  | [], _ => by unfold encL; simp
  | d :: r, h => by
    have ih := encL_len r (fun x hx => h x (List.mem_cons_of_mem _ hx))
    have hd := h d (List.mem_cons_self ..)
    have hg := digs16_len d.length (by omega)
    unfold encL
    split
    · rw [List.length_cons]; omega
    · simp only [List.length_append, List.length_cons]; omega
theorem encS_len (ls : List (List UInt8)) (h : ∀ x ∈ ls, x.length ≤ 300) (hn : ls.length ≤ 10) : (encodeS ls).length ≤ 4000 := by
  have := encL_len ls h
  rw [encodeS_eq]; omega
/-- In the law's loop. -/
structure CutL (w wr : World) (v : Value) (ls : List (List UInt8)) (s : ByteArray) (i : Nat) : Prop where
  cut : CutS w wr v ls
  len : ls.length = i
  all : s.data.toList = ls.flatten
  size : s.size ≤ 300 * i
  small : ∀ x ∈ ls, x.length ≤ 300
set_option maxRecDepth 100000 in
set_option maxHeartbeats 8000000 in
theorem chunkedEncode_any (L : List (List UInt8)) (more : List UInt8) (a ma : Option Addr) (c mc : Nat) (w : World) (h : SlcIn w a L) (hm : IsBytes w ma more mc) (ht : Tabs w) :
    Calls Tryd.prog 6 #[.slice a L.length c, .slice ma more.length mc] w fun e w' => e = .returned (.bool true) ∧ Below w.heap.size w w' := by
  have H0 := Box.mk h
  have HM := Box.mk hm
  have HT := Box.mk ht
  clear h hm ht
  go_enter Tryd.func6, Tryd.ntmps6
  go_wp2_with fail
  go_loopw [5, 6, 7] (fun v sv iv wr => ∃ i : Nat, i ≤ 10 ∧ i ≤ L.length ∧ iv = .int .i64 i ∧ ∃ (ls : List (List UInt8)) (s : ByteArray), sv = .string s ∧ Box (CutL w wr v ls s i)) (fun _ _ iv _ => 10 - (intOf iv).toNat)
  case atStart => exact ⟨0, by decide, Nat.zero_le _, rfl, [], ⟨#[]⟩, rfl, ⟨CutS.start w, rfl, rfl, Nat.le_refl _, fun x hx => absurd hx (by simp)⟩⟩
  case round =>
    obtain ⟨i, hi10, hiL, rfl, ls, s, rfl, HC⟩ := hrel
    have hss : s.size ≤ 3000 := by have := HC.out.size; omega
    by_cases hgo : i < L.length ∧ i < 10
    · have h1 := hgo.1
      have h2 := hgo.2
      clear hgo
      obtain ⟨ad, ba, bc, rfl, hcell, hbw⟩ := (H0.out.keep HC.out.cut.below) i h1
      obtain ⟨ad0, ba0, bc0, e0, hcell0, hb0⟩ := H0.out i h1
      obtain rfl := Option.some.inj e0
      have hcw2 := below_cell HC.out.cut.below hcell0
      rw [hcell] at hcw2
      obtain ⟨rfl, rfl⟩ : ba = ba0 ∧ bc = bc0 := by
        injection hcw2 with h
        injection h with e1 _ e3
        exact ⟨e1, e3⟩
      clear hcw2 hcell0
      generalize L[i] = y at *
      have HBW := Box.mk hbw
      have HB0 := Box.mk hb0
      clear hbw hb0
      go_wp2_with fail
      refine (short_any y ba bc 300 _ HBW.out (by decide)).mono ?_
      rintro e w2 ⟨p, hp, hpl, rfl, hpb, rfl⟩
      have HPB := Box.mk hpb
      have HP0 := Box.mk (show IsBytes w ba p bc by rw [hp]; exact isBytes_take HB0.out 300)
      have HCL := Box.mk (show ls.length ≤ 1000 by rw [HC.out.len]; omega)
      clear hp hpb HBW HB0 hcell
      go_wp2_with (at_builtin; refine wpList_append_cutS w _ rfl _ _ rfl rfl (HC.out.cut.keep (below_oneF _ _)) rfl (by rw [Addr.add_lit, Nat.zero_add, alloc_cell_new]; rfl) HP0.out HCL.out ?_)
      intro v3 w3 hcut
      obtain ⟨ls2, hls2⟩ : ∃ q, q = ls ++ [p] := ⟨_, rfl⟩
      rw [← hls2] at hcut
      have hlen2 : i < ls2.length := by rw [hls2, List.length_append, HC.out.len]; simp
      have hget : ls2[i] = p := by
        have hl := HC.out.len
        subst hl
        simp [hls2]
      obtain ⟨ca, cc, rfl, hsl⟩ := hcut.val
      obtain ⟨cad, ba2, bc2, rfl, hcell2, hby2⟩ := hsl i hlen2
      rw [hget] at hcell2 hby2
      have hcv := conv_bytes hby2
      have hadd := fun W => run_string_add_sum (P := Tryd.prog) (w := W) s ⟨p.toArray⟩ (by show s.size + p.toArray.size ≤ _; rw [List.size_toArray]; omega)
      have HN := Box.mk (show CutL w w3 (.slice (some cad) ls2.length cc) ls2 (s ++ ⟨p.toArray⟩) (i + 1) from
        ⟨hcut, by rw [hls2, List.length_append, HC.out.len]; rfl, by rw [hls2, List.flatten_append, ← HC.out.all]; simp, by
          have h9 := HC.out.size
          rw [ByteArray.size_append]
          show s.size + p.toArray.size ≤ _
          rw [List.size_toArray]; omega, fun x hx => by
          rw [hls2] at hx
          rcases List.mem_append.1 hx with hx | hx
          · exact HC.out.small x hx
          · obtain rfl := List.mem_singleton.1 hx
            exact hpl⟩)
      clear hcut hls2 hget hsl hby2
      generalize hS : s ++ (⟨p.toArray⟩ : ByteArray) = s2 at *
      generalize (⟨p.toArray⟩ : ByteArray) = pb at *
      have HS := Box.mk hS
      clear hS
      go_wp2_with fail
      go_roundw
      case rel => exact ⟨i + 1, by omega, by omega, by go_num, ls2, s2, rfl, HN⟩
      case measure => simp [intOf]; omega
    · obtain ⟨ca, cc, rfl, hsl⟩ := HC.out.cut.val
      have HSL := Box.mk hsl
      have HB1 := Box.mk HC.out.cut.below
      have HSM := Box.mk HC.out.small
      have hll : ls.length ≤ 10 := by have := HC.out.len; omega
      have HALL := Box.mk (show s = ⟨ls.flatten.toArray⟩ from ba_ext (by rw [HC.out.all]))
      have hfl : ls.flatten.length ≤ 3000 := by
        have h9 := congrArg List.length HC.out.all
        rw [Array.length_toList] at h9
        have : s.data.size = s.size := rfl
        omega
      clear hsl HC H0
      by_cases h1 : i < L.length
      case' pos => have h2 : ¬ i < 10 := fun h2 => hgo ⟨h1, h2⟩
      all_goals
        clear hgo
        go_wp2_with fail
        refine (projEncode_any ls ca cc 0 _ HSL.out (by omega) (fun x hx => Nat.le_trans (HSM.out x hx) (by decide)) (tabs_below HT.out HB1.out)).mono ?_
        rintro e w2 ⟨ra, rl, rc, hrl, rfl, hby, hb2⟩
        have HRL := Box.mk hrl
        have HRB := Box.mk hby
        have HB2 := Box.mk (below_trans HB1.out hb2)
        have HSL2 := Box.mk (HSL.out.keep hb2)
        have hrz : rl.length ≤ 4000 := by
          have h9 := encS_len ls HSM.out hll
          rw [hrl]; exact h9
        clear hrl hby hb2 HSL
        go_wp2_with (at_builtin; refine wpList_append_ownb _ rfl _ _ rfl rfl (own_emptyC w2) rfl (r := rl) (HRB.out.keep (below_oneF w2 _)) (by simp; omega) (by rw [World.size_alloc]; omega) ?_)
        intro v3 w3 hown hgr _
        have hown : Own w2.heap.size w3 v3 rl := by simpa using hown
        have HG3 := Box.mk (show Below w2.heap.size w2 w3 from (below_oneF w2 (.cells #[] 5)).grown hgr (by rw [World.size_alloc]; omega) (fun q e => by have h9 : w2.heap.size = q := Option.some.inj e; omega))
        have HO3 := Box.mk hown
        have HMB := Box.mk (HM.out.keep (below_trans HB2.out HG3.out))
        have hsz3 := HG3.out.size
        clear hown hgr
        go_wp2_with fail
        refine (short_any more ma mc 50 _ HMB.out (by decide)).mono ?_
        rintro e w4 ⟨m2, hm2, hm2l, rfl, hm2b, rfl⟩
        have HM2 := Box.mk hm2b
        clear hm2 hm2b HMB
        go_wp2_with (at_builtin; refine wpList_append_ownb _ rfl _ _ rfl rfl HO3.out rfl (r := m2) HM2.out (by omega) hsz3 ?_)
        intro v5 w5 hown hgr _
        obtain ⟨b5, hb5⟩ : ∃ q, q = rl ++ m2 := ⟨_, rfl⟩
        rw [← hb5] at hown
        have hb5l : b5.length ≤ 4050 := by rw [hb5, List.length_append]; omega
        have HB5E := Box.mk (show decodeS b5 = (0, ls.flatten, rl.length) by rw [hb5, HRL.out]; exact decode_enc ls m2 (fun x hx => Nat.le_trans (HSM.out x hx) (by decide)))
        have HG5 := Box.mk (HG3.out.grown hgr hsz3 (fun q e => (HO3.out.lt e).1))
        obtain ⟨fa, fc, rfl, hfb⟩ := hown.val
        have HFB := Box.mk hfb
        have HB5 := Box.mk (below_trans HB2.out HG5.out)
        clear hown hgr hb5 hfb HO3 HM2
        go_wp2_with fail
        refine (projDecode_any b5 fa fc 0 _ HFB.out (by omega) (tabs_below HT.out HB5.out)).mono ?_
        rintro e w6 ⟨oa, oc, he, hby, hb6⟩
        rw [HB5E.out] at he hby
        simp only [] at he hby
        subst he
        obtain ⟨out, hout⟩ : ∃ out, out = ls.flatten := ⟨_, rfl⟩
        rw [← hout] at hby hfl ⊢
        have HOUT := Box.mk (show s = ⟨out.toArray⟩ by rw [hout]; exact HALL.out)
        have HOB := Box.mk hby
        have HB6 := Box.mk (below_trans HB5.out hb6)
        have HRB6 := Box.mk (HRB.out.keep (below_trans HG5.out hb6))
        have HSL6 := Box.mk (HSL2.out.keep (below_trans HG5.out hb6))
        clear hby hb6 hout HALL HB5E HFB
        go_wp2_with fail
        rename_i K hK
        refine wp_region_local (S := [.val (.slice ra rl.length rc), .val (.string ⟨rl.toArray⟩), .val (.slice ca ls.length cc), .bytes rl, .val (.string ⟨rl.toArray⟩), .val (.bool true), .val (.bool true), .val (.int .i64 0), .val (.bool true), .val (.bool true), .val (.bool true),
          .val (.int .i64 rl.length), .val (.slice ra rl.length rc), .val (.int .i64 rl.length), .val (.bool true), .val (.bool true), .val (.bool true), .val (.slice oa out.length oc), .val (.string ⟨out.toArray⟩), .val (.string ⟨out.toArray⟩), .val (.bool true), .val (.bool true), .val (.bool true), .val (.bool true), .val (.bool true), .val (.bool true)])
          (by kernel_rfl) (by kernel_rfl) (by kernel_rfl) ?_ ?_
        · refine ⟨?_, ?_, ?_, ?_, ?_, ?_, ?_, ?_, ?_, ?_, ?_, ?_, ?_, ?_, ?_, ?_, ?_, ?_, ?_, ?_, ?_, ?_, ?_, ?_, ?_, ?_, trivial⟩ <;> intro a1 w7 hb hf hd
          · exact ⟨wanted_none rfl, loc_move rfl (hf.base 8 rfl)⟩
          · exact ⟨wanted_none rfl, loc_string rfl (by rw [show a1.eval (.tmp 50) = _ from hd 0 rfl]; exact ⟨ra, rc, rfl, HRB6.out.keep hb⟩) rfl⟩
          · exact ⟨wanted_none rfl, loc_move rfl (hf.base 5 rfl)⟩
          · refine ⟨wanted_none rfl, loc_call rfl (by kernel_rfl) ?_⟩
            show Calls _ _ #[a1.eval (.tmp 52)] w7 _
            rw [show a1.eval (.tmp 52) = _ from hd 2 rfl]
            refine (refEncode_any ls ca cc w7 (HSL6.out.keep hb) (by omega) (fun x hx => Nat.le_trans (HSM.out x hx) (by decide))).mono ?_
            rintro e w' ⟨qa, ql, qc, hql, rfl, hqb, hb'⟩
            rw [← HRL.out] at hql
            subst hql
            exact ⟨_, rfl, hb', qa, qc, rfl, hqb⟩
          · exact ⟨wanted_none rfl, loc_string rfl (hd 3 rfl) rfl⟩
          · exact ⟨wanted_none rfl, loc_eql_str rfl (hd 1 rfl) (hd 4 rfl) rfl⟩
          · exact ⟨wanted_none rfl, loc_move rfl (hd 5 rfl)⟩
          · exact ⟨wanted_true rfl rfl (hd 6 rfl), loc_move rfl (hf.base 11 rfl)⟩
          · exact ⟨wanted_true rfl rfl (hd 6 rfl), loc_eqlEC rfl (hd 7 rfl) rfl rfl⟩
          · exact ⟨wanted_none rfl, loc_pick rfl (hd 6 rfl) (hd 8 rfl)⟩
          · exact ⟨wanted_none rfl, loc_move rfl (hd 9 rfl)⟩
          · exact ⟨wanted_true rfl rfl (hd 10 rfl), loc_move rfl (hf.base 10 rfl)⟩
          · exact ⟨wanted_true rfl rfl (hd 10 rfl), loc_move rfl (hf.base 8 rfl)⟩
          · exact ⟨wanted_true rfl rfl (hd 10 rfl), loc_len rfl (hd 12 rfl) rfl⟩
          · exact ⟨wanted_true rfl rfl (hd 10 rfl), loc_eql_int rfl (hd 11 rfl) (hd 13 rfl) rfl⟩
          · exact ⟨wanted_none rfl, loc_pick rfl (hd 10 rfl) (hd 14 rfl)⟩
          · exact ⟨wanted_none rfl, loc_move rfl (hd 15 rfl)⟩
          · exact ⟨wanted_true rfl rfl (hd 16 rfl), loc_move rfl (hf.base 9 rfl)⟩
          · exact ⟨wanted_true rfl rfl (hd 16 rfl), loc_string rfl (by rw [show a1.eval (.tmp 67) = _ from hd 17 rfl]; exact ⟨oa, oc, rfl, HOB.out.keep hb⟩) rfl⟩
          · exact ⟨wanted_true rfl rfl (hd 16 rfl), loc_move rfl ((hf.base 6 rfl).trans (by rw [← HOUT.out]; rfl))⟩
          · exact ⟨wanted_true rfl rfl (hd 16 rfl), loc_eql_str rfl (hd 18 rfl) (hd 19 rfl) rfl⟩
          · exact ⟨wanted_none rfl, loc_pick rfl (hd 16 rfl) (hd 20 rfl)⟩
          · exact ⟨wanted_none rfl, loc_move rfl (hd 21 rfl)⟩
          · refine ⟨wanted_true rfl rfl (hd 22 rfl), loc_call rfl (by kernel_rfl) ?_⟩
            show Calls _ _ #[] w7 _
            refine (awakeC_any 0 w7 (tabs_below HT.out (below_trans HB6.out hb))).mono ?_
            rintro e w' ⟨rfl, hb'⟩
            exact ⟨_, rfl, hb', rfl⟩
          · exact ⟨wanted_none rfl, loc_pick rfl (hd 22 rfl) (hd 23 rfl)⟩
          · exact ⟨wanted_none rfl, loc_assign rfl (hd 24 rfl)⟩
        · intro a1 w7 hb hf hh
          refine hK a1 w7 ?_
          go_wp2_with fail
          exact local_ret rfl hf.defers (show a1.eval (.tmp 4) = .bool true from hh 25 (by decide)) ⟨rfl, below_trans HB6.out hb⟩
end Go.Proofs.YtbplpfcgmmflnaaDoor
namespace Go.Proofs.YtbplpfcgmmflnaaDoor
open Go.RowKit

/-- The size line with an extension of n letters; the body. -/
def lineX (n : Nat) : List UInt8 := [49] ++ 59 :: List.replicate n 120
def bodyX (n : Nat) : List UInt8 := lineX n ++ 13 :: 10 :: ([97] ++ 13 :: 10 :: ([48] ++ 13 :: 10 :: (13 :: 10 :: [])))
theorem plainX (n : Nat) : Plain (lineX n) := fun x hx => by
  unfold lineX at hx
  rcases List.mem_append.1 hx with h | h
  · obtain rfl := List.mem_singleton.1 h
    decide
  · rcases List.mem_cons.1 h with rfl | h
    · decide
    · obtain rfl := List.eq_of_mem_replicate h
      decide
theorem lineX_length (n : Nat) : (lineX n).length = n + 2 := by
  unfold lineX; simp
theorem limX_ok {n : Nat} (h : n + 2 ≤ 128) : (decodeS (bodyX n)).1 = 0 := by
  have h2 : feedU zeroC [] 0 (bodyX n) = (0, ⟨4, 0, 0 + 2, []⟩, [] ++ [97], 0 + ((lineX n).length + 2 + [97].length + 2) + ([48].length + 2) + 2) := by
    unfold bodyX
    rw [feed_chunk (lineX n) [97] _ [] 0 (plainX n) (by rw [lineX_length]; exact h) (by simp) (by
      unfold lineX
      rw [szS_ext (by decide)]
      decide +kernel) (by
      unfold visS
      refine List.all_eq_true.2 fun x hx => ?_
      have hx2 : x ∈ lineX n := hx
      unfold lineX at hx2
      rcases List.mem_append.1 hx2 with h | h
      · obtain rfl := List.mem_singleton.1 h
        decide
      · rcases List.mem_cons.1 h with rfl | h
        · decide
        · obtain rfl := List.eq_of_mem_replicate h
          decide)]
    rw [feed_last [48] _ _ _ (fun x hx => by obtain rfl := List.mem_singleton.1 hx; decide) (by decide) (by decide +kernel) (by decide +kernel)]
    rw [feed_done _ _ _ _ (by decide)]
    rfl
  rw [decodeS_eq, h2]
  rfl
theorem limX_bad {n : Nat} (h : ¬ n + 2 ≤ 128) : (decodeS (bodyX n)).1 = 3 := by
  obtain ⟨m, rfl⟩ : ∃ m, n = 126 + (m + 1) := ⟨n - 127, by omega⟩
  obtain ⟨r, hr⟩ : ∃ r, bodyX (126 + (m + 1)) = lineX 126 ++ 120 :: r := by
    refine ⟨List.replicate m 120 ++ 13 :: 10 :: ([97] ++ 13 :: 10 :: ([48] ++ 13 :: 10 :: (13 :: 10 :: []))), ?_⟩
    unfold bodyX lineX
    rw [← List.replicate_append_replicate]
    simp [List.replicate_succ]
  have h2 : feedU zeroC [] 0 (bodyX (126 + (m + 1))) = (3, zeroC, [], 0) := by
    rw [hr]
    unfold zeroC
    rw [feed_plain (p := 0) (l := 0) (by decide) (by decide) [] _ (lineX 126) [] 0 0 (by rw [List.nil_append]; exact plainX 126) (by rw [List.nil_append, lineX_length]; exact Nat.le_refl _) (fun e => absurd e (by decide))]
    have hst : stepS ⟨0, 0, trS 0 0 (lineX 126).length, [] ++ lineX 126⟩ 120 = (3, zeroC) := by
      rw [stepS_line (fun e => absurd e (by decide)), List.nil_append]
      exact byteS_long (crB_plain (plainX 126)) (by decide) (by show 128 < (lineX 126).length + 1; rw [lineX_length]; decide) (by decide)
    rw [feedU_err (by decide) (by decide) (by rw [hst]; decide), hst]
    rfl
  rw [decodeS_eq, h2]
  rfl
/-- A field's line; k of them; the trailer section. -/
def fldX : List UInt8 := [65, 58, 32, 51, 52, 53, 54, 55, 56, 57]
def fldsX : Nat → List UInt8
  | 0 => []
  | k + 1 => fldX ++ 13 :: 10 :: fldsX k
def trlP (k : Nat) : List UInt8 := [48] ++ 13 :: 10 :: fldsX k
def trlX (k : Nat) : List UInt8 := trlP k ++ [13, 10]
theorem fldsX_add : ∀ (j k : Nat), fldsX (j + k) = fldsX j ++ fldsX k
  | 0, k => by rw [Nat.zero_add]; rfl
  | j + 1, k => by
    rw [show j + 1 + k = (j + k) + 1 by omega, fldsX, fldsX_add j k, fldsX]
    simp
theorem fldsX_length : ∀ k, (fldsX k).length = 12 * k
  | 0 => rfl
  | k + 1 => by
    rw [fldsX, List.length_append, List.length_cons, List.length_cons, fldsX_length k]
    show 10 + _ = _
    omega
theorem trlP_next (k : Nat) : trlP k ++ [65, 58, 32, 51, 52, 53, 54, 55, 56, 57, 13, 10] = trlP (k + 1) := by
  unfold trlP
  rw [fldsX_add k 1]
  simp [fldsX, fldX]
theorem trlP_length (k : Nat) : (trlP k).length = 12 * k + 3 := by
  simp [trlP, fldsX_length]
theorem plainF : Plain fldX := fun x hx => by
  have h : fldX.all (fun x => !(x == 13) && !(x == 10)) = true := by decide +kernel
  have h2 := List.all_eq_true.1 h x hx
  simp only [Bool.and_eq_true, Bool.not_eq_true', beq_eq_false_iff_ne] at h2
  exact h2
theorem feed_flds (r : List UInt8) : ∀ (k : Nat) (t : Int) (i : Nat), t + 12 * k ≤ 1024 → feedU ⟨3, 0, t, []⟩ [] i (fldsX k ++ r) = feedU ⟨3, 0, t + 12 * k, []⟩ [] (i + 12 * k) r
  | 0, t, i, _ => by
    rw [fldsX, List.nil_append]
    simp
  | k + 1, t, i, h => by
    rw [fldsX, List.append_assoc, List.cons_append, List.cons_append]
    rw [feed_field fldX _ [] t i plainF (by decide) (by decide) (by show t + 10 + 2 ≤ 1024; push_cast at h; omega) (by decide +kernel)]
    rw [feed_flds r k _ _ (by show t + 10 + 2 + 12 * (k : Int) ≤ 1024; push_cast at h; omega)]
    have e1 : t + (fldX.length : Int) + 2 + 12 * (k : Int) = t + 12 * ((k + 1 : Nat) : Int) := by
      show t + 10 + 2 + 12 * (k : Int) = _
      push_cast; omega
    have e2 : i + (fldX.length + 2) + 12 * k = i + 12 * (k + 1) := by
      show i + (10 + 2) + 12 * k = _
      omega
    rw [e1, e2]
theorem trlX_start (k : Nat) : feedU zeroC [] 0 (trlX k) = feedU ⟨3, 0, 0, []⟩ [] (0 + ([48].length + 2)) (fldsX k ++ [13, 10]) := by
  unfold trlX trlP
  rw [List.append_assoc, List.cons_append, List.cons_append]
  exact feed_last [48] _ _ _ (fun x hx => by obtain rfl := List.mem_singleton.1 hx; decide) (by decide) (by decide +kernel) (by decide +kernel)
theorem limT_ok {k : Nat} (h : 12 * k + 2 ≤ 1024) : (decodeS (trlX k)).1 = 0 := by
  have h2 := trlX_start k
  rw [feed_flds _ k 0 _ (by omega), feed_done _ _ _ _ (by omega)] at h2
  rw [decodeS_eq, h2]
  rfl
theorem limT_bad {k : Nat} (h : ¬ 12 * k + 2 ≤ 1024) : (decodeS (trlX k)).1 = 3 := by
  obtain ⟨m, rfl⟩ : ∃ m, k = 85 + (m + 1) := ⟨k - 86, by omega⟩
  have h2 := trlX_start (85 + (m + 1))
  rw [fldsX_add, List.append_assoc, feed_flds _ 85 0 _ (by decide)] at h2
  obtain ⟨r, hr⟩ : ∃ r, fldsX (m + 1) ++ [13, 10] = [65, 58, 32, 51] ++ 52 :: r := ⟨_, by rw [fldsX]; rfl⟩
  rw [hr, show (0 : Int) + 12 * ((85 : Nat) : Int) = 1020 by decide] at h2
  rw [feed_plain (p := 3) (l := 0) (by decide) (by decide) [] _ [65, 58, 32, 51] [] 1020 _ (fun x hx => by
    have h : ([] ++ [65, 58, 32, 51] : List UInt8).all (fun x => !(x == 13) && !(x == 10)) = true := by decide +kernel
    have h2 := List.all_eq_true.1 h x hx
    simp only [Bool.and_eq_true, Bool.not_eq_true', beq_eq_false_iff_ne] at h2
    exact h2) (by decide) (fun _ => by decide)] at h2
  have hst : stepS ⟨3, 0, trS 3 1020 ([65, 58, 32, 51] : List UInt8).length, [] ++ [65, 58, 32, 51]⟩ 52 = (3, zeroC) := by
    unfold stepS
    rw [if_pos (show (3 : Int) = 3 from rfl), if_pos (by decide)]
  rw [feedU_err (by decide) (by decide) (by rw [hst]; decide), hst] at h2
  rw [decodeS_eq, h2]
  rfl
theorem set_line (i N : Nat) (h : i < N) : (List.replicate i (120 : UInt8) ++ List.replicate (N - i) 0).set i 120 = List.replicate (i + 1) 120 ++ List.replicate (N - (i + 1)) 0 := by
  obtain ⟨m, hm⟩ : ∃ m, N - i = m + 1 := ⟨N - i - 1, by omega⟩
  rw [hm, show N - (i + 1) = m by omega, List.replicate_succ]
  rw [List.set_append_right _ _ (by simp)]
  simp [List.replicate_succ']
section
variable {ops : Array Oper} {rest : List Oper} {o : Oper} {act : Act} {Q : Exit → Act → World → Prop}
/-- Append of a string to a slice of bytes with no room. -/
theorem wpList_append_fullstr (w : World) (hgd : o.guard = none) (s x : Operand) (ho : o.op = .call { callee := .builtin .append, args := #[s, x], argTypes := #[23, 9] })
    {ad : Addr} {l : List UInt8} (hs : act.eval s = .slice (some ad) l.length l.length) (h : IsBytes w (some ad) l l.length) {t : ByteArray} (hx : act.eval x = .string t) (ht : 0 < t.size) (hn : l.length + t.size ≤ 1000000000)
    (K : ∀ v' w', Own w.heap.size w' v' (l ++ t.data.toList) → Below w.heap.size w w' → wpList Tryd.prog ops Q rest (act.put o.dst v') w') : wpList Tryd.prog ops Q (o :: rest) act w := by
  refine wpList_plain hgd fun K2 hK => ?_
  obtain ⟨i0, hi, hz0, hz1, hz2⟩ := info_parts Tryd.info5
  have holds : ∀ j u, (bytesV l)[j]? = some u → w.cell? (ad.add j) = some u := fun j u hj => by
    rcases h with ⟨e, _⟩ | ⟨y, e, _, _, hc⟩
    · cases e
    · obtain rfl := Option.some.inj e
      unfold bytesV at hj
      rw [List.getElem?_map] at hj
      obtain ⟨c', hc', rfl⟩ := Option.map_eq_some_iff.1 hj
      obtain ⟨hlt, rfl⟩ := List.getElem?_eq_some_iff.1 hc'
      exact hc j hlt
  have hr := Lib.run_append_grow_string (P := Tryd.prog) w 23 9 o.type 5 i0 (.int .u8 0) Tryd.underlying23 Tryd.underlying9 hi hz0 ad l.length l.length (bytesV l) (by rw [hz1, bytesV_len, Nat.mul_one]) holds t (by omega) (by omega) (by rw [hz2]; exact growslice_fits (by omega) (by omega))
  unfold Oper.wp execOp
  simp only [ho, resolve, invoke, builtin, Sem.run_bind, Sem.run_pure, Result.andThen_ok, List.map_toArray, List.map_cons, List.map_nil, hs, hx, hr]
  refine hK _ _ (K _ _ ?_ ?_)
  · have e : bytesV (l ++ t.data.toList) = bytesV l ++ Lib.strCells t := by unfold bytesV Lib.strCells; rw [List.map_append]
    have e2 : (l ++ t.data.toList).length = l.length + t.size := by rw [List.length_append, Array.length_toList]; rfl
    have hlen : (bytesV l ++ Lib.strCells t).length = (l.length + t.size) * 1 := by rw [← e, bytesV_len, e2, Nat.mul_one]
    have hge := grownCap_ge w (l.length + t.size) l.length 5
    have hcm := grownCap_le_maxLen w (l.length + t.size) l.length 5 (by unfold maxLen; omega)
    unfold Own
    rw [e, e2]
    refine ⟨hlen, .inr ⟨w.heap.size, _, _, rfl, Nat.le_refl _, heap_alloc_new w.drew _, hge, hcm, ?_, ?_⟩⟩
    · have hz9 : (Value.int IntKind.u8 0).cells.size = 1 := rfl
      simp only [Array.size_append, List.size_toArray, size_zeroCells, hz9, bytesV_len, Lib.strCells_length]
      omega
    · simp only [Array.toList_append, List.append_assoc]
      rw [← List.append_assoc, ← hlen]
      exact List.take_left
  · exact ⟨rfl, rfl, rfl, by simp, fun k hk => heap_alloc_old w.drew _ hk⟩
/-- A slice of the call's own, or one with no room. -/
def OwnT (w0 w : World) (v : Value) (l : List UInt8) : Prop := Own w0.heap.size w v l ∨ ∃ ad, v = .slice (some ad) l.length l.length ∧ IsBytes w (some ad) l l.length
theorem wpList_append_ownt (w0 w : World) (hgd : o.guard = none) (s x : Operand) (ho : o.op = .call { callee := .builtin .append, args := #[s, x], argTypes := #[23, 9] })
    {v : Value} {l : List UInt8} (hs : act.eval s = v) (h : OwnT w0 w v l) (hb : Below w0.heap.size w0 w) {t : ByteArray} (hx : act.eval x = .string t) (ht : 0 < t.size) (hn : l.length + t.size ≤ 1000000000)
    (K : ∀ v' w', Own w0.heap.size w' v' (l ++ t.data.toList) → Below w0.heap.size w0 w' → wpList Tryd.prog ops Q rest (act.put o.dst v') w') : wpList Tryd.prog ops Q (o :: rest) act w := by
  rcases h with h | ⟨ad, rfl, h⟩
  · exact wpList_append_ownstr w hgd s x ho hs h hx hn hb.size fun v' w' h1 h2 _ => K v' w' h1 (hb.grown h2 hb.size fun q e => (h.lt e).1)
  · exact wpList_append_fullstr w hgd s x ho hs h hx ht hn fun v' w' h1 h2 => K v' w' (h1.low hb.size) (below_trans hb h2)
end
end Go.Proofs.YtbplpfcgmmflnaaDoor
