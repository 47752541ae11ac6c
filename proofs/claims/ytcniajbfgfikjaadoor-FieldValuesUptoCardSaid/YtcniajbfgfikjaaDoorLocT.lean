/- A region that draws its order, whose one store comes behind all else: the rest goes on from there. -/
import Derived.Test.YtcniajbfgfikjaaDoorLocS
namespace Go.Proofs.YtcniajbfgfikjaaDoor
open Go.RowKit

def LastOK (P : Program) (Q : Exit → Act → World → Prop) (ops : Array Oper) (S : List (Option SpecQ)) (a0 : Act) (w0 : World) (st : Nat) : Prop :=
  match ops[st]? with
  | some o => ∀ a w, Below w0.heap.size w0 w → Fr ops a0 a → (∀ j, j < ops.size → j ≠ st → Holds ops (specAt S) a w j) → Region.wanted o (yielded ops a.tmps) = true ∧ o.wp P a w (fun a' w' => Q .normal a' w') Q
  | none => False

section
variable {P : Program} {Q : Exit → Act → World → Prop} {ops : Array Oper} {S : List (Option SpecQ)} {a0 : Act} {w0 : World}
theorem wp_region_last {id : Nat} (S : List (Option SpecQ)) (st : Nat) (hm : P.follows .mixedOrders = true)
    (hB : (List.range ops.size).all (fun i => match ops[i]? with | some x => x.after.all (fun e => !Region.binds .any e || decide (e.on < i)) | none => true) = true)
    (hd : dstsOk ops a0.tmps.size = true) (hl : lateB ops st [] = true) (hst : S[st]? = some none) (hlen : S.length = ops.size) (hone : (List.range S.length).all (fun i => decide (i = st) || (match S[i]? with | some (some _) => true | _ => false)) = true)
    (h : StepsS P Q ops S a0 w0 ops.toList S) (hS : LastOK P Q ops S a0 w0 st) : (Code.region id ops true).wp P Q a0 w0 := by
  have hstlt : st < ops.size := by rw [← hlen]; exact (List.getElem?_eq_some_iff.1 hst).1
  have hosto : ops[st]? = some ops[st] := Array.getElem?_eq_getElem hstlt
  unfold LastOK at hS
  rw [hosto] at hS
  simp only at hS
  have hwait : ∀ i, i < ops.size → i ≠ st → waitsFor ops[st] i = true := fun i hi hne => by
    have := List.all_eq_true.1 hl i (List.mem_range.2 hi)
    rw [hosto] at this
    simp only [Bool.or_eq_true, decide_eq_true_eq, List.contains_nil, Bool.false_eq_true, or_false] at this
    rcases this with h3 | h3
    · exact absurd h3 hne
    · exact h3
  refine wp_region_inv hm (fun m a w => (m.getD st false = false ∧ Fr ops a0 a ∧ Below w0.heap.size w0 w ∧ ∀ j, m.getD j false = true → Holds ops (specAt S) a w j) ∨
    (m.getD st false = true ∧ Q .normal a w ∧ ∀ j, waitsFor ops[st] j = true → m.getD j false = true)) ?_ ?_ ?_
  · rintro m a w hs hh i hi
    obtain ⟨h1, o, ho, hall⟩ := mem_ready.1 hi
    have hil : i < ops.size := (Array.getElem?_eq_some_iff.1 ho).1
    have hmi : m.getD i false = false := by
      have hs' : i < m.size := by rw [hs]; exact hil
      simp [hs'] at h1 ⊢; exact h1
    have hdeps : ∀ j, waitsFor o j = true → m.getD j false = true := fun j hj => by
      obtain ⟨e, he, h2⟩ := List.any_eq_true.1 hj
      simp only [Bool.and_eq_true, beq_iff_eq] at h2
      obtain ⟨h3, rfl⟩ := h2
      exact hall e (Array.mem_toList_iff.1 he) h3
    unfold wpOp
    simp only [ho]
    by_cases hist : i = st
    · subst hist
      have hoe : o = ops[i] := Option.some.inj (ho.symm.trans hosto)
      subst hoe
      rcases hh with ⟨_, hf, hb, hh⟩ | ⟨h2, _⟩
      · obtain ⟨hw, hwp⟩ := hS a w hb hf fun j hj hne => hh j (hdeps j (hwait j hj hne))
        rw [if_pos hw]
        refine .inl (Oper.wp_mono ?_ hwp)
        intro a' w' hq
        have hsz : i < m.size := by rw [hs]; exact hil
        exact .inr ⟨by simp [hsz], hq, fun j hj => getD_set_true (hdeps j hj)⟩
      · rw [hmi] at h2; cases h2
    · have hsi : ∃ s, S[i]? = some (some s) := by
        have := List.all_eq_true.1 hone i (List.mem_range.2 (by rw [hlen]; exact hil))
        cases hq : S[i]? with
        | none => rw [hq] at this; simp [hist] at this
        | some x =>
          cases x with
          | none => rw [hq] at this; simp [hist] at this
          | some s => exact ⟨s, rfl⟩
      obtain ⟨s, hsi⟩ := hsi
      rcases hh with ⟨h2, hf, hb, hh⟩ | ⟨h2, hp, hall2⟩
      · obtain ⟨s', hs', hstep⟩ := stepsS_at h i o (by simpa using ho)
        obtain rfl : s' = some s := Option.some.inj (hs'.symm.trans hsi)
        obtain ⟨hw, hwp⟩ := hstep s rfl a w hb hf fun j hj => hh j (hdeps j hj)
        rw [if_pos hw]
        refine .inl (Oper.wp_mono ?_ hwp)
        rintro a' w' ⟨v, rfl, hb', hsp⟩
        refine .inl ⟨by rw [getD_set_ne false hist]; exact h2, fr_put ho hf v, hb.trans (hb'.mono hb.size), fun j hj => ?_⟩
        by_cases hji : j = i
        · subst hji
          unfold Holds
          simp only [ho, specAt_get hsi]
          cases hdo : o.dst with
          | none => trivial
          | some d =>
            show s.p ((a.put (some d) v).eval (.tmp d)) w'
            rw [eval_put_same]
            · exact hsp
            · rw [hf.size]; exact (dsts_lt hd ho hdo).1
        · have hj' : m.getD j false = true := by rw [getD_set_ne false (fun e => hji e.symm)] at hj; exact hj
          exact holds_put hd ho hji (holds_mono (hh j hj') hb')
      · have := hall2 i (hwait i hil hist)
        rw [hmi] at this; cases this
  · rintro m a w hs hh hr
    have hmarked : ∀ j, j < ops.size → m.getD j false = true := fun j => by
      induction j using Nat.strongRecOn with
      | _ j ih =>
        intro hj
        cases hmj : m.getD j false with
        | true => rfl
        | false =>
          exfalso
          have hoj : ops[j]? = some ops[j] := Array.getElem?_eq_getElem hj
          have hbk := List.all_eq_true.1 hB j (List.mem_range.2 hj)
          rw [hoj] at hbk
          simp only [Array.all_eq_true_iff_forall_mem, Bool.or_eq_true, Bool.not_eq_true', decide_eq_true_eq] at hbk
          have hlt : ∀ e ∈ ops[j].after, Region.binds .any e = true → e.on < j := fun e he hbd => by
            rcases hbk e he with h | h
            · rw [hbd] at h; cases h
            · exact h
          have : j ∈ Region.ready .any ops m := mem_ready.2 ⟨by
            have hs' : j < m.size := by rw [hs]; exact hj
            simp [hs'] at hmj ⊢; exact hmj, ops[j], hoj, fun e he hbd => ih _ (hlt e he hbd) (by have := hlt e he hbd; omega)⟩
          rw [hr] at this; cases this
    rcases hh with ⟨h2, _⟩ | ⟨_, hp, _⟩
    · rw [hmarked st hstlt] at h2; cases h2
    · exact hp
  · refine .inl ⟨?_, ⟨rfl, rfl, fun _ _ => rfl⟩, (Below.refl _ _).drew, fun j hj => ?_⟩
    · simp only [Array.getD_eq_getD_getElem?, Array.getElem?_replicate]; split <;> rfl
    · exfalso
      simp only [Array.getD_eq_getD_getElem?, Array.getElem?_replicate] at hj
      split at hj <;> simp at hj
end
end Go.Proofs.YtcniajbfgfikjaaDoor
