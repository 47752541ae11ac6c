/- 'v, k := s, f()': two new variables, filled by a load and a call, in whatever order. -/
import Derived.Test.YtpgppninmnplkaaDoorDigQ
import Derived.Test.YtpgppninmnplkaaDoorDigB
namespace Go.Proofs.YtpgppninmnplkaaDoor
open Go.RowKit

theorem Act.put_put (a : Act) (d : Tmp) (v u : Value) : (a.put (some d) v).put (some d) u = a.put (some d) u := by
  unfold Act.put; simp
theorem Act.put_self (a : Act) (d : Tmp) : a.put (some d) (a.tmps.getD d undef) = a := by
  unfold Act.put
  have e : a.tmps.setIfInBounds d (a.tmps.getD d undef) = a.tmps := by
    apply Array.ext_getElem?
    intro i
    by_cases hi : d = i
    · subst hi
      rcases Nat.lt_or_ge d a.tmps.size with h | h
      · simp [h]
      · simp [Array.getElem?_eq_none h]; exact h
    · rw [Array.getElem?_setIfInBounds_ne hi]
  show ({ tmps := a.tmps.setIfInBounds d (a.tmps.getD d undef), defers := a.defers } : Act) = a
  rw [e]
theorem Act.eval_put (a : Act) (d : Tmp) (v : Value) (h : d < a.tmps.size) : (a.put (some d) v).eval (.tmp d) = v := by
  unfold Act.put Act.eval; simp [h]
theorem Act.eval_put_ne (a : Act) (d e : Tmp) (v : Value) (h : d ≠ e) : (a.put (some d) v).eval (.tmp e) = a.eval (.tmp e) := by
  unfold Act.put Act.eval; simp [Array.getElem?_setIfInBounds_ne h]
theorem Act.put_size (a : Act) (d : Option Tmp) (v : Value) : (a.put d v).tmps.size = a.tmps.size := by
  cases d <;> simp [Act.put]
theorem lt_of_row {w : World} {p : Nat} {o : Obj} (h : w.heap[p]? = some o) : p < w.heap.size := (Array.getElem?_eq_some_iff.1 h).1

/-- The frame with the four slots filled. -/
def four (a : Act) (d0 d1 d2 d3 : Tmp) (v0 v1 v2 v3 : Value) : Act := (((a.put (some d0) v0).put (some d1) v1).put (some d2) v2).put (some d3) v3
section
variable {a : Act} {d0 d1 d2 d3 : Tmp} {v0 v1 v2 v3 : Value}
theorem four_put0 (n01 : d0 ≠ d1) (n02 : d0 ≠ d2) (n03 : d0 ≠ d3) (v : Value) : (four a d0 d1 d2 d3 v0 v1 v2 v3).put (some d0) v = four a d0 d1 d2 d3 v v1 v2 v3 := by
  have h : ∀ {x y : Tmp}, x ≠ y → ∀ d, some x = some d → some y ≠ some d := fun hn d e e2 => hn (Option.some.inj (e.trans e2.symm))
  unfold four
  rw [Act.put_comm _ v3 v (h (Ne.symm n03)), Act.put_comm _ v2 v (h (Ne.symm n02)), Act.put_comm _ v1 v (h (Ne.symm n01)), Act.put_put]
theorem four_put1 (n12 : d1 ≠ d2) (n13 : d1 ≠ d3) (v : Value) : (four a d0 d1 d2 d3 v0 v1 v2 v3).put (some d1) v = four a d0 d1 d2 d3 v0 v v2 v3 := by
  have h : ∀ {x y : Tmp}, x ≠ y → ∀ d, some x = some d → some y ≠ some d := fun hn d e e2 => hn (Option.some.inj (e.trans e2.symm))
  unfold four
  rw [Act.put_comm _ v3 v (h (Ne.symm n13)), Act.put_comm _ v2 v (h (Ne.symm n12)), Act.put_put]
theorem four_put2 (n23 : d2 ≠ d3) (v : Value) : (four a d0 d1 d2 d3 v0 v1 v2 v3).put (some d2) v = four a d0 d1 d2 d3 v0 v1 v v3 := by
  have h : ∀ {x y : Tmp}, x ≠ y → ∀ d, some x = some d → some y ≠ some d := fun hn d e e2 => hn (Option.some.inj (e.trans e2.symm))
  unfold four
  rw [Act.put_comm _ v3 v (h (Ne.symm n23)), Act.put_put]
theorem four_put3 (v : Value) : (four a d0 d1 d2 d3 v0 v1 v2 v3).put (some d3) v = four a d0 d1 d2 d3 v0 v1 v2 v := by unfold four; rw [Act.put_put]
theorem four_eval (e : Tmp) (h0 : d0 ≠ e) (h1 : d1 ≠ e) (h2 : d2 ≠ e) (h3 : d3 ≠ e) : (four a d0 d1 d2 d3 v0 v1 v2 v3).eval (.tmp e) = a.eval (.tmp e) := by
  unfold four
  rw [Act.eval_put_ne _ _ _ _ h3, Act.eval_put_ne _ _ _ _ h2, Act.eval_put_ne _ _ _ _ h1, Act.eval_put_ne _ _ _ _ h0]
theorem four_eval0 (h : d0 < a.tmps.size) (h1 : d1 ≠ d0) (h2 : d2 ≠ d0) (h3 : d3 ≠ d0) : (four a d0 d1 d2 d3 v0 v1 v2 v3).eval (.tmp d0) = v0 := by
  unfold four
  rw [Act.eval_put_ne _ _ _ _ h3, Act.eval_put_ne _ _ _ _ h2, Act.eval_put_ne _ _ _ _ h1, Act.eval_put _ _ _ h]
theorem four_eval1 (h : d1 < a.tmps.size) (h2 : d2 ≠ d1) (h3 : d3 ≠ d1) : (four a d0 d1 d2 d3 v0 v1 v2 v3).eval (.tmp d1) = v1 := by
  unfold four
  rw [Act.eval_put_ne _ _ _ _ h3, Act.eval_put_ne _ _ _ _ h2, Act.eval_put _ _ _ (by rw [Act.put_size]; exact h)]
theorem four_eval2 (h : d2 < a.tmps.size) (h3 : d3 ≠ d2) : (four a d0 d1 d2 d3 v0 v1 v2 v3).eval (.tmp d2) = v2 := by
  unfold four
  rw [Act.eval_put_ne _ _ _ _ h3, Act.eval_put _ _ _ (by rw [Act.put_size, Act.put_size]; exact h)]
theorem four_eval3 (h : d3 < a.tmps.size) : (four a d0 d1 d2 d3 v0 v1 v2 v3).eval (.tmp d3) = v3 := by
  unfold four
  rw [Act.eval_put _ _ _ (by rw [Act.put_size, Act.put_size, Act.put_size]; exact h)]
end

theorem wp_act {P : Program} {c : Code} {Q : Exit → Act → World → Prop} {a : Act} {w : World} (h : ∀ a', a' = a → c.wp P Q a' w) : c.wp P Q a w := h a rfl
theorem wp_alloc_of {P : Program} {o : Oper} {a : Act} {w : World} {K : Act → World → Prop} {Q : Exit → Act → World → Prop} {ty : TypeId} {z : Array Value} (ho : o.op = .alloc ty)
    (hz : ∀ w, (zeroValue ty).run P w = .ok (.agg z) w) (_hne : ¬ z = #[]) (h : K (a.put o.dst (.pointer (some ⟨w.heap.size, 0, none⟩))) (w.alloc (.cells z ty))) : o.wp P a w K Q := by
  unfold Oper.wp execOp
  simp only [ho]
  go_simp
  exact h

section
variable {P : Program} {Q : Exit → Act → World → Prop} {o0 o1 o2 o3 o4 o5 : Oper}
set_option maxHeartbeats 1000000 in
theorem wp_region_two_vars {id : Nat} {a : Act} {w : World} (hm : P.follows .mixedOrders = true) (d0 d1 d2 d3 : Tmp) (T8 T64 : TypeId) (sv kv z zz : Array Value) (hT : T8 ≠ T64)
    (n01 : d0 ≠ d1) (n02 : d0 ≠ d2) (n03 : d0 ≠ d3) (n12 : d1 ≠ d2) (n13 : d1 ≠ d3) (n23 : d2 ≠ d3)
    (g : o0.guard = none ∧ o1.guard = none ∧ o2.guard = none ∧ o3.guard = none ∧ o4.guard = none ∧ o5.guard = none)
    (he : o0.after = #[] ∧ o1.after = #[] ∧ o2.after = #[] ∧ o3.after = #[]) (hd : o4.dst = none ∧ o5.dst = none) (he4 : ∀ e ∈ o4.after, e.on < 4) (he5 : ∀ e ∈ o5.after, e.on < 5)
    (hw4 : ∀ j, j < 4 → ∃ e ∈ o4.after, Region.binds .any e = true ∧ e.on = j) (hw5 : ∃ e ∈ o5.after, Region.binds .any e = true ∧ e.on = 4)
    (h0 : ∀ v0 v1 v2 v3 w' K, Below w.heap.size w w' → K ((four a d0 d1 d2 d3 v0 v1 v2 v3).put (some d0) (.agg sv)) w' → o0.wp P (four a d0 d1 d2 d3 v0 v1 v2 v3) w' K Q)
    (h1 : ∀ v0 v1 v2 v3 w' K, Below w.heap.size w w' → (∀ w'', Below w'.heap.size w' w'' → K ((four a d0 d1 d2 d3 v0 v1 v2 v3).put (some d1) (.agg kv)) w'') → o1.wp P (four a d0 d1 d2 d3 v0 v1 v2 v3) w' K Q)
    (h2 : ∀ v0 v1 v2 v3 w' K, K ((four a d0 d1 d2 d3 v0 v1 v2 v3).put (some d2) (.pointer (some ⟨w'.heap.size, 0, none⟩))) (w'.alloc (.cells z T8)) → o2.wp P (four a d0 d1 d2 d3 v0 v1 v2 v3) w' K Q)
    (h3 : ∀ v0 v1 v2 v3 w' K, K ((four a d0 d1 d2 d3 v0 v1 v2 v3).put (some d3) (.pointer (some ⟨w'.heap.size, 0, none⟩))) (w'.alloc (.cells zz T64)) → o3.wp P (four a d0 d1 d2 d3 v0 v1 v2 v3) w' K Q)
    (h4 : ∀ v1 v3 w' K p, w'.heap[p]? = some (.cells z T8 (0, 0)) → K ((four a d0 d1 d2 d3 (.agg sv) v1 (.pointer (some ⟨p, 0, none⟩)) v3).put o4.dst undef) (w'.setRow p sv) → o4.wp P (four a d0 d1 d2 d3 (.agg sv) v1 (.pointer (some ⟨p, 0, none⟩)) v3) w' K Q)
    (h5 : ∀ v0 v2 w' K q, w'.heap[q]? = some (.cells zz T64 (0, 0)) → K ((four a d0 d1 d2 d3 v0 (.agg kv) v2 (.pointer (some ⟨q, 0, none⟩))).put o5.dst undef) (w'.setRow q kv) → o5.wp P (four a d0 d1 d2 d3 v0 (.agg kv) v2 (.pointer (some ⟨q, 0, none⟩))) w' K Q)
    (hdone : ∀ w' p q, Below w.heap.size w w' → w.heap.size ≤ p → w.heap.size ≤ q → p ≠ q → w'.heap[p]? = some (.cells sv T8 (0, 0)) → w'.heap[q]? = some (.cells kv T64 (0, 0)) →
      Q .normal (four a d0 d1 d2 d3 (.agg sv) (.agg kv) (.pointer (some ⟨p, 0, none⟩)) (.pointer (some ⟨q, 0, none⟩))) w') : (Code.region id #[o0, o1, o2, o3, o4, o5] true).wp P Q a w := by
  obtain ⟨g0, g1, g2, g3, g4, g5⟩ := g
  obtain ⟨e0, e1, e2, e3⟩ := he
  refine wp_region_inv hm (fun m a' w' => ∃ b0 b1 b2 b3 b4 b5 v0 v1 v2 v3, m = #[b0, b1, b2, b3, b4, b5] ∧ a' = four a d0 d1 d2 d3 v0 v1 v2 v3 ∧ Below w.heap.size w w' ∧ (b0 = true → v0 = .agg sv) ∧ (b1 = true → v1 = .agg kv) ∧
    (b2 = true → ∃ p, v2 = .pointer (some ⟨p, 0, none⟩) ∧ w.heap.size ≤ p ∧ w'.heap[p]? = some (.cells (if b4 then sv else z) T8 (0, 0))) ∧
    (b3 = true → ∃ q, v3 = .pointer (some ⟨q, 0, none⟩) ∧ w.heap.size ≤ q ∧ w'.heap[q]? = some (.cells (if b5 then kv else zz) T64 (0, 0))) ∧ (b4 = true → b0 = true ∧ b1 = true ∧ b2 = true ∧ b3 = true) ∧ (b5 = true → b4 = true)) ?_ ?_ ?_
  · rintro m a' w' _ ⟨b0, b1, b2, b3, b4, b5, v0, v1, v2, v3, rfl, rfl, hB, f0, f1, f2, f3, f4, f5⟩ i hi
    obtain ⟨hl, x, hx, hall⟩ := mem_ready.1 hi
    have hlt : i < 6 := (Array.getElem?_eq_some_iff.1 hx).1
    match i, hlt with
    | 0, _ =>
      have hb : b0 = false := hl
      subst hb
      refine wpOp_plain rfl g0 (h0 _ _ _ _ w' _ hB ?_)
      exact ⟨true, b1, b2, b3, b4, b5, .agg sv, v1, v2, v3, rfl, four_put0 n01 n02 n03 _, hB, fun _ => rfl, f1, f2, f3, fun h => ⟨rfl, (f4 h).2⟩, f5⟩
    | 1, _ =>
      have hb : b1 = false := hl
      subst hb
      refine wpOp_plain rfl g1 (h1 _ _ _ _ w' _ hB fun w'' hb => ?_)
      refine ⟨b0, true, b2, b3, b4, b5, v0, .agg kv, v2, v3, rfl, four_put1 n12 n13 _, hB.trans (hb.mono hB.size), f0, fun _ => rfl, fun h => ?_, fun h => ?_, fun h => ⟨(f4 h).1, rfl, (f4 h).2.2⟩, f5⟩
      · obtain ⟨p, hp1, hp2, hp3⟩ := f2 h
        exact ⟨p, hp1, hp2, by rw [hb.block p (lt_of_row hp3)]; exact hp3⟩
      · obtain ⟨p, hp1, hp2, hp3⟩ := f3 h
        exact ⟨p, hp1, hp2, by rw [hb.block p (lt_of_row hp3)]; exact hp3⟩
    | 2, _ =>
      have hb : b2 = false := hl
      subst hb
      have hb4 : b4 = false := by cases b4 with | false => rfl | true => exact absurd (f4 rfl).2.2.1 (by simp)
      subst hb4
      have hn : Below w'.heap.size w' (w'.alloc (.cells z T8)) := (Below.refl _ _).alloc (Nat.le_refl _) _
      refine wpOp_plain rfl g2 (h2 _ _ _ _ w' _ ?_)
      refine ⟨b0, b1, true, b3, false, b5, v0, v1, _, v3, rfl, four_put2 n23 _, hB.trans (hn.mono hB.size), f0, f1, fun _ => ⟨_, rfl, hB.size, heap_alloc_new _ _⟩, fun h => ?_, fun h => absurd h (by simp), f5⟩
      obtain ⟨p, hp1, hp2, hp3⟩ := f3 h
      exact ⟨p, hp1, hp2, by rw [hn.block p (lt_of_row hp3)]; exact hp3⟩
    | 3, _ =>
      have hb : b3 = false := hl
      subst hb
      have hb4 : b4 = false := by cases b4 with | false => rfl | true => exact absurd (f4 rfl).2.2.2 (by simp)
      subst hb4
      have hb5 : b5 = false := by cases b5 with | false => rfl | true => exact absurd (f5 rfl) (by simp)
      subst hb5
      have hn : Below w'.heap.size w' (w'.alloc (.cells zz T64)) := (Below.refl _ _).alloc (Nat.le_refl _) _
      refine wpOp_plain rfl g3 (h3 _ _ _ _ w' _ ?_)
      refine ⟨b0, b1, b2, true, false, false, v0, v1, v2, _, rfl, four_put3 _, hB.trans (hn.mono hB.size), f0, f1, fun h => ?_, fun _ => ⟨_, rfl, hB.size, heap_alloc_new _ _⟩, fun h => absurd h (by simp), fun h => absurd h (by simp)⟩
      obtain ⟨p, hp1, hp2, hp3⟩ := f2 h
      exact ⟨p, hp1, hp2, by rw [hn.block p (lt_of_row hp3)]; exact hp3⟩
    | 4, _ =>
      have hb : b4 = false := hl
      subst hb
      have hx4 : x = o4 := (Option.some.inj hx).symm
      subst hx4
      have hw : ∀ j, j < 4 → (#[b0, b1, b2, b3, false, b5] : Array Bool).getD j false = true := fun j hj => by
        obtain ⟨e, he, hb, rfl⟩ := hw4 j hj
        exact hall e he hb
      have q0 : b0 = true := hw 0 (by decide)
      have q1 : b1 = true := hw 1 (by decide)
      have q2 : b2 = true := hw 2 (by decide)
      have q3 : b3 = true := hw 3 (by decide)
      have hb5 : b5 = false := by cases b5 with | false => rfl | true => exact absurd (f5 rfl) (by simp)
      subst hb5
      obtain ⟨p, rfl, hp2, hp3⟩ := f2 q2
      obtain ⟨q, rfl, hq2, hq3⟩ := f3 q3
      obtain rfl := f0 q0
      obtain rfl := f1 q1
      have hpq : p ≠ q := by
        rintro rfl
        rw [hp3] at hq3
        have := Option.some.inj hq3
        injection this with _ h2 _
        exact hT h2
      refine wpOp_plain rfl g4 (h4 _ _ w' _ p (by simpa using hp3) ?_)
      rw [hd.1]
      exact ⟨b0, b1, b2, b3, true, false, _, _, _, _, rfl, rfl, below_setRow hB hp2 _, fun _ => rfl, fun _ => rfl, fun _ => ⟨p, rfl, hp2, setRow_heap _ _ _ _ _ _ hp3⟩, fun _ => ⟨q, rfl, hq2, by rw [setRow_other _ _ _ _ (Ne.symm hpq)]; exact hq3⟩, fun _ => ⟨q0, q1, q2, q3⟩, fun h => rfl⟩
    | 5, _ =>
      have hb : b5 = false := hl
      subst hb
      have hx5 : x = o5 := (Option.some.inj hx).symm
      subst hx5
      have q4 : b4 = true := by
        obtain ⟨e, he, hb, h4⟩ := hw5
        have := hall e he hb
        rw [h4] at this; exact this
      subst q4
      obtain ⟨q0, q1, q2, q3⟩ := f4 rfl
      obtain ⟨p, rfl, hp2, hp3⟩ := f2 q2
      obtain ⟨q, rfl, hq2, hq3⟩ := f3 q3
      obtain rfl := f0 q0
      obtain rfl := f1 q1
      have hpq : p ≠ q := by
        rintro rfl
        rw [hp3] at hq3
        have := Option.some.inj hq3
        injection this with _ h2 _
        exact hT h2
      refine wpOp_plain rfl g5 (h5 _ _ w' _ q (by simpa using hq3) ?_)
      rw [hd.2]
      exact ⟨b0, b1, b2, b3, true, true, _, _, _, _, rfl, rfl, below_setRow hB hq2 _, fun _ => rfl, fun _ => rfl, fun _ => ⟨p, rfl, hp2, by rw [setRow_other _ _ _ _ hpq]; exact hp3⟩, fun _ => ⟨q, rfl, hq2, setRow_heap _ _ _ _ _ _ hq3⟩, fun _ => ⟨q0, q1, q2, q3⟩, fun _ => rfl⟩
  · rintro m a' w' _ ⟨b0, b1, b2, b3, b4, b5, v0, v1, v2, v3, rfl, rfl, hB, f0, f1, f2, f3, f4, f5⟩ hr
    have no : ∀ i, i ∉ Region.ready .any #[o0, o1, o2, o3, o4, o5] #[b0, b1, b2, b3, b4, b5] := fun i hi => by rw [hr] at hi; cases hi
    have q0 : b0 = true := by cases b0 with | true => rfl | false => exact absurd (mem_ready.2 ⟨rfl, o0, rfl, fun e he => by rw [e0] at he; simp at he⟩) (no 0)
    have q1 : b1 = true := by cases b1 with | true => rfl | false => exact absurd (mem_ready.2 ⟨rfl, o1, rfl, fun e he => by rw [e1] at he; simp at he⟩) (no 1)
    have q2 : b2 = true := by cases b2 with | true => rfl | false => exact absurd (mem_ready.2 ⟨rfl, o2, rfl, fun e he => by rw [e2] at he; simp at he⟩) (no 2)
    have q3 : b3 = true := by cases b3 with | true => rfl | false => exact absurd (mem_ready.2 ⟨rfl, o3, rfl, fun e he => by rw [e3] at he; simp at he⟩) (no 3)
    subst q0 q1 q2 q3
    have q4 : b4 = true := by
      cases b4 with
      | true => rfl
      | false =>
        refine absurd (mem_ready.2 ⟨rfl, o4, rfl, fun e he _ => ?_⟩) (no 4)
        have := he4 e he
        match e.on, this with
        | 0, _ => rfl
        | 1, _ => rfl
        | 2, _ => rfl
        | 3, _ => rfl
    subst q4
    have q5 : b5 = true := by
      cases b5 with
      | true => rfl
      | false =>
        refine absurd (mem_ready.2 ⟨rfl, o5, rfl, fun e he _ => ?_⟩) (no 5)
        have := he5 e he
        match e.on, this with
        | 0, _ => rfl
        | 1, _ => rfl
        | 2, _ => rfl
        | 3, _ => rfl
        | 4, _ => rfl
    subst q5
    obtain ⟨p, rfl, hp2, hp3⟩ := f2 rfl
    obtain ⟨q, rfl, hq2, hq3⟩ := f3 rfl
    obtain rfl := f0 rfl
    obtain rfl := f1 rfl
    have hpq : p ≠ q := by
      rintro rfl
      rw [hp3] at hq3
      have := Option.some.inj hq3
      injection this with _ h2 _
      exact hT h2
    exact hdone w' p q hB hp2 hq2 hpq (by simpa using hp3) (by simpa using hq3)
  · refine ⟨false, false, false, false, false, false, a.tmps.getD d0 undef, a.tmps.getD d1 undef, a.tmps.getD d2 undef, a.tmps.getD d3 undef, rfl, ?_, ⟨rfl, rfl, rfl, Nat.le_refl _, fun _ _ => rfl⟩, fun h => absurd h (by simp), fun h => absurd h (by simp), fun h => absurd h (by simp), fun h => absurd h (by simp), fun h => absurd h (by simp), fun h => absurd h (by simp)⟩
    unfold four
    rw [Act.put_self, Act.put_self, Act.put_self, Act.put_self]
end
end Go.Proofs.YtpgppninmnplkaaDoor
