/- A region that draws its order, whose operations all leave the world in a class, but for the last one, which waits for all of them. -/
import Derived.Deep.Quiet
import Derived.Deep.QuietTactic
import Derived.Tactics
import Derived.KernelRfl
namespace Go.Proofs.YtcniajbfgfikjaaDoor

section
variable {P : Program} {md : Region.Mode} {C : World → Prop} {l : List Oper} {o : Oper}

/-- Every operation waits for earlier ones alone. -/
def backB (l : List Oper) : Bool := (List.range l.length).all fun i => match l[i]? with | some x => x.after.all (fun e => decide (e.on < i)) && x.guard.isNone | none => true
/-- Each of the first n is waited for by a later one. -/
def sinkAll (md : Region.Mode) (l : List Oper) (n : Nat) : Bool :=
  (List.range n).all fun i => (List.range (n + 1)).any fun j => decide (i < j) && (match l[j]? with | some x => x.after.any (fun e => Region.binds md e && e.on == i) | none => false)

theorem backB_at (h : backB l = true) {i : Nat} {x : Oper} (hi : l[i]? = some x) : (∀ e ∈ x.after, e.on < i) ∧ x.guard = none := by
  have hlt := (List.getElem?_eq_some_iff.1 hi).1
  have := List.all_eq_true.1 h i (List.mem_range.2 hlt)
  rw [hi] at this
  simp only [Bool.and_eq_true, Array.all_eq_true_iff_forall_mem, decide_eq_true_eq, Option.isNone_iff_eq_none] at this
  exact this
theorem sinkAll_at {n : Nat} (h : sinkAll md l n = true) {i : Nat} (hi : i < n) : ∃ j x, i < j ∧ j ≤ n ∧ l[j]? = some x ∧ ∃ e ∈ x.after, Region.binds md e = true ∧ e.on = i := by
  have h1 := List.all_eq_true.1 h i (List.mem_range.2 hi)
  obtain ⟨j, hj, hj2⟩ := List.any_eq_true.1 h1
  simp only [Bool.and_eq_true, decide_eq_true_eq] at hj2
  cases hx : l[j]? with
  | none => rw [hx] at hj2; exact absurd hj2.2 (by simp)
  | some x =>
    rw [hx] at hj2
    obtain ⟨e, he, hb⟩ := Array.any_eq_true'.1 hj2.2
    simp only [Bool.and_eq_true, beq_iff_eq] at hb
    exact ⟨j, x, hj2.1, by have := List.mem_range.1 hj; omega, hx, e, he, hb.1, hb.2⟩

/-- What the marks satisfy on the way. -/
structure Marks (md : Region.Mode) (l : List Oper) (o : Oper) (m : Array Bool) : Prop where
  size : m.size = l.length + 1
  last : m.getD l.length true = false
  closed : ∀ j x, l[j]? = some x → m.getD j false = true → ∀ e ∈ x.after, Region.binds md e = true → m.getD e.on false = true
theorem full_at {j : Nat} (hj : j < l.length) : (l ++ [o]).toArray[j]? = l.toArray[j]? := by simp [List.getElem?_append_left hj]
theorem ready_full {m : Array Bool} {i : Nat} (hi : i < l.length) : i ∈ Region.ready md (l ++ [o]).toArray m ↔ i ∈ Region.ready md l.toArray m := by
  rw [mem_ready, mem_ready, full_at hi]
theorem marks_done (hB : backB l = true) {m : Array Bool} (h : Marks md l o m) (hr : Region.ready md l.toArray m = []) : ∀ i, i < l.length → m.getD i false = true := by
  intro i
  induction i using Nat.strongRecOn with
  | _ i ih =>
    intro hi
    cases hm : m.getD i false with
    | true => rfl
    | false =>
      exfalso
      have hx : l[i]? = some l[i] := List.getElem?_eq_getElem hi
      have : i ∈ Region.ready md l.toArray m := mem_ready.2 ⟨by
        have hs : i < m.size := by rw [h.size]; omega
        simp [hs] at hm ⊢; exact hm, l[i], by simp, fun e he _ => ih _ ((backB_at hB hx).1 e he) (by have := (backB_at hB hx).1 e he; omega)⟩
      rw [hr] at this; cases this
theorem marks_sink {m : Array Bool} (hS : sinkAll md (l ++ [o]) l.length = true) (h : Marks md l o m) (hr : l.length ∈ Region.ready md (l ++ [o]).toArray m) : ∀ d i, l.length - i = d → i < l.length → m.getD i false = true := by
  intro d
  induction d using Nat.strongRecOn with
  | _ d ih =>
    intro i hd hi
    obtain ⟨j, x, hij, hjn, hx, e, he, hb, rfl⟩ := sinkAll_at hS hi
    by_cases hjl : j = l.length
    · subst hjl
      obtain ⟨_, y, hy, hall⟩ := mem_ready.1 hr
      have : x = y := by simp at hx hy; rw [← hx, ← hy]
      subst this
      exact hall e he hb
    · have hjlt : j < l.length := by omega
      have hlx : l[j]? = some x := by rw [← hx, List.getElem?_append_left hjlt]
      exact h.closed j x hlx (ih _ (by omega) j rfl hjlt) e he hb
theorem marks_ready_nil {m : Array Bool} (hall : ∀ i, i < l.length → m.getD i false = true) : Region.ready md l.toArray m = [] := by
  rw [List.eq_nil_iff_forall_not_mem]
  intro i hi
  obtain ⟨h1, x, hx, _⟩ := mem_ready.1 hi
  have hlt : i < l.length := by simpa using (Array.getElem?_eq_some_iff.1 hx).1
  have h2 := hall i hlt
  rcases Nat.lt_or_ge i m.size with h | h
  · simp [h] at h1 h2; rw [h1] at h2; cases h2
  · simp [Array.getElem?_eq_none h] at h2
theorem marks_set {m : Array Bool} (h : Marks md l o m) {i : Nat} (hi : i < l.length) (hr : i ∈ Region.ready md l.toArray m) : Marks md l o (m.setIfInBounds i true) := by
  obtain ⟨_, y, hy, hall⟩ := mem_ready.1 hr
  refine ⟨by simpa using h.size, by rw [getD_set_ne true (by omega)]; exact h.last, fun j x hx hj e he hb => ?_⟩
  by_cases hij : i = j
  · subst hij
    have : x = y := by simp at hy; exact Option.some.inj (hx.symm.trans hy)
    subst this
    exact getD_set_true (hall e he hb)
  · rw [getD_set_ne false hij] at hj
    exact getD_set_true (h.closed j x hx hj e he hb)

theorem tail_done (hB : backB l = true) (hbo : ∀ e ∈ o.after, e.on < l.length) {Q : Exit → Act → World → Prop} {m : Array Bool} {a : Act} {w : World} (h : Marks md l o m) (hr : Region.ready md l.toArray m = [])
    (hq : wpOp P (l ++ [o]).toArray Q l.length (Q .normal) a w) (f : Nat) : wpAny P md (l ++ [o]).toArray Q (f + 1) m a w := by
  have hall := marks_done hB h hr
  have hlast : (l ++ [o]).toArray[l.length]? = some o := by simp
  have hn : l.length ∈ Region.ready md (l ++ [o]).toArray m := mem_ready.2 ⟨h.last, o, hlast, fun e he _ => hall _ (hbo e he)⟩
  refine ⟨fun h0 => (by rw [h0] at hn; cases hn), fun i hi => ?_⟩
  have hin : i = l.length := by
    obtain ⟨h1, x, hx, _⟩ := mem_ready.1 hi
    have hlt : i < l.length + 1 := by simpa using (Array.getElem?_eq_some_iff.1 hx).1
    rcases Nat.lt_or_ge i l.length with h2 | h2
    · have := (ready_full (o := o) h2).1 hi
      rw [hr] at this; cases this
    · omega
  subst hin
  have hnil : Region.ready md (l ++ [o]).toArray (m.setIfInBounds l.length true) = [] := by
    rw [List.eq_nil_iff_forall_not_mem]
    intro i hi
    obtain ⟨h1, x, hx, _⟩ := mem_ready.1 hi
    have hlt : i < l.length + 1 := by simpa using (Array.getElem?_eq_some_iff.1 hx).1
    have h2 : i < m.size := by rw [h.size]; exact hlt
    by_cases hie : i = l.length
    · subst hie; simp [h2] at h1
    · rw [getD_set_ne true (by omega)] at h1
      have h3 := hall i (by omega)
      simp [h2] at h1 h3; rw [h1] at h3; cases h3
  refine wpOp_mono (fun a' w' hQ => ?_) hq
  cases f with
  | zero => exact ⟨hnil, hQ⟩
  | succ f => exact ⟨fun _ => hQ, fun i hi => by rw [hnil] at hi; cases hi⟩

theorem wpAny_tail (hB : backB l = true) (hbo : ∀ e ∈ o.after, e.on < l.length) (hS : sinkAll md (l ++ [o]) l.length = true) {Q : Exit → Act → World → Prop} :
    ∀ (f : Nat) (m : Array Bool) (a : Act) (w : World), Marks md l o m → C w → wpAnyQ P md l.toArray C (fun a' => ∀ w', C w' → wpOp P (l ++ [o]).toArray Q l.length (Q .normal) a' w') f m a → wpAny P md (l ++ [o]).toArray Q (f + 1) m a w
  | 0, m, a, w, hm, hC, h => tail_done hB hbo hm h.1 (h.2 w hC) 0
  | f + 1, m, a, w, hm, hC, h => by
    by_cases hr : Region.ready md l.toArray m = []
    · exact tail_done hB hbo hm hr (h.1 hr w hC) (f + 1)
    · have hex : ∃ i, i ∈ Region.ready md l.toArray m := List.exists_mem_of_ne_nil _ hr
      obtain ⟨i0, hi0⟩ := hex
      have hlt0 : i0 < l.length := by
        obtain ⟨_, x, hx, _⟩ := mem_ready.1 hi0
        simpa using (Array.getElem?_eq_some_iff.1 hx).1
      refine ⟨fun h0 => ?_, fun i hi => ?_⟩
      · have := (ready_full (o := o) hlt0).2 hi0
        rw [h0] at this; cases this
      · have hlt : i < l.length := by
          obtain ⟨_, x, hx, _⟩ := mem_ready.1 hi
          have h1 : i < l.length + 1 := by simpa using (Array.getElem?_eq_some_iff.1 hx).1
          rcases Nat.lt_or_ge i l.length with h2 | h2
          · exact h2
          · have hie : i = l.length := by omega
            subst hie
            exact absurd (marks_ready_nil (md := md) fun j hj => marks_sink hS hm hi _ j rfl hj) hr
        have hil := (ready_full (o := o) hlt).1 hi
        have hx : l[i]? = some l[i] := List.getElem?_eq_getElem hlt
        have hg := (backB_at hB hx).2
        have hq := h.2 i hil
        have e1 : l.toArray[i]? = some l[i] := by simp
        have e2 : (l ++ [o]).toArray[i]? = some l[i] := by rw [full_at hlt]; exact e1
        have hw : ∀ y, Region.wanted l[i] y = true := fun y => by unfold Region.wanted; rw [hg]
        unfold qOp at hq
        simp only [e1, hw, if_true] at hq
        unfold wpOp
        simp only [e2, hw, if_true]
        exact .inl (Oper.wp_of_quiet hC (fun a' w' hw' h' => wpAny_tail hB hbo hS f _ a' w' (marks_set hm hlt hil) hw' h') hq)

/-- THE LAW. -/
theorem wp_region_quiet_tail {id : Nat} {Q : Exit → Act → World → Prop} {a : Act} {w : World} {full : List Oper} (n : Nat) (hm : P.follows .mixedOrders = true)
    (hlen : full.length = n + 1) (hB : backB full = true) (hS : sinkAll .any full n = true)
    (hL : (Region.noSelect (full.take n).toArray && Region.lexFrom .any (full.take n).toArray n 0 (Array.replicate (n + 1) false)) = true) (hC : C { w with drawn := w.drawn + 1 })
    (h : wpQuiet P (full.take n).toArray C (fun a' => ∀ w', C w' → wpList P full.toArray Q (full.drop n) a' w') (full.take n) a) : (Code.region id full.toArray true).wp P Q a w := by
  obtain ⟨l, o, rfl⟩ : ∃ l o, full = l ++ [o] := ⟨full.dropLast, full.getLast (by intro h; rw [h] at hlen; cases hlen), (List.dropLast_concat_getLast _).symm⟩
  have hn : l.length = n := by simpa using hlen
  subst hn
  have e1 : (l ++ [o]).take l.length = l := List.take_left' rfl
  have e2 : (l ++ [o]).drop l.length = [o] := List.drop_left' rfl
  rw [e1] at hL h
  rw [e2] at h
  simp only [Bool.and_eq_true] at hL
  have hB' : backB l = true := by
    unfold backB
    refine List.all_eq_true.2 fun i hi => ?_
    have hlt := List.mem_range.1 hi
    have h1 : (l ++ [o])[i]? = some l[i] := by rw [List.getElem?_append_left hlt, List.getElem?_eq_getElem hlt]
    have := backB_at hB h1
    rw [List.getElem?_eq_getElem hlt]
    simp only [Bool.and_eq_true, Array.all_eq_true_iff_forall_mem, decide_eq_true_eq, Option.isNone_iff_eq_none]
    exact this
  have hbo : ∀ e ∈ o.after, e.on < l.length := (backB_at hB (i := l.length) (x := o) (by simp)).1
  have hq := wpAnyQ_lex (P := P) (C := C) (md := .any) (Q := fun a' => ∀ w', C w' → wpOp P (l ++ [o]).toArray Q l.length (Q .normal) a' w') hL.1 l 0 (Array.replicate (l.length + 1) false) a (by simp) hL.2 ?_
  · refine wp_region_any hm ?_
    have := wpAny_tail (md := .any) hB' hbo hS l.length _ a _ ⟨by simp, by simp, fun j x hx hj => ?_⟩ hC hq
    · simpa using this
    · exfalso
      simp only [Array.getD_eq_getD_getElem?, Array.getElem?_replicate] at hj
      split at hj <;> simp at hj
  · have e3 : wpOps P (l ++ [o]).toArray Q (List.range' l.length [o].length) = wpList P (l ++ [o]).toArray Q [o] := wpOps_eq_wpList [o] l.length (fun j => by
      match j with
      | 0 => simp
      | j + 1 => simp)
    have e4 : ∀ a' w', wpOps P (l ++ [o]).toArray Q (List.range' l.length [o].length) a' w' = wpOp P (l ++ [o]).toArray Q l.length (wpOps P (l ++ [o]).toArray Q []) a' w' := fun a' w' => by
      rw [show List.range' l.length [o].length = l.length :: [] from rfl, wpOps_cons]
    rw [← e3] at h
    simp only [e4] at h
    exact h
/-- .. at the class 'the world after some draws'. -/
theorem wp_region_drawn_tail {id : Nat} {Q : Exit → Act → World → Prop} {a : Act} {w : World} {full : List Oper} (n : Nat) (hm : P.follows .mixedOrders = true)
    (hlen : full.length = n + 1) (hB : backB full = true) (hS : sinkAll .any full n = true)
    (hL : (Region.noSelect (full.take n).toArray && Region.lexFrom .any (full.take n).toArray n 0 (Array.replicate (n + 1) false)) = true)
    (h : wpQuiet P (full.take n).toArray (fun w' => ∃ m, w' = w.drewN m) (fun a' => ∀ w', (∃ m, w' = w.drewN m) → wpList P full.toArray Q (full.drop n) a' w') (full.take n) a) : (Code.region id full.toArray true).wp P Q a w :=
  wp_region_quiet_tail (C := fun w' => ∃ m, w' = w.drewN m) n hm hlen hB hS hL ⟨1, rfl⟩ h
end

section
variable {P : Program} {md : Region.Mode} {ops : Array Oper} {Q : Exit → Act → World → Prop}
theorem count_set : ∀ (l : List Bool) (i : Nat), i < l.length → l.getD i true = false → (l.set i true).countP (!·) + 1 = l.countP (!·)
  | b :: l, 0, _, h => by
    have : b = false := h
    subst this
    simp
  | b :: l, i + 1, hi, h => by
    have := count_set l i (by simpa using hi) (by simpa using h)
    rw [List.set_cons_succ, List.countP_cons, List.countP_cons]
    omega
/-- AN INVARIANT OVER THE MARKS: whatever may come up keeps it; where nothing may come up it gives what is asked. -/
theorem wpAny_inv (J : Array Bool → Act → World → Prop) (hstep : ∀ m a w, m.size = ops.size → J m a w → ∀ i, i ∈ Region.ready md ops m → wpOp P ops Q i (J (m.setIfInBounds i true)) a w)
    (hdone : ∀ m a w, m.size = ops.size → J m a w → Region.ready md ops m = [] → Q .normal a w) :
    ∀ (f : Nat) (m : Array Bool) (a : Act) (w : World), m.size = ops.size → m.toList.countP (!·) ≤ f → J m a w → wpAny P md ops Q f m a w
  | 0, m, a, w, hs, hc, hJ => by
    have hr : Region.ready md ops m = [] := by
      rw [List.eq_nil_iff_forall_not_mem]
      intro i hi
      obtain ⟨h1, x, hx, _⟩ := mem_ready.1 hi
      have hlt : i < m.size := by rw [hs]; exact (Array.getElem?_eq_some_iff.1 hx).1
      have h2 : m.toList.getD i true = false := by simpa [List.getD_eq_getElem?_getD, hlt] using h1
      have := count_set m.toList i (by simpa using hlt) h2
      omega
    exact ⟨hr, hdone m a w hs hJ hr⟩
  | f + 1, m, a, w, hs, hc, hJ => by
    refine ⟨fun hr => hdone m a w hs hJ hr, fun i hi => ?_⟩
    refine wpOp_mono (fun a' w' hJ' => wpAny_inv J hstep hdone f _ a' w' (by simpa using hs) ?_ hJ') (hstep m a w hs hJ i hi)
    obtain ⟨h1, x, hx, _⟩ := mem_ready.1 hi
    have hlt : i < m.size := by rw [hs]; exact (Array.getElem?_eq_some_iff.1 hx).1
    have h2 : m.toList.getD i true = false := by simpa [List.getD_eq_getElem?_getD, hlt] using h1
    have := count_set m.toList i (by simpa using hlt) h2
    rw [Array.toList_setIfInBounds]
    omega
theorem wp_region_inv {id : Nat} {a : Act} {w : World} (hm : P.follows .mixedOrders = true) (J : Array Bool → Act → World → Prop)
    (hstep : ∀ m a w, m.size = ops.size → J m a w → ∀ i, i ∈ Region.ready .any ops m → wpOp P ops Q i (J (m.setIfInBounds i true)) a w)
    (hdone : ∀ m a w, m.size = ops.size → J m a w → Region.ready .any ops m = [] → Q .normal a w) (h0 : J (Array.replicate ops.size false) a { w with drawn := w.drawn + 1 }) : (Code.region id ops true).wp P Q a w := by
  refine wp_region_any hm (wpAny_inv J hstep hdone _ _ _ _ (by simp) ?_ h0)
  have := List.countP_le_length (p := (!·)) (l := (Array.replicate ops.size false).toList)
  simpa using this
theorem wpOp_plain {i : Nat} {o : Oper} {K : Act → World → Prop} {a : Act} {w : World} (hi : ops[i]? = some o) (hg : o.guard = none) (h : o.wp P a w K Q) : wpOp P ops Q i K a w := by
  unfold wpOp
  simp only [hi]
  rw [if_pos (by unfold Region.wanted; rw [hg])]
  exact .inl h
end
end Go.Proofs.YtcniajbfgfikjaaDoor
