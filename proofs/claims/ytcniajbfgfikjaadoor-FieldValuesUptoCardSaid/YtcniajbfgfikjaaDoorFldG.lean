/- With: appends of whole slices of fields, slices.Grow and slices.Concat. -/
import Derived.Test.YtcniajbfgfikjaaDoorFldF
import Derived.Lib.AppendZerosOnto
import Derived.Maps.AppendAt
import Derived.Laws.AppendOwnNone
namespace Go.Proofs.YtcniajbfgfikjaaDoor
open Go.RowKit

/-- The slice with its capacity: where it is nil, it is nil altogether. -/
def FldsC (w : World) (a : Option Addr) (l : List Fld) (c : Nat) : Prop := FldsIn w a l ∧ (a = none → l = [] ∧ c = 0)
theorem FldsC.keep {w w' : World} {a : Option Addr} {l : List Fld} {c : Nat} (h : FldsC w a l c) (hb : Below w.heap.size w w') : FldsC w' a l c := ⟨h.1.keep hb, h.2⟩
theorem AccF.empty (w : World) : AccF w (w.alloc (.cells #[] 28)) (.slice (some ⟨w.heap.size, 0, none⟩) 0 0) [] := by
  refine ⟨⟨rfl, .inr ⟨w.heap.size, 0, #[], rfl, Nat.le_refl _, ?_, Nat.le_refl _, Nat.zero_le _, rfl, rfl⟩⟩, (Below.refl _ _).alloc (Nat.le_refl _) _⟩
  show (w.heap.push _)[w.heap.size]? = _
  simp
theorem AccF.shapeC {w0 w : World} {v : Value} {l : List Fld} (h : AccF w0 w v l) : ∃ a cap, v = .slice a l.length cap ∧ FldsC w a l cap := by
  obtain ⟨a, cap, e, hs⟩ := h.shape
  refine ⟨a, cap, e, hs, fun ha => ?_⟩
  subst ha
  obtain ⟨⟨h1, h2⟩, _⟩ := h
  rcases h2 with ⟨rfl, h2⟩ | ⟨g, cap', cur, rfl, _⟩
  · injection e with e1 e2 e3
    exact ⟨List.eq_nil_of_length_eq_zero h2, e3.symm⟩
  · injection e with e1; cases e1

section
variable {ops : Array Oper} {rest : List Oper} {o : Oper} {act : Act} {Q : Exit → Act → World → Prop}
/-- APPEND of a slice of fields that is read to a slice of the call's own. -/
theorem wpList_append_accfs (w : World) (hgd : o.guard = none) (s x : Operand) (ho : o.op = .call { callee := .builtin .append, args := #[s, x], argTypes := #[22, 22] })
    {w0 : World} {v : Value} {l : List Fld} (hs : act.eval s = v) (h : AccF w0 w v l) {a : Option Addr} {r : List Fld} {c : Nat} (hx : act.eval x = .slice a r.length c) (hr : FldsC w a r c)
    (hn : l.length + r.length ≤ 4398046511104)
    (K : ∀ v' w', AccF w0 w' v' (l ++ r) → wpList Tryd.prog ops Q rest (act.put o.dst v') w') : wpList Tryd.prog ops Q (o :: rest) act w := by
  obtain ⟨i0, hi, hz0, hz1, hz2⟩ := info_parts Tryd.info28
  cases a with
  | none =>
    obtain ⟨rfl, rfl⟩ := hr.2 rfl
    refine wpList_append_own_none hgd s x 22 ho w0.heap.size 28 i0 2 Tryd.underlying22 hi v l.length (cellsF l) hs h.1 hx (K _ _ ?_)
    rw [List.append_nil]; exact h
  | some ad =>
    refine wpList_append_own_at w hgd s x 22 ho w0.heap.size 28 i0 _ 2 32 Tryd.underlying22 hi hz0 hz1 hz2 rfl (by decide) v l.length (cellsF l) hs h.1 ad r.length c (cellsF r) hx (cellsF_len r) (hr.1.cells) (cellsF_one r) (by unfold maxLen; omega) (by omega) h.2.size ?_
    intro v' w' hown hgrow _ _
    refine K v' w' ⟨?_, h.2.grown hgrow h.2.size fun k hk => (World.ownsRow.lt h.1 k hk).1⟩
    rw [List.length_append, cellsF_app]; exact hown
end

theorem grow_runF (w : World) (n : Nat) (h0 : 0 < n) (hn : n ≤ 4000000) (ty : TypeId) :
    ∃ cap w', (Builtin.append_ #[22, 3] ty #[.slice none 0 0, .int .i64 (n : Int)]).run Tryd.prog w = .ok (.slice (some ⟨w.heap.size, 0, none⟩) n cap) w' ∧ n ≤ cap ∧ cap ≤ maxLen ∧ AccF w w' (.slice (some ⟨w.heap.size, 0, none⟩) 0 cap) [] := by
  obtain ⟨i0, hi, hz0, hz1, hz2⟩ := info_parts Tryd.info28
  have h := Lib.run_append_grow_zeros w 22 3 ty 28 i0 _ .i64 .i64 Tryd.underlying22 Tryd.underlying3 hi hz0 none 0 0 [] (by rw [hz1]; simp [Builtin.firstCells]) n h0 (by rw [hz1]; decide) (by omega) (by omega) (by rw [hz2]; omega) (by rw [hz2]; exact growslice_fits (by omega) (by omega))
  rw [Nat.zero_add] at h
  have hcap := grownCap_ge w n 0 28
  have hmx := grownCap_le_maxLen w n 0 28 (by unfold maxLen; omega)
  refine ⟨_, _, h, hcap, hmx, ⟨rfl, .inr ⟨w.heap.size, _, _, rfl, Nat.le_refl _, (heap_alloc_new w.drew _), Nat.zero_le _, hmx, ?_, rfl⟩⟩, ((Below.refl _ _).drew).alloc (Nat.le_refl _) _⟩
  simp only [Array.size_append, size_zeroCells, List.size_toArray, List.length_nil]
  show 0 + n * 2 + (_ - n) * 2 = _
  omega

set_option maxRecDepth 100000 in
set_option maxHeartbeats 2000000 in
theorem growF_any (n : Nat) (w : World) (hn : n ≤ 4000000) :
    Calls Tryd.prog 63 #[.slice none 0 0, .int .i64 (n : Int)] w fun e w' => ∃ v, e = .returned v ∧ AccF w w' v [] := by
  by_cases h0 : 0 < n
  · obtain ⟨cap, w', hrun, hc1, hc2, hacc⟩ := grow_runF w n h0 hn 22
    have HACC := Box.mk hacc
    clear hacc
    unfold maxLen at hc2
    go_enter Tryd.func63, Tryd.ntmps63
    go_wp2_with (at_builtin; refine Lib.wpList_append_run _ rfl _ _ _ _ rfl _ _ rfl rfl _ _ hrun ?_)
    go_ret
    exact ⟨_, rfl, HACC.out⟩
  · obtain rfl : n = 0 := by omega
    go_enter Tryd.func63, Tryd.ntmps63
    go_wp2_with fail
    go_ret
    exact ⟨_, rfl, AccF.start w⟩
end Go.Proofs.YtcniajbfgfikjaaDoor
