/- The law of Put, Take and Peek. -/
import Derived.Test.YtpgppninmnplkaaQueL
namespace Go.Proofs.Ytpgppninmnplkaa
open Go.RowKit

theorem within_valE (z : Int) (n : Nat) (h0 : 0 < n) (hn : n ≤ 1000000000) : ∃ k : Nat, k < n ∧ (wrap64 (z.tmod n + n)).tmod n = (k : Int) := by
  have h1 : z.tmod n < n := Int.tmod_lt_of_pos z (by omega)
  have h2 : -(n : Int) < z.tmod n := Int.lt_tmod_of_pos z (by omega)
  generalize z.tmod n = y at *
  have e : wrap64 (y + n) = y + n := by simp only [wrap64]; omega
  rw [e, Int.tmod_eq_emod_of_nonneg (by omega)]
  exact ⟨((y + n) % n).toNat, by have := Int.emod_lt_of_pos (y + n) (show (0 : Int) < n by omega); have := Int.emod_nonneg (y + n) (show (n : Int) ≠ 0 by omega); omega, by have := Int.emod_nonneg (y + n) (show (n : Int) ≠ 0 by omega); omega⟩
theorem withinE (z : Int) (n k : Nat) (w : World) (h0 : 0 < n) (hn : n ≤ 1000000000) (he : (wrap64 (z.tmod n + n)).tmod n = (k : Int)) :
    Calls Try.prog 16 #[.int .i64 z, .int .i64 n] w fun e w' => e = .returned (.int .i64 k) ∧ w = w' := by
  go_enter Try.func16, Try.ntmps16
  go_wp2
  go_ret
  exact ⟨rfl, rfl⟩
theorem slc_two {w : World} {a b : Option Addr} {l k : List UInt8} {c d : Nat} (h : IsBytes w a l c) (h2 : IsBytes w b k d) {W : World} (hW : W = w.alloc (.cells #[.slice a l.length c, .slice b k.length d] 22)) : SlcV W (.slice (some ⟨w.heap.size, 0, none⟩) 2 2) [l, k] := by
  subst hW
  exact ⟨_, 2, rfl, slcIn_build2 h h2 _ _⟩
/-- A new variable, at B or beyond. -/
def ZRow (B : Nat) (w : World) (v : Value) : Prop := ∃ g, v = .pointer (some ⟨g, 0, none⟩) ∧ B ≤ g ∧ QVar w g 0 none 0 0
def Spec.zrow (B : Nat) : Spec := ⟨fun v w => ZRow B w v, fun v w w' h hb => by
  obtain ⟨g, h1, h2, h3⟩ := h
  exact ⟨g, h1, h2, h3.keep hb⟩⟩
theorem ZRow.grown {B : Nat} {w w' : World} {v u : Value} {C : Nat} {l : List UInt8} (h : ZRow B w v) (hg : w.grownBy w' u.ownBlock) (hu : Own C w u l) : ZRow B w' v := by
  obtain ⟨g, h1, h2, h3⟩ := h
  refine ⟨g, h1, h2, ?_⟩
  unfold QVar at *
  rw [hg.block g (Array.getElem?_eq_some_iff.1 h3).1 (fun e => ?_)]
  · exact h3
  · rcases hu.2 with ⟨rfl, _⟩ | ⟨g', cap, cur, rfl, _, hc, _⟩
    · cases e
    · injection e with e
      rw [e] at h3
      have h4 : (some (Obj.cells cur 5 (0, 0)) : Option Obj) = some (.cells #[.int .i64 0, .slice none 0 0] 24 (0, 0)) := hc.symm.trans h3
      injection h4 with h4
      injection h4 with _ h5
      exact absurd h5 (by decide)
def Spec.tup (z : Int) (l : List UInt8) (k : Nat) : Spec := ⟨fun v w => ∃ d f, v = .tuple #[.agg #[.int .i64 z, .slice d l.length f], .int .i64 k] ∧ IsBytes w d l f, fun v w w' h hb => by
  obtain ⟨d, f, h1, h2⟩ := h
  exact ⟨d, f, h1, h2.keep hb⟩⟩
def Spec.tupV (z : Int) (n k : Nat) : Spec := ⟨fun v _ => ∃ d f, v = .tuple #[.agg #[.int .i64 z, .slice d n f], .int .i64 k], fun _ _ _ h _ => h⟩
def Spec.qat (z : Int) (l : List UInt8) : Spec := ⟨fun v w => QAt w v z l, fun _ _ _ h hb => h.keep hb⟩
def Spec.qrow (z : Int) (l : List UInt8) : Spec := ⟨fun v w => ∃ g d f, v = .pointer (some ⟨g, 0, none⟩) ∧ QVar w g z d l.length f ∧ IsBytes w d l f, fun v w w' h hb => by
  obtain ⟨g, d, f, h1, h2, h3⟩ := h
  exact ⟨g, d, f, h1, h2.keep hb, h3.keep hb⟩⟩
section
variable {Q : Exit → Act → World → Prop} {a : Act} {w : World} {o : Oper} {s : Spec}
theorem loc_alloc_q (ho : o.op = .alloc 24) {B : Nat} (hB : B ≤ w.heap.size) (hs : ∀ v w', ZRow B w' v → s.p v w') :
    o.wp Try.prog a w (fun a' w' => ∃ v, a' = a.put o.dst v ∧ Below w.heap.size w w' ∧ s.p v w') Q := by
  have hz : (Try.prog.info? 24).bind (·.zero) = some (.agg #[.int .i64 0, .slice none 0 0]) := by kernel_rfl
  refine loc_run (v := .pointer (some ⟨w.heap.size, 0, none⟩)) (w' := w.alloc (.cells #[.int .i64 0, .slice none 0 0] 24)) ?_ (below_one _ _) (hs _ _ ⟨_, rfl, hB, heap_alloc_new _ _⟩)
  cases hq : Try.prog.info? 24 with
  | none => rw [hq] at hz; cases hz
  | some i =>
    rw [hq] at hz
    simp only [Option.bind_some] at hz
    unfold execOp
    simp [ho, Instr.alloc, zeroValue, typeInfo, hq, hz, newRow, newVar, Value.cells]
theorem loc_extract0 {x : Operand} (ho : o.op = .extract x 0) {u v : Value} (hx : a.eval x = .tuple #[u, v]) (hs : s.p u w) :
    o.wp Try.prog a w (fun a' w' => ∃ v, a' = a.put o.dst v ∧ Below w.heap.size w w' ∧ s.p v w') Q :=
  loc_run (v := u) (by unfold execOp; simp [ho, hx, Instr.extract]) (Below.refl _ _) hs
theorem loc_extract1 {x : Operand} (ho : o.op = .extract x 1) {u v : Value} (hx : a.eval x = .tuple #[u, v]) (hs : s.p v w) :
    o.wp Try.prog a w (fun a' w' => ∃ v, a' = a.put o.dst v ∧ Below w.heap.size w w' ∧ s.p v w') Q :=
  loc_run (v := v) (by unfold execOp; simp [ho, hx, Instr.extract]) (Below.refl _ _) hs
end
theorem refPut_k {z : Int} {l b : List UInt8} {k : Nat} {L : List UInt8} {v u : Value} {w : World} (hv : QAt w v z l) (hu : BytesV w u b) (hlen : l.length + b.length ≤ 140737488355328) (hk : putN z l.length b.length = k) (hL : l ++ b.take k = L) :
    Calls Try.prog 18 #[v, u] w fun e w' => ∃ v', e = .returned v' ∧ Below w.heap.size w w' ∧ ∃ d f, v' = .tuple #[.agg #[.int .i64 z, .slice d L.length f], .int .i64 k] ∧ IsBytes w' d L f := by
  obtain ⟨a, c, rfl, h1⟩ := hv
  obtain ⟨b', d, rfl, h2⟩ := hu
  subst hk hL
  refine (refPut_any z l b a b' c d w h1 h2 hlen).mono ?_
  rintro e w' ⟨d, f, rfl, hb, hby⟩
  exact ⟨_, rfl, hb, d, f, rfl, hby⟩
end Go.Proofs.Ytpgppninmnplkaa
