/- Queues: Take. -/
import Derived.Test.YtpgppninmnplkaaQueC
namespace Go.Proofs.Ytpgppninmnplkaa
open Go.RowKit

theorem sizeOf_u8Q (W : World) : (sizeOf 5).run Try.prog W = .ok 1 W := by
  have h : (Try.prog.info? 5).map (·.size) = some 1 := by kernel_rfl
  cases hq : Try.prog.info? 5 with
  | none => rw [hq] at h; cases h
  | some i => rw [hq] at h; simp at h; simp [sizeOf, typeInfo, hq, h]

section
variable {Q : Exit → Act → World → Prop} {a : Act} {w : World} {o : Oper} {s : Spec}
theorem run_field0 (W : World) (g : Nat) : (Instr.fieldAt 24 (.pointer (some ⟨g, 0, none⟩)) 0).run Try.prog W = .ok (.pointer (some ⟨g, 0, none⟩)) W := by
  simp [Instr.fieldAt, run_underlying Try.underlying24, Instr.sureAddr, fieldPlace, Addr.add]
theorem run_field1 (W : World) (g : Nat) : (Instr.fieldAt 24 (.pointer (some ⟨g, 0, none⟩)) 1).run Try.prog W = .ok (.pointer (some ⟨g, 1, none⟩)) W := by
  simp [Instr.fieldAt, run_underlying Try.underlying24, Instr.sureAddr, fieldPlace, Addr.add]
theorem loc_field0 {x : Operand} (ho : o.op = .fieldAddr 24 x 0) {g : Nat} (hx : a.eval x = .pointer (some ⟨g, 0, none⟩)) (hs : s.p (.pointer (some ⟨g, 0, none⟩)) w) :
    o.wp Try.prog a w (fun a' w' => ∃ v, a' = a.put o.dst v ∧ Below w.heap.size w w' ∧ s.p v w') Q :=
  loc_run (v := .pointer (some ⟨g, 0, none⟩)) (by unfold execOp; rw [ho]; simp only [hx, Sem.run_bind, run_field0, Result.andThen_ok, Sem.run_pure]) (Below.refl _ _) hs
theorem loc_field1 {x : Operand} (ho : o.op = .fieldAddr 24 x 1) {g : Nat} (hx : a.eval x = .pointer (some ⟨g, 0, none⟩)) (hs : s.p (.pointer (some ⟨g, 1, none⟩)) w) :
    o.wp Try.prog a w (fun a' w' => ∃ v, a' = a.put o.dst v ∧ Below w.heap.size w w' ∧ s.p v w') Q :=
  loc_run (v := .pointer (some ⟨g, 1, none⟩)) (by unfold execOp; rw [ho]; simp only [hx, Sem.run_bind, run_field1, Result.andThen_ok, Sem.run_pure]) (Below.refl _ _) hs
theorem loc_load_int {x : Operand} (ho : o.op = .load 3 x) {p : Addr} (hx : a.eval x = .pointer (some p)) {v : Value} (hc : w.cell? p = some v) (hs : s.p v w) :
    o.wp Try.prog a w (fun a' w' => ∃ v, a' = a.put o.dst v ∧ Below w.heap.size w w' ∧ s.p v w') Q :=
  loc_load ho (v := v) (by
    rw [hx]
    simp [Instr.loadAt, Instr.sureAddr, loadVar, hc]) hs
theorem loc_load_slice {x : Operand} (ho : o.op = .load 22 x) {p : Addr} (hx : a.eval x = .pointer (some p)) {v : Value} (hc : w.cell? p = some v) (hs : s.p v w) :
    o.wp Try.prog a w (fun a' w' => ∃ v, a' = a.put o.dst v ∧ Below w.heap.size w w' ∧ s.p v w') Q :=
  loc_load ho (v := v) (by
    rw [hx]
    simp [Instr.loadAt, Instr.sureAddr, loadVar, hc]) hs
theorem run_part_q (W : World) (x : Addr) (len cap n : Nat) (hn : n ≤ len) :
    (Instr.sliceAt 22 (.slice (some x) len cap) (some (.int .i64 (n : Int))) none none).run Try.prog W = .ok (.slice (some (if cap = n then x else x.add n)) (len - n) (cap - n)) W := by
  have es : (sizeOf (Try.prog.elem 22)).run Try.prog W = .ok 1 W := by rw [show Try.prog.elem 22 = 5 by kernel_rfl]; exact sizeOf_u8Q W
  rw [run_sliceAt_slice W 22 _ _ _ _ (by kernel_rfl), run_slice_l W 22 _ _ _ (by kernel_rfl) .i64 (n : Int) (by omega) (by omega), es]
  simp only [Result.andThen, sliced, Int.toNat_natCast, Nat.mul_one]
  split <;> rfl
theorem part_bytes_q {w : World} {x : Addr} {l : List UInt8} {cap n : Nat} (h : IsBytes w (some x) l cap) (hn : n ≤ l.length) : IsBytes w (some (if cap = n then x else x.add n)) (l.drop n) (cap - n) := by
  rcases h with ⟨h, _⟩ | ⟨y, hy, h1, h2, h3⟩
  · cases h
  · obtain rfl := Option.some.inj hy
    refine .inr ⟨_, rfl, by simp; omega, by omega, fun j hj => ?_⟩
    have hj' : j < l.length - n := by simpa using hj
    rw [if_neg (by omega), List.getElem_drop, ← h3 (n + j) (by omega)]
    congr 1
    unfold Addr.add
    by_cases h0 : n = 0
    · subst h0; simp
    · by_cases hj0 : j = 0
      · subst hj0; simp [h0]
      · simp [h0, hj0, Nat.add_assoc]
/-- l from place i on. -/
theorem part_q {w : World} {a : Option Addr} {l : List UInt8} {cap i : Nat} (h : IsBytes w a l cap) (hi : i ≤ l.length) :
    ∃ a' c', (∀ W, (Instr.sliceAt 22 (.slice a l.length cap) (some (.int .i64 (i : Int))) none none).run Try.prog W = .ok (.slice a' (l.length - i) c') W) ∧ IsBytes w a' (l.drop i) c' := by
  cases a with
  | some x => exact ⟨_, _, fun W => run_part_q W x l.length cap i hi, part_bytes_q h hi⟩
  | none =>
    rcases h with ⟨_, rfl, rfl⟩ | ⟨x, h, _⟩
    · have h0 : i = 0 := by simpa using hi
      subst h0
      refine ⟨none, 0, fun W => ?_, .inl ⟨rfl, rfl, rfl⟩⟩
      have es : (sizeOf (Try.prog.elem 22)).run Try.prog W = .ok 1 W := by rw [show Try.prog.elem 22 = 5 by kernel_rfl]; exact sizeOf_u8Q W
      rw [run_sliceAt_slice W 22 _ _ _ _ (by kernel_rfl), run_slice_l W 22 _ _ _ (by kernel_rfl) .i64 ((0 : Nat) : Int) (by omega) (by simp), es]
      rfl
    · cases h
theorem loc_from {x y : Operand} (ho : o.op = .slice 22 x (some y) none none) {l : List UInt8} {i : Nat} (hx : BytesV w (a.eval x) l) (hy : a.eval y = .int .i64 i) (hi : i ≤ l.length) (hs : ∀ v, BytesV w v (l.drop i) → s.p v w) :
    o.wp Try.prog a w (fun a' w' => ∃ v, a' = a.put o.dst v ∧ Below w.heap.size w w' ∧ s.p v w') Q := by
  obtain ⟨ad, c, h1, h2⟩ := hx
  obtain ⟨a', c', h3, h4⟩ := part_q h2 hi
  refine loc_run (v := .slice a' (l.length - i) c') ?_ (Below.refl _ _) (hs _ ⟨a', c', by rw [List.length_drop], h4⟩)
  unfold execOp
  simp only [ho, h1, hy, Option.map_some, Option.map_none, Sem.run_bind, h3, Result.andThen_ok, Sem.run_pure]
theorem loc_build_q {x y : Operand} (ho : o.op = .build 24 #[(0, x), (1, y)]) {z : Int} {ad : Option Addr} {n c : Nat} (hx : a.eval x = .int .i64 z) (hy : a.eval y = .slice ad n c) (hs : s.p (.agg #[.int .i64 z, .slice ad n c]) w) :
    o.wp Try.prog a w (fun a' w' => ∃ v, a' = a.put o.dst v ∧ Below w.heap.size w w' ∧ s.p v w') Q := by
  refine loc_run (v := .agg #[.int .i64 z, .slice ad n c]) ?_ (Below.refl _ _) hs
  have hb := run_build (P := Try.prog) w 24 #[(0, .int .i64 z), (1, .slice ad n c)] #[.int .i64 z, .slice ad n c] (by kernel_rfl)
  unfold execOp
  simp only [ho, List.map_toArray, List.map_cons, List.map_nil, hx, hy, Sem.run_bind, hb, Result.andThen_ok, Sem.run_pure]
end
theorem oneQ (z : Int) (a : Option Addr) (n c : Nat) : (#[Value.int .i64 z, .slice a n c] : Array Value).all (·.oneCell') = true := by simp [Value.oneCell']
theorem results_tmp_row {P : Program} {fn : Func} {q p : Tmp} {ty : TypeId} (h : fn.results = #[.tmp q, .cell p ty]) (tmps : Array Value) (w : World) (g : Nat) (t : TypeId) (cs : Array Value) (fr : Nat × Nat) (d : TypeDesc)
    (hp : tmps.getD p undef = .pointer (some ⟨g, 0, none⟩)) (hg : w.heap[g]? = some (.cells cs t fr))
    (hu : P.underlying ty = some d) (hd : (match d with | .struct _ | .array _ _ => true | _ => false) = true) (hi : (P.info? ty).map (·.size) = some cs.size) :
    (results fn tmps).run P w = .ok (.tuple #[tmps.getD q undef, .agg cs]) w := by
  have hp' : tmps[p]?.getD undef = .pointer (some ⟨g, 0, none⟩) := by simpa using hp
  simp [results, h, hp', asAddr, run_loadVar_row w g t ty cs fr d hg hu hd hi]
theorem results_row_tmp {P : Program} {fn : Func} {q p : Tmp} {ty : TypeId} (h : fn.results = #[.cell p ty, .tmp q]) (tmps : Array Value) (w : World) (g : Nat) (t : TypeId) (cs : Array Value) (fr : Nat × Nat) (d : TypeDesc)
    (hp : tmps.getD p undef = .pointer (some ⟨g, 0, none⟩)) (hg : w.heap[g]? = some (.cells cs t fr))
    (hu : P.underlying ty = some d) (hd : (match d with | .struct _ | .array _ _ => true | _ => false) = true) (hi : (P.info? ty).map (·.size) = some cs.size) :
    (results fn tmps).run P w = .ok (.tuple #[.agg cs, tmps.getD q undef]) w := by
  have hp' : tmps[p]?.getD undef = .pointer (some ⟨g, 0, none⟩) := by simpa using hp
  simp [results, h, hp', asAddr, run_loadVar_row w g t ty cs fr d hg hu hd hi]
end Go.Proofs.Ytpgppninmnplkaa
