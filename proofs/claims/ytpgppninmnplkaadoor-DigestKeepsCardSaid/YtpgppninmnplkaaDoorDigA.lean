/- The contracts of the small functions over words: rotations, constants, the first state. -/
import Derived.Test.YtpgppninmnplkaaDoorDigMath
import Derived.Test.YtpgppninmnplkaaDoorAsciiA
import Derived.Test.YtpgppninmnplkaaDoorStrs
import Derived.Laws.Rows
import Derived.Laws.Tables
import Derived.Deep.WholeRow
import Derived.Laws.CopyOwn
namespace Go.Proofs.YtpgppninmnplkaaDoor
open Go.RowKit

theorem bnot_and31 (n : Nat) (h0 : 0 < n) (hn : n < 32) : bits .and .u64 (18446744073709551616 - (n : Int)) 31 = ((32 - n : Nat) : Int) := by
  have e : (18446744073709551616 - (n : Int)) = ((18446744073709551616 - n : Nat) : Int) := by omega
  rw [e, show (31 : Int) = ((31 : Nat) : Int) by rfl, bits_and_u64_nat _ _ (by omega) (by decide), show 31 = 2 ^ 5 - 1 by decide, Nat.and_two_pow_sub_one_eq_mod]
  have : (18446744073709551616 - n) % 2 ^ 5 = 32 - n := by omega
  rw [this]
theorem wrap_neg (n : Nat) (h0 : 0 < n) (hn : n < 32) : IntKind.u64.wrap (-(n : Int)) = 18446744073709551616 - (n : Int) := by
  rw [IntKind.wrap_u64]; omega

theorem rot_bits (x : UInt32) (n : Nat) (h0 : 0 < n) (hn : n < 32) : bits BinOp.or IntKind.u32 (vU x / 2 ^ n) (vU x * 2 ^ (32 - n) % 4294967296) = vU (rotr x n) := by
  rw [vU_shr' x n hn, vU_shl' x (32 - n) (by omega), vU_or]; rfl
theorem rot_bits' (x : UInt32) (n : Nat) (h0 : 0 < n) (hn : n < 32) : bits BinOp.or IntKind.u32 (vU x * 2 ^ (32 - n) % 4294967296) (vU x / 2 ^ (32 - (32 - n))) = vU (rotr x n) := by
  rw [show 32 - (32 - n) = n by omega, vU_shr' x n hn, vU_shl' x (32 - n) (by omega), vU_or, UInt32.or_comm]; rfl

set_option maxHeartbeats 400000 in
theorem rotl_any (x : UInt32) (n : Nat) (z : Int) (hz : z = -(n : Int)) (h0 : 0 < n) (hn : n < 32) (w : World) :
    Calls Tryd.prog 33 #[.int .u32 (vU x), .int .i64 z] w fun e w' => e = .returned (.int .u32 (vU (rotr x n))) ∧ w = w' := by
  subst hz
  have h1 := bnot_and31 n h0 hn
  have h2 := wrap_neg n h0 hn
  go_enter Tryd.func33, Tryd.ntmps33
  go_wp2
  go_ret
  exact ⟨ret_int (rot_bits' x n h0 hn), rfl⟩

set_option maxHeartbeats 400000 in
theorem right_any (x : UInt32) (n : Nat) (h0 : 0 < n) (hn : n < 32) (w : World) :
    Calls Tryd.prog 27 #[.int .u32 (vU x), .int .i64 n] w fun e w' => e = .returned (.int .u32 (vU (rotr x n))) ∧ ∃ m, w' = w.drewN m := by
  go_enter Tryd.func27, Tryd.ntmps27
  go_wp2_with fail
  go_quiet (fail)
  go_wp2
  go_ret
  exact ⟨ret_int (rot_bits x n h0 hn), _, rfl⟩

set_option maxHeartbeats 400000 in
theorem turned_any (x : UInt32) (i j k : Nat) (z1 z2 z3 : Int) (e1 : z1 = (i : Int)) (e2 : z2 = (j : Int)) (e3 : z3 = (k : Int)) (hi : 0 < i ∧ i < 32) (hj : 0 < j ∧ j < 32) (hk : 0 < k ∧ k < 32) (w : World) :
    Calls Tryd.prog 31 #[.int .u32 (vU x), .int .i64 z1, .int .i64 z2, .int .i64 z3] w fun e w' => e = .returned (.int .u32 (vU (sum3 x i j k))) ∧ w = w' := by
  subst e1 e2 e3
  obtain ⟨hi0, hi⟩ := hi
  obtain ⟨hj0, hj⟩ := hj
  obtain ⟨hk0, hk⟩ := hk
  have hx := vU_xor
  go_enter Tryd.func31, Tryd.ntmps31
  go_wp2_with fail
  refine (rotl_any x i _ (by omega) hi0 hi w).mono ?_
  rintro e w1 ⟨rfl, rfl⟩
  go_wp2_with fail
  refine (rotl_any x j _ (by omega) hj0 hj w).mono ?_
  rintro e w1 ⟨rfl, rfl⟩
  go_wp2_with fail
  refine (rotl_any x k _ (by omega) hk0 hk w).mono ?_
  rintro e w1 ⟨rfl, rfl⟩
  go_wp2_with fail
  go_ret
  exact ⟨ret_int (by unfold sum3; first | rfl | simp only [vU_xor]), rfl⟩

theorem zero8 : (Tryd.prog.info? 32).map (fun i => (i.zero, i.size)) = some (some (.agg #[.int .u32 0, .int .u32 0, .int .u32 0, .int .u32 0, .int .u32 0, .int .u32 0, .int .u32 0, .int .u32 0]), 8) := by kernel_rfl
def zeros64 : Array Value := (List.replicate 64 (Value.int .u32 0)).toArray
theorem zero64 : (Tryd.prog.info? 56).map (fun i => (i.zero, i.size)) = some (some (.agg zeros64), 64) := by kernel_rfl
def zeroBlk : Array Value := (List.replicate 64 (Value.int .u8 0)).toArray
theorem zeroB64 : (Tryd.prog.info? 53).map (fun i => (i.zero, i.size)) = some (some (.agg zeroBlk), 64) := by kernel_rfl
theorem zeroDig : (Tryd.prog.info? 34).map (fun i => (i.zero, i.size)) = some (some (.agg #[.int .u32 0, .int .u32 0, .int .u32 0, .int .u32 0, .int .u32 0, .int .u32 0, .int .u32 0, .int .u32 0, .int .i64 0, .slice none 0 0]), 10) := by kernel_rfl

def dzero : Array Value := #[.int .u32 0, .int .u32 0, .int .u32 0, .int .u32 0, .int .u32 0, .int .u32 0, .int .u32 0, .int .u32 0, .int .i64 0, .slice none 0 0]
/-- A digest's state as the code holds it. -/
def digV (s : St) (n : Int) (t : Value) : Array Value := #[vW s.a, vW s.b, vW s.c, vW s.d, vW s.e, vW s.f, vW s.g, vW s.h, .int .i64 n, t]
theorem digV_one (s : St) (n : Int) (a : Option Addr) (l c : Nat) : (digV s n (.slice a l c)).all (·.oneCell') = true := by
  unfold digV vW; simp [Value.oneCell']

theorem ret_row {P : Program} {fn : Func} {R : Ending → World → Prop} {a : Act} {w : World} {p : Tmp} {ty t : TypeId} {g : Nat} {cs : Array Value} {fr : Nat × Nat} {d : TypeDesc}
    (h : fn.results = #[.cell p ty]) (hd : a.defers = []) (hp : a.tmps.getD p undef = .pointer (some ⟨g, 0, none⟩)) (hg : w.heap[g]? = some (.cells cs t fr))
    (hu : P.underlying ty = some d) (hs : (match d with | .struct _ | .array _ _ => true | _ => false) = true) (hi : (P.info? ty).map (·.size) = some cs.size) (hR : R (.returned (.agg cs)) w) : bodyPost P fn R .ret a w :=
  bodyPost_ret (results_cell_row h _ _ g t cs fr d hp hg hu hs hi) hd hR

theorem initS_cells : initS.cells = #[.int .u32 1779033703, .int .u32 3144134277, .int .u32 1013904242, .int .u32 2773480762, .int .u32 1359893119, .int .u32 2600822924, .int .u32 528734635, .int .u32 1541459225] := by kernel_rfl
def kkV : Array Value := (kk.map vW).toArray
theorem kkV_eq : kkV = #[.int .u32 1116352408, .int .u32 1899447441, .int .u32 3049323471, .int .u32 3921009573, .int .u32 961987163, .int .u32 1508970993, .int .u32 2453635748, .int .u32 2870763221, .int .u32 3624381080, .int .u32 310598401, .int .u32 607225278, .int .u32 1426881987, .int .u32 1925078388, .int .u32 2162078206, .int .u32 2614888103, .int .u32 3248222580, .int .u32 3835390401, .int .u32 4022224774, .int .u32 264347078, .int .u32 604807628, .int .u32 770255983, .int .u32 1249150122, .int .u32 1555081692, .int .u32 1996064986, .int .u32 2554220882, .int .u32 2821834349, .int .u32 2952996808, .int .u32 3210313671, .int .u32 3336571891, .int .u32 3584528711, .int .u32 113926993, .int .u32 338241895, .int .u32 666307205, .int .u32 773529912, .int .u32 1294757372, .int .u32 1396182291, .int .u32 1695183700, .int .u32 1986661051, .int .u32 2177026350, .int .u32 2456956037, .int .u32 2730485921, .int .u32 2820302411, .int .u32 3259730800, .int .u32 3345764771, .int .u32 3516065817, .int .u32 3600352804, .int .u32 4094571909, .int .u32 275423344, .int .u32 430227734, .int .u32 506948616, .int .u32 659060556, .int .u32 883997877, .int .u32 958139571, .int .u32 1322822218, .int .u32 1537002063, .int .u32 1747873779, .int .u32 1955562222, .int .u32 2024104815, .int .u32 2227730452, .int .u32 2361852424, .int .u32 2428436474, .int .u32 2756734187, .int .u32 3204031479, .int .u32 3329325298] := by kernel_rfl

set_option maxHeartbeats 400000 in
theorem initial_any (w : World) :
    Calls Tryd.prog 20 #[] w fun e w' => e = .returned (.agg initS.cells) ∧ Below w.heap.size w w' := by
  go_enter Tryd.func20, Tryd.ntmps20
  go_wp2_with fail
  (try simp only [Exit.inBlock, Exit.then])
  exact ret_row rfl rfl rfl (heap_alloc_new _ _) Tryd.underlying32 rfl (by kernel_rfl) ⟨by rw [initS_cells], (Below.refl _ _).alloc (Nat.le_refl _) _⟩

section
variable {P : Program} {ops : Array Oper} {rest : List Oper} {o : Oper} {a : Act} {w : World} {Q : Exit → Act → World → Prop}
theorem wpList_build_to (hg : o.guard = none) (t : TypeId) (parts : Array (Nat × Operand)) (ho : o.op = .build t parts) {cells : Array Value}
    (hf : P.built t (parts.map fun (i, x) => (i, a.eval x)).toList = some cells) (h : wpList P ops Q rest (a.put o.dst (.agg cells)) w) : wpList P ops Q (o :: rest) a w :=
  wpList_build hg t parts ho (by rw [hf]; rfl) (by rw [hf]; exact h)
end
theorem kkV_size : kkV.size = 64 := by kernel_rfl
theorem kkV_one : kkV.all (·.oneCell') = true := by kernel_rfl
theorem zeros64_ne : ¬ zeros64 = #[] := by intro h; have := congrArg Array.size h; revert this; decide
theorem zeroBlk_ne : ¬ zeroBlk = #[] := by intro h; have := congrArg Array.size h; revert this; decide
theorem size64 : (Tryd.prog.info? 56).map (·.size) = some 64 := by kernel_rfl
theorem sizeB64 : (Tryd.prog.info? 53).map (·.size) = some 64 := by kernel_rfl
theorem size8 : (Tryd.prog.info? 32).map (·.size) = some 8 := by kernel_rfl
theorem sizeDig : (Tryd.prog.info? 34).map (·.size) = some 10 := by kernel_rfl

set_option maxRecDepth 100000 in
set_option maxHeartbeats 1000000 in
theorem constants_any (w : World) :
    Calls Tryd.prog 28 #[] w fun e w' => e = .returned (.agg kkV) ∧ Below w.heap.size w w' := by
  have hz := (zero_of_info (P := Tryd.prog) zero64).1
  have hne := zeros64_ne
  go_enter Tryd.func28, Tryd.ntmps28
  go_wp2_with (first
    | (refine wpList_build_to (cells := kkV) rfl 56 _ rfl (by kernel_rfl) ?_)
    | (refine wpList_store_row rfl 56 _ _ rfl w.heap.size kkV rfl rfl _ zeros64 (heap_alloc_new _ _) (by rw [kkV_size]; exact size64) rfl kkV_one ?_))
  (try simp only [Exit.inBlock, Exit.then])
  refine ret_row rfl rfl rfl (setRow_heap _ _ _ _ _ _ (heap_alloc_new _ _)) Tryd.underlying56 rfl (by rw [kkV_size]; exact size64) ⟨rfl, ?_⟩
  exact below_setRow ((Below.refl _ _).alloc (Nat.le_refl _) _) (Nat.le_refl _) _

/-- The cells cs lie at the beginning of block g. -/
def RowAt (w : World) (g : Nat) (cs : Array Value) : Prop := ∀ j v, cs.toList[j]? = some v → w.cell? ⟨g, j, none⟩ = some v
theorem RowAt.of {w : World} {g : Nat} {cs : Array Value} {t : TypeId} {fr : Nat × Nat} (h : w.heap[g]? = some (.cells cs t fr)) : RowAt w g cs := fun j v hj => by
  rw [cell_of_row w g j cs t fr h]; simpa using hj
theorem RowAt.keep {w w' : World} {g : Nat} {cs : Array Value} (h : RowAt w g cs) (hb : Below w.heap.size w w') : RowAt w' g cs := fun j v hj => below_cell hb (h j v hj)
section
variable {P : Program} {ops : Array Oper} {rest : List Oper} {o : Oper} {a : Act} {w : World} {Q : Exit → Act → World → Prop}
theorem run_loadVar_at (w : World) (g : Nat) (ty : TypeId) (cs : Array Value) (d : TypeDesc) (hg : RowAt w g cs)
    (hu : P.underlying ty = some d) (hd : (match d with | .struct _ | .array _ _ => true | _ => false) = true) (hi : (P.info? ty).map (·.size) = some cs.size) :
    (loadVar ty ⟨g, 0, none⟩).run P w = .ok (.agg cs) w := by
  have hl : (loadCells ⟨g, 0, none⟩ cs.toList.length).run P w = .ok cs.toList.toArray w :=
    run_loadCells_list (P := P) w ⟨g, 0, none⟩ cs.toList (fun j v hv => by
      have hadd : (⟨g, 0, none⟩ : Addr).add j = ⟨g, j, none⟩ := by unfold Addr.add; split <;> simp_all
      rw [hadd]
      exact hg j v hv)
  cases hq : P.info? ty with
  | none => simp [hq] at hi
  | some i =>
    have hs : i.size = cs.size := by simpa [hq] using hi
    have hagg : (isAgg ty).run P w = .ok true w := by
      unfold isAgg
      rw [Sem.run_bind, run_underlying hu w]
      cases d <;> simp_all
    simp only [Array.length_toList, Array.toArray_toList] at hl
    simp [loadVar, Sem.run_bind, hagg, sizeOf, typeInfo, hq, hs, hl]
theorem wpList_load_at (hgd : o.guard = none) (ty : TypeId) (x : Operand) (ho : o.op = .load ty x)
    (g : Nat) (hx : a.eval x = .pointer (some ⟨g, 0, none⟩)) (cs : Array Value) (d : TypeDesc) (hg : RowAt w g cs)
    (hu : P.underlying ty = some d) (hd : (match d with | .struct _ | .array _ _ => true | _ => false) = true) (hi : (P.info? ty).map (·.size) = some cs.size)
    (h : wpList P ops Q rest (a.put o.dst (.agg cs)) w) : wpList P ops Q (o :: rest) a w :=
  wpList_plain hgd fun K hK => by
    unfold Oper.wp execOp
    simp only [ho, hx, Instr.loadAt, Instr.sureAddr, Sem.run_bind, Sem.run_pure, Result.andThen_ok, run_loadVar_at w g ty cs d hg hu hd hi]
    exact hK _ _ h
end
theorem alloc_cell_keep {w : World} {g : Nat} {cs : Array Value} (h : RowAt w g cs) (o : Obj) : RowAt (w.alloc o) g cs := h.keep ((Below.refl _ _).alloc (Nat.le_refl _) _)

set_option maxHeartbeats 400000 in
theorem digStart_any (w : World) (hg : RowAt w 0 initS.cells) :
    Calls Tryd.prog 15 #[] w fun e w' => e = .returned (.agg (digV initS 0 (.slice none 0 0))) ∧ Below w.heap.size w w' := by
  have HG := Lib.hid (alloc_cell_keep hg (.cells #[.int .u32 0, .int .u32 0, .int .u32 0, .int .u32 0, .int .u32 0, .int .u32 0, .int .u32 0, .int .u32 0, .int .i64 0, .slice none 0 0] 34))
  clear hg
  have hsn := run_storeCells_new (P := Tryd.prog) w 34 #[.int .u32 0, .int .u32 0, .int .u32 0, .int .u32 0, .int .u32 0, .int .u32 0, .int .u32 0, .int .u32 0, .int .i64 0, .slice none 0 0] (digV initS 0 (.slice none 0 0)) sizeDig rfl (digV_one _ _ _ _ _)
  go_enter Tryd.func15, Tryd.ntmps15
  go_wp2_with (first
    | (refine wpList_load_at rfl 32 _ rfl _ rfl initS.cells _ HG.out Tryd.underlying32 rfl (by kernel_rfl) ?_)
    | (refine wpList_build_to (cells := digV initS 0 (.slice none 0 0)) rfl 34 _ rfl (by kernel_rfl) ?_))
  (try simp only [Exit.inBlock, Exit.then])
  exact ret_row (g := w.heap.size) (cs := digV initS 0 (.slice none 0 0)) rfl rfl rfl (heap_alloc_new _ _) Tryd.underlying34 rfl sizeDig ⟨rfl, (Below.refl _ _).alloc (Nat.le_refl _) _⟩
end Go.Proofs.YtpgppninmnplkaaDoor
