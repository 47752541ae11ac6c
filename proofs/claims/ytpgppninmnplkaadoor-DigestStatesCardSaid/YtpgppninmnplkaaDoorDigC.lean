/- One block, as the code reckons it. -/
import Derived.Test.YtpgppninmnplkaaDoorDigB
import Derived.Test.YtpgppninmnplkaaDoorDigSpec
namespace Go.Proofs.YtpgppninmnplkaaDoor
open Go.RowKit

theorem St.cells_list (s : St) : s.cells = wordsV s.list := rfl
/-- The words ws lie in block g, an array of eight. -/
def Eight (wr : World) (g : Nat) (ws : List UInt32) : Prop := wr.heap[g]? = some (.cells (wordsV ws) 32 (0, 0))
theorem Eight.cell {wr : World} {g : Nat} {ws : List UInt32} (h : Eight wr g ws) (j : Nat) (hj : j < ws.length) : wr.cell? ⟨g, j, none⟩ = some (.int .u32 (vU ws[j])) := by
  rw [cell_of_row _ _ _ _ _ _ h, wordsV_at _ _ hj]; rfl
theorem Eight.cell' {wr : World} {g : Nat} {ws : List UInt32} (h : Eight wr g ws) (j : Nat) {x : UInt32} (hx : ws[j]? = some x) : wr.cell? ⟨g, j, none⟩ = some (.int .u32 (vU x)) := by
  obtain ⟨hj, rfl⟩ := List.getElem?_eq_some_iff.1 hx
  exact h.cell j hj
theorem Eight.frozen {wr : World} {g : Nat} {ws : List UInt32} (h : Eight wr g ws) (j : Nat) : wr.frozen? ⟨g, j, none⟩ = false := frozen_of_row _ _ _ _ _ h
theorem Eight.set {wr : World} {g : Nat} {ws : List UInt32} (h : Eight wr g ws) (j : Nat) (x : UInt32) : Eight (wr.setCell ⟨g, j, none⟩ (.int .u32 (vU x))) g (ws.set j x) := by
  unfold Eight
  rw [heap_setCell_same _ _ _ _ _ _ h, ← wordsV_set]; rfl
theorem turned_still (x : UInt32) (i j k : Nat) (z1 z2 z3 : Int) (e1 : z1 = (i : Int)) (e2 : z2 = (j : Int)) (e3 : z3 = (k : Int)) (hi : 0 < i ∧ i < 32) (hj : 0 < j ∧ j < 32) (hk : 0 < k ∧ k < 32) (w : World) :
    Calls Tryd.prog 31 #[.int .u32 (vU x), .int .i64 z1, .int .i64 z2, .int .i64 z3] w fun e w' => e = .returned (.int .u32 (vU (sum3 x i j k))) ∧ w' = w :=
  (turned_any x i j k z1 z2 z3 e1 e2 e3 hi hj hk w).mono fun _ _ h => ⟨h.1, h.2.symm⟩
theorem vU_notx (x : UInt32) : bits .xor .u32 IntKind.u32.max (vU x) = vU (~~~x) := by
  have e : IntKind.u32.max = vU 4294967295 := by unfold vU; rfl
  rw [e, vU_xor]
  congr 1

theorem blk_size (b : List UInt8) (hb : b.length = 64) : (Tryd.prog.info? 53).map (·.size) = some (blkV b).size := by
  rw [show (blkV b).size = 64 by unfold blkV bytesV; simpa using hb]; exact sizeB64
theorem kk_len : kk.length = 64 := by decide
theorem wordsV_at' (ws : List UInt32) (n : Nat) (h : n < ws.length) : (wordsV ws)[n]? = some (.int .u32 (vU ws[n])) := wordsV_at ws n h
theorem kk_cell (n : Nat) (h : n < 64) {w : World} (hk : RowAt w 1 kkV) : w.cell? ⟨1, n, none⟩ = some (.int .u32 (vU (kk[n]'(by rw [kk_len]; exact h)))) := by
  refine hk n _ ?_
  have : kkV.toList[n]? = (kk.map vW)[n]? := by unfold kkV; rfl
  rw [this, List.getElem?_map, List.getElem?_eq_getElem (by rw [kk_len]; exact h)]; rfl
theorem kk_cell' (n : Nat) {x : UInt32} (h : kk[n]? = some x) {w : World} (hk : RowAt w 1 kkV) : w.cell? ⟨1, n, none⟩ = some (.int .u32 (vU x)) := by
  refine hk n _ ?_
  have : kkV.toList[n]? = (kk.map vW)[n]? := by unfold kkV; rfl
  rw [this, List.getElem?_map, h]; rfl
theorem rnd_next (ws : List UInt32) (s : St) (n : Nat) (xa xb xc xd xe xf xg xh : UInt32) (hl : n < ws.length) (hn : n < 64) (h : rnds kk ws s n = ⟨xa, xb, xc, xd, xe, xf, xg, xh⟩) :
    rnds kk ws s (n + 1) = ⟨xh + sum3 xe 6 11 25 + chS xe xf xg + kk[n]'(by rw [kk_len]; exact hn) + ws[n] + (sum3 xa 2 13 22 + majS xa xb xc), xa, xb, xc, xd + (xh + sum3 xe 6 11 25 + chS xe xf xg + kk[n]'(by rw [kk_len]; exact hn) + ws[n]), xe, xf, xg⟩ := by
  have e1 : kk.getD n 0 = kk[n]'(by rw [kk_len]; exact hn) := by rw [List.getD_eq_getElem?_getD, List.getElem?_eq_getElem (by rw [kk_len]; exact hn), Option.getD_some]
  have e2 : ws.getD n 0 = ws[n] := by rw [List.getD_eq_getElem?_getD, List.getElem?_eq_getElem hl, Option.getD_some]
  rw [rnds, h, e1, e2]; rfl
theorem infoU32 : (Tryd.prog.info? 31).map (fun i => (i.zero, i.size)) = some (some (.int .u32 0), 1) := by kernel_rfl
theorem sizeOf_u32 (W : World) : (sizeOf 31).run Tryd.prog W = .ok 1 W := by
  have h := infoU32
  cases hq : Tryd.prog.info? 31 with
  | none => simp [hq] at h
  | some i => simp [hq] at h; simp [sizeOf, typeInfo, hq, h]
theorem isAgg_u32 (W : World) : (isAgg 31).run Tryd.prog W = .ok false W := by
  unfold isAgg
  rw [Sem.run_bind, run_underlying Tryd.underlying31 W]; rfl
theorem run_index_u32 (W : World) (ty len : Nat) (V : Array Value) (n : Nat) (v : Value) (hu : Tryd.prog.underlying ty = some (.array len 31)) (hn : n < len) (hv : V[n]? = some v) :
    (Instr.index ty (.agg V) (.int .i64 (n : Int))).run Tryd.prog W = .ok v W := by
  have h1 : (0 : Int) ≤ (n : Int) ∧ (n : Int) < (len : Int) := ⟨by omega, by omega⟩
  simp only [Instr.index, asIntOf, Sem.run_bind, Sem.run_pure, Result.andThen_ok, run_underlying hu, h1, and_self, if_true, sizeOf_u32, part, isAgg_u32, Int.toNat_natCast, Nat.mul_one, hv]
  rfl
def z8 : Array Value := #[.int .u32 0, .int .u32 0, .int .u32 0, .int .u32 0, .int .u32 0, .int .u32 0, .int .u32 0, .int .u32 0]
/-- What is known of the world when the rounds begin: g the state's block, g + 2 the result's, k the words'. -/
def CompW (w W : World) (g k : Nat) (s : List UInt32) (ws : List UInt32) : Prop :=
  Eight W g s ∧ W.heap[g + 2]? = some (.cells z8 32 (0, 0)) ∧ W.heap[k]? = some (.cells (wordsV ws) 56 (0, 0)) ∧ RowAt W 1 kkV ∧ Below w.heap.size w W ∧ w.heap.size ≤ g ∧ g + 2 < W.heap.size
theorem comp_world0 (w : World) (s : List UInt32) (b : List UInt8) (hk : RowAt w 1 kkV) {W : World} (hW : W = ((w.alloc (.cells (wordsV s) 32)).alloc (.cells (blkV b) 53)).alloc (.cells z8 32)) :
    W.heap[w.heap.size + 1]? = some (.cells (blkV b) 53 (0, 0)) ∧ Eight W w.heap.size s ∧ W.heap[w.heap.size + 2]? = some (.cells z8 32 (0, 0)) ∧ RowAt W 1 kkV ∧ Below w.heap.size w W ∧ W.heap.size = w.heap.size + 3 := by
  subst hW
  have hs : (((w.alloc (.cells (wordsV s) 32)).alloc (.cells (blkV b) 53)).alloc (.cells z8 32)).heap.size = w.heap.size + 3 := by simp
  have hB : Below w.heap.size w (((w.alloc (.cells (wordsV s) 32)).alloc (.cells (blkV b) 53)).alloc (.cells z8 32)) :=
    (((Below.refl _ _).alloc (Nat.le_refl _) _).alloc (by simp) _).alloc (by rw [World.size_alloc, World.size_alloc]; omega) _
  refine ⟨?_, ?_, ?_, hk.keep hB, hB, hs⟩
  · rw [(Below.alloc (Below.refl _ _) (Nat.le_refl _) _).block (w.heap.size + 1) (by simp)]
    have := heap_alloc_new (w.alloc (.cells (wordsV s) 32)) (.cells (blkV b) 53)
    simpa using this
  · unfold Eight
    rw [(Below.alloc (Below.refl _ _) (Nat.le_refl _) _).block w.heap.size (by simp; omega), (Below.alloc (Below.refl _ _) (Nat.le_refl _) _).block w.heap.size (by simp)]
    exact heap_alloc_new _ _
  · have := heap_alloc_new ((w.alloc (.cells (wordsV s) 32)).alloc (.cells (blkV b) 53)) (.cells z8 32)
    simpa using this
theorem comp_world1 {w W0 w1 W : World} {s ws : List UInt32} (h2 : Eight W0 w.heap.size s) (h3 : W0.heap[w.heap.size + 2]? = some (.cells z8 32 (0, 0))) (h4 : RowAt W0 1 kkV) (h5 : Below w.heap.size w W0)
    (h6 : W0.heap.size = w.heap.size + 3) (hb : Below W0.heap.size W0 w1) (hW : W = (w1.alloc (.cells zeros64 56)).setRow w1.heap.size (wordsV ws)) :
    CompW w W w.heap.size w1.heap.size s ws := by
  subst hW
  have hB : Below w1.heap.size w1 ((w1.alloc (.cells zeros64 56)).setRow w1.heap.size (wordsV ws)) := below_setRow ((Below.refl _ _).alloc (Nat.le_refl _) _) (Nat.le_refl _) _
  have hB2 := below_trans hb hB
  have hs1 := hb.size
  refine ⟨?_, ?_, setRow_heap _ _ _ _ _ _ (heap_alloc_new _ _), h4.keep hB2, h5.trans (hB2.mono (by omega)), Nat.le_refl _, ?_⟩
  · unfold Eight
    rw [hB2.block _ (by omega)]; exact h2
  · rw [hB2.block _ (by omega)]; exact h3
  · have := hB.size
    omega
theorem CompW.keep {w W W' : World} {g k : Nat} {s ws : List UInt32} (h : CompW w W g k s ws) (hb : Below W.heap.size W W') : CompW w W' g k s ws := by
  obtain ⟨h1, h2, h3, h4, h5, h6, h7⟩ := h
  have hk : k < W.heap.size := by
    rcases Nat.lt_or_ge k W.heap.size with h | h
    · exact h
    · rw [Array.getElem?_eq_none h] at h3; cases h3
  refine ⟨?_, ?_, ?_, h4.keep hb, h5.trans (hb.mono h5.size), h6, by have := hb.size; omega⟩
  · unfold Eight; rw [hb.block _ (by omega)]; exact h1
  · rw [hb.block _ (by omega)]; exact h2
  · rw [hb.block _ hk]; exact h3
theorem CompW.drawn {w W : World} {g k : Nat} {s ws : List UInt32} (h : CompW w W g k s ws) (n : Nat) : CompW w (W.drewN n) g k s ws := h.keep ⟨rfl, rfl, rfl, Nat.le_refl _, fun _ _ => rfl⟩
theorem CompW.drew1 {w W : World} {g k : Nat} {s ws : List UInt32} (h : CompW w W g k s ws) : CompW w { W with drawn := W.drawn + 1 } g k s ws := h.drawn 1

/-- The last loop: the first m words are the sums. -/
def mix8 (l r : List UInt32) (m : Nat) : List UInt32 := (List.zipWith (· + ·) l r).take m ++ l.drop m
def Fin8 (w wr : World) (g : Nat) (l : List UInt32) : Prop :=
  Eight wr g l ∧ wr.heap[g + 2]? = some (.cells z8 32 (0, 0)) ∧ Below w.heap.size w wr ∧ w.heap.size ≤ g
theorem mix8_len {a0 b0 c0 d0 e0 f0 g0 h0 xa xb xc xd xe xf xg xh : UInt32} {m : Nat} : (mix8 [a0, b0, c0, d0, e0, f0, g0, h0] [xa, xb, xc, xd, xe, xf, xg, xh] m).length = 8 := by
  unfold mix8; simp; omega
theorem mix8_at {l r : List UInt32} {m : Nat} (h1 : l.length = 8) (h2 : r.length = 8) (hm : m < 8) : (mix8 l r m)[m]? = some l[m] := by
  have e : ((List.zipWith (· + ·) l r).take m).length = m := by simp [h1, h2]; omega
  unfold mix8
  rw [List.getElem?_append_right (by omega), e, Nat.sub_self, List.getElem?_drop, Nat.add_zero, List.getElem?_eq_getElem (by omega)]
theorem mix8_set {l r : List UInt32} {m : Nat} (h1 : l.length = 8) (h2 : r.length = 8) (hm : m < 8) : (mix8 l r m).set m (l[m] + r[m]) = mix8 l r (m + 1) := by
  have e : ((List.zipWith (· + ·) l r).take m).length = m := by simp [h1, h2]; omega
  have d : l.drop m = l[m] :: l.drop (m + 1) := List.drop_eq_getElem_cons (by omega)
  unfold mix8
  rw [List.take_succ_eq_append_getElem (by simp; omega), d, List.set_append_right _ _ (by omega), e, Nat.sub_self, List.set_cons_zero, List.getElem_zipWith]
  simp
theorem size8' (s : St) : (Tryd.prog.info? 32).map (·.size) = some (wordsV s.list).size := by rw [wordsV_size]; exact size8
theorem z8_size (s : St) : z8.size = (wordsV s.list).size := by rw [wordsV_size]; rfl
theorem Fin8.next {w wr : World} {g : Nat} {l r : List UInt32} {m : Nat} (h : Fin8 w wr g (mix8 l r m)) (h1 : l.length = 8) (h2 : r.length = 8) (hm : m < 8) (x : UInt32) (hx : x = l[m] + r[m]) : Fin8 w (wr.setCell ⟨g, m, none⟩ (.int .u32 (vU x))) g (mix8 l r (m + 1)) := by
  subst hx
  refine ⟨?_, ?_, h.2.2.1.setCell (p := ⟨g, m, none⟩) h.2.2.2 _, h.2.2.2⟩
  · rw [← mix8_set h1 h2 hm]; exact h.1.set m _
  · rw [heap_setCell_other _ _ _ _ (by simp)]; exact h.2.1
theorem mix8_end {w wr : World} {g : Nat} {a0 b0 c0 d0 e0 f0 g0 h0 xa xb xc xd xe xf xg xh : UInt32} {b : List UInt8} (h : Fin8 w wr g (mix8 [a0, b0, c0, d0, e0, f0, g0, h0] [xa, xb, xc, xd, xe, xf, xg, xh] 8))
    (he : rnds kk (sched b) ⟨a0, b0, c0, d0, e0, f0, g0, h0⟩ 64 = ⟨xa, xb, xc, xd, xe, xf, xg, xh⟩) : Fin8 w wr g (blockS ⟨a0, b0, c0, d0, e0, f0, g0, h0⟩ b).list := by
  have : (blockS ⟨a0, b0, c0, d0, e0, f0, g0, h0⟩ b).list = mix8 [a0, b0, c0, d0, e0, f0, g0, h0] [xa, xb, xc, xd, xe, xf, xg, xh] 8 := by
    unfold blockS; rw [he]; rfl
  rw [this]; exact h

set_option maxRecDepth 100000 in
set_option maxHeartbeats 600000 in
theorem compress_core (a0 b0 c0 d0 e0 f0 g0 h0 : UInt32) (b : List UInt8) (hb : b.length = 64) (w : World) (hk : RowAt w 1 kkV) :
    Calls Tryd.prog 24 #[.agg #[.int .u32 (vU a0), .int .u32 (vU b0), .int .u32 (vU c0), .int .u32 (vU d0), .int .u32 (vU e0), .int .u32 (vU f0), .int .u32 (vU g0), .int .u32 (vU h0)], .agg (blkV b)] w
      fun e w' => e = .returned (.agg (blockS ⟨a0, b0, c0, d0, e0, f0, g0, h0⟩ b).cells) ∧ Below w.heap.size w w' := by
  have HK := Lib.hid hk
  clear hk
  have hz := (zero_of_info (P := Tryd.prog) zero64).1
  have hne := zeros64_ne
  obtain ⟨W0, hW0⟩ : ∃ W0, W0 = ((w.alloc (.cells (wordsV [a0, b0, c0, d0, e0, f0, g0, h0]) 32)).alloc (.cells (blkV b) 53)).alloc (.cells z8 32) := ⟨_, rfl⟩
  have H0 := Lib.hid (comp_world0 w [a0, b0, c0, d0, e0, f0, g0, h0] b HK.out hW0)
  have HW0 := Lib.hid hW0
  clear hW0
  go_enter Tryd.func24, Tryd.ntmps24
  go_wp2_with (refine wpList_load_row rfl 53 _ rfl (w.heap.size + 1) rfl 53 (blkV b) (0, 0) _ (HW0.out ▸ H0.out.1) Tryd.underlying53 rfl (blk_size b hb) ?_)
  refine (schedule_any b hb _).mono ?_
  rintro e w1 ⟨rfl, hb1⟩
  have HB1 : Hid (Below W0.heap.size W0 w1) := Lib.hid (by rw [HW0.out]; exact hb1)
  clear hb1 HW0
  go_wp2_with (refine wpList_store_row rfl 56 _ _ rfl w1.heap.size (wordsV (sched b)) rfl rfl 56 zeros64 (heap_alloc_new _ _) (sched_size b) (sched_size' b) (wordsV_one _) ?_)
  obtain ⟨W, hW⟩ : ∃ W, W = (w1.alloc (.cells zeros64 56)).setRow w1.heap.size (wordsV (sched b)) := ⟨_, rfl⟩
  have HC := Lib.hid (comp_world1 H0.out.2.1 H0.out.2.2.1 H0.out.2.2.2.1 H0.out.2.2.2.2.1 H0.out.2.2.2.2.2 HB1.out hW)
  rw [← hW]
  clear hW HB1 H0 hz hne HK
  generalize w1.heap.size = k at *
  obtain ⟨g, HG⟩ : ∃ g, Box (w.heap.size = g) := ⟨_, ⟨rfl⟩⟩
  rw [show w.heap.size = g from HG.out] at HC ⊢
  have hc0 := HC.out.1.cell 0 (by simp)
  have hc1 := HC.out.1.cell 1 (by simp)
  have hc2 := HC.out.1.cell 2 (by simp)
  have hc3 := HC.out.1.cell 3 (by simp)
  have hc4 := HC.out.1.cell 4 (by simp)
  have hc5 := HC.out.1.cell 5 (by simp)
  have hc6 := HC.out.1.cell 6 (by simp)
  have hc7 := HC.out.1.cell 7 (by simp)
  simp only [List.getElem_cons_zero, List.getElem_cons_succ] at hc0 hc1 hc2 hc3 hc4 hc5 hc6 hc7
  go_quiet (fail)
  clear hc0 hc1 hc2 hc3 hc4 hc5 hc6 hc7
  have HC1 := Lib.hid (HC.out.drawn nq)
  generalize W.drewN nq = W1 at *
  go_wp2_with (refine wpList_load_row rfl 56 _ rfl k rfl 56 (wordsV (sched b)) (0, 0) _ HC1.out.2.2.1 Tryd.underlying56 rfl (sched_size b) ?_)
  obtain ⟨ws, HWS, hwl⟩ : ∃ ws, Box (sched b = ws) ∧ ws.length = 64 := ⟨_, ⟨rfl⟩, sched_len b⟩
  obtain ⟨V, HV⟩ : ∃ V, Box (wordsV ws = V) := ⟨_, ⟨rfl⟩⟩
  rw [show sched b = ws from HWS.out, show wordsV ws = V from HV.out]
  have HC2 : Hid (CompW w W1 g k [a0, b0, c0, d0, e0, f0, g0, h0] ws) := by rw [← HWS.out]; exact HC1
  clear HC HC1
  go_loopw [6, 7, 8, 9, 10, 11, 12, 13, 41] (fun va vb vc vd ve vf vg vh i wr => ∃ (n : Nat) (xa xb xc xd xe xf xg xh : UInt32), n ≤ 64 ∧ i = .int .i64 n ∧ va = .int .u32 (vU xa) ∧ vb = .int .u32 (vU xb) ∧ vc = .int .u32 (vU xc) ∧ vd = .int .u32 (vU xd) ∧ ve = .int .u32 (vU xe) ∧ vf = .int .u32 (vU xf) ∧ vg = .int .u32 (vU xg) ∧ vh = .int .u32 (vU xh) ∧
    Box (rnds kk ws ⟨a0, b0, c0, d0, e0, f0, g0, h0⟩ n = ⟨xa, xb, xc, xd, xe, xf, xg, xh⟩ ∧ CompW w wr g k [a0, b0, c0, d0, e0, f0, g0, h0] ws)) (fun _ _ _ _ _ _ _ _ i _ => 64 - (intOf i).toNat)
  case atStart => exact ⟨0, a0, b0, c0, d0, e0, f0, g0, h0, Nat.zero_le _, rfl, rfl, rfl, rfl, rfl, rfl, rfl, rfl, rfl, ⟨rfl, HC2.out⟩⟩
  case round =>
    clear HC2
    obtain ⟨n, xa, xb, xc, xd, xe, xf, xg, xh, hn, rfl, rfl, rfl, rfl, rfl, rfl, rfl, rfl, rfl, HM⟩ := hrel
    by_cases hlt : n < 64
    · have HN := Box.mk (rnd_next ws _ n _ _ _ _ _ _ _ _ (by omega) hlt HM.out.1)
      have hwc := wordsV_at' ws n (by omega)
      rw [HV.out] at hwc
      have hix := fun W => run_index_u32 W 56 64 V n _ Tryd.underlying56 hlt hwc
      clear hwc
      have hkc := kk_cell n hlt HM.out.2.2.2.2.1
      have HC3 := Box.mk HM.out.2
      have HE := Box.mk (List.getElem?_eq_getElem (by rw [kk_len]; exact hlt : n < kk.length))
      generalize ws[n] = xw at *
      generalize kk[n]'(by rw [kk_len]; exact hlt) = xk at *
      have ha := vU_add'
      have ha' := vU_add
      have hx := vU_xor
      have hy := vU_and
      have hnot := vU_notx
      clear HM hkc
      go_wp2_with fail
      have HC4 := Box.mk HC3.out.drew1
      refine wp_region_still_lit (by kernel_rfl) (by kernel_rfl) ?_
      generalize ({ wr with drawn := wr.drawn + 1 } : World) = W2 at *
      have hkc := kk_cell' n HE.out HC4.out.2.2.2.1
      repeat still_step
      still_call (turned_still xe 6 11 25 6 11 25 rfl rfl rfl (by decide) (by decide) (by decide) _)
      repeat still_step
      refine wpStill_nil ?_
      clear hkc
      go_wp2_with fail
      refine (turned_any xa 2 13 22 2 13 22 rfl rfl rfl (by decide) (by decide) (by decide) W2).mono ?_
      rintro e w2 ⟨rfl, rfl⟩
      go_wp2_with fail
      go_roundw
      case rel => exact ⟨n + 1, _, _, _, _, _, _, _, _, by omega, by go_num, rfl, rfl, rfl, rfl, rfl, rfl, rfl, rfl, ⟨HN.out, HC4.out⟩⟩
      case measure => simp [intOf]; omega
    · have HE := Box.mk (show rnds kk (sched b) ⟨a0, b0, c0, d0, e0, f0, g0, h0⟩ 64 = ⟨xa, xb, xc, xd, xe, xf, xg, xh⟩ by rw [HWS.out, ← HM.out.1, show n = 64 by omega])
      have HF : Box (Fin8 w wr g (mix8 [a0, b0, c0, d0, e0, f0, g0, h0] [xa, xb, xc, xd, xe, xf, xg, xh] 0)) := ⟨HM.out.2.1, HM.out.2.2.1, HM.out.2.2.2.2.2.1, HM.out.2.2.2.2.2.2.1⟩
      clear HM HWS HV hwl
      go_wp2_with fail
      go_loopw [102] (fun i wr => ∃ m : Nat, m ≤ 8 ∧ i = .int .i64 m ∧ Box (Fin8 w wr g (mix8 [a0, b0, c0, d0, e0, f0, g0, h0] [xa, xb, xc, xd, xe, xf, xg, xh] m))) (fun i _ => 8 - (intOf i).toNat)
      case atStart => exact ⟨0, Nat.zero_le _, rfl, HF⟩
      case round =>
        clear HF
        obtain ⟨m, hm, rfl, HM⟩ := hrel
        by_cases hmt : m < 8
        · have hix := fun W => run_index_u32 W 32 8 (wordsV [xa, xb, xc, xd, xe, xf, xg, xh]) m _ Tryd.underlying32 hmt (wordsV_at' [xa, xb, xc, xd, xe, xf, xg, xh] m hmt)
          change ∀ W, (Instr.index 32 (.agg #[.int .u32 (vU xa), .int .u32 (vU xb), .int .u32 (vU xc), .int .u32 (vU xd), .int .u32 (vU xe), .int .u32 (vU xf), .int .u32 (vU xg), .int .u32 (vU xh)]) _).run _ W = _ at hix
          have hf := HM.out.1.frozen m
          have HN := Box.mk (fun x hx => HM.out.next (l := [a0, b0, c0, d0, e0, f0, g0, h0]) (r := [xa, xb, xc, xd, xe, xf, xg, xh]) rfl rfl hmt x hx)
          have hc := HM.out.1.cell' m (mix8_at (l := [a0, b0, c0, d0, e0, f0, g0, h0]) (r := [xa, xb, xc, xd, xe, xf, xg, xh]) rfl rfl hmt)
          generalize [a0, b0, c0, d0, e0, f0, g0, h0][m]'hmt = x0 at *
          generalize [xa, xb, xc, xd, xe, xf, xg, xh][m]'hmt = x1 at *
          have ha := vU_add'
          have ha' := vU_add
          clear HM
          go_wp2_with fail
          go_roundw
          case rel => exact ⟨m + 1, by omega, by go_num, ⟨HN.out _ rfl⟩⟩
          case measure => simp [intOf]; omega
        · obtain ⟨sb, HS⟩ : ∃ sb, Box (blockS ⟨a0, b0, c0, d0, e0, f0, g0, h0⟩ b = sb) := ⟨_, ⟨rfl⟩⟩
          have HN := Box.mk (show Fin8 w wr g sb.list by have := HM.out; rw [show m = 8 by omega] at this; rw [← HS.out]; exact mix8_end this HE.out)
          clear HM HE
          go_wp2_with (first
            | (refine wpList_load_row rfl 32 _ rfl g rfl 32 _ (0, 0) _ HN.out.1 Tryd.underlying32 rfl (size8' sb) ?_)
            | (refine wpList_store_row rfl 32 _ _ rfl (g + 2) _ rfl rfl 32 z8 HN.out.2.1 (size8' sb) (z8_size sb) (wordsV_one _) ?_))
          refine ret_row rfl rfl rfl (setRow_heap _ _ _ _ _ _ HN.out.2.1) Tryd.underlying32 rfl (size8' sb) ⟨?_, ?_⟩
          · rw [HS.out]; rfl
          · exact below_setRow HN.out.2.2.1 (by have := HN.out.2.2.2; omega) _
theorem compress_any (s : St) (b : List UInt8) (hb : b.length = 64) (w : World) (hk : RowAt w 1 kkV) :
    Calls Tryd.prog 24 #[.agg s.cells, .agg (blkV b)] w fun e w' => e = .returned (.agg (blockS s b).cells) ∧ Below w.heap.size w w' := by
  obtain ⟨a0, b0, c0, d0, e0, f0, g0, h0⟩ := s
  exact compress_core a0 b0 c0 d0 e0 f0 g0 h0 b hb w hk
end Go.Proofs.YtpgppninmnplkaaDoor
