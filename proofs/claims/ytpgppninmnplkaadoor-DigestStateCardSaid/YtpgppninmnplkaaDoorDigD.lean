/- One block, as the reference reckons it. -/
import Derived.Test.YtpgppninmnplkaaDoorDigC
import Derived.Test.YtpgppninmnplkaaDoorDigR
namespace Go.Proofs.YtpgppninmnplkaaDoor
open Go.RowKit

theorem w4_ref (c0 c1 c2 c3 : UInt8) : w4 [c0, c1, c2, c3] = c0.toUInt32 <<< 24 ||| c1.toUInt32 <<< 16 ||| c2.toUInt32 <<< 8 ||| c3.toUInt32 := by
  unfold w4
  simp only [List.foldl_cons, List.foldl_nil]
  apply UInt32.eq_of_toBitVec_eq
  simp only [UInt32.toBitVec_or, UInt32.toBitVec_shiftLeft]
  rw [show (8 : UInt32).toBitVec % 32 = 8#32 by decide, show (16 : UInt32).toBitVec % 32 = 16#32 by decide, show (24 : UInt32).toBitVec % 32 = 24#32 by decide, show (0 : UInt32).toBitVec = 0#32 by decide]
  generalize c0.toUInt32.toBitVec = x0
  generalize c1.toUInt32.toBitVec = x1
  generalize c2.toUInt32.toBitVec = x2
  generalize c3.toUInt32.toBitVec = x3
  simp only [BitVec.shiftLeft_eq', BitVec.toNat_ofNat, Nat.reducePow, Nat.reduceMod, BitVec.shiftLeft_or_distrib, ← BitVec.shiftLeft_add, Nat.reduceAdd]
  simp
theorem vU_byte' (c : UInt8) : ((c.toNat : Nat) : Int) % (4294967296 : Int) = vU c.toUInt32 := by
  have : ((c.toNat : Nat) : Int) % (4294967296 : Int) = (c.toNat : Nat) := by have := c.toNat_lt; omega
  rw [this, vU_byte]
theorem vU_shl16 (x : UInt32) : vU x * (65536 : Int) % (4294967296 : Int) = vU (x <<< 16) := vU_shl' x 16 (by decide)
theorem vU_shl24 (x : UInt32) : vU x * (16777216 : Int) % (4294967296 : Int) = vU (x <<< 24) := vU_shl' x 24 (by decide)
theorem ref_idx (k : Nat) (hk : k < 16) : ∃ k0 k1 k2 k3 : Nat, Box (4 * k = k0 ∧ 4 * k + 1 = k1 ∧ 4 * k + 2 = k2 ∧ 4 * k + 3 = k3) ∧ IntKind.i64.wrap (4 * (k : Int)) = k0 ∧ IntKind.i64.wrap ((k0 : Int) + 1) = k1 ∧
    IntKind.i64.wrap ((k0 : Int) + 2) = k2 ∧ IntKind.i64.wrap ((k0 : Int) + 3) = k3 ∧ (k0 : Int) < 64 ∧ (k1 : Int) < 64 ∧ (k2 : Int) < 64 ∧ (k3 : Int) < 64 ∧ (k : Int) < 64 := by
  refine ⟨4 * k, 4 * k + 1, 4 * k + 2, 4 * k + 3, ⟨rfl, rfl, rfl, rfl⟩, ?_, ?_, ?_, ?_, by omega, by omega, by omega, by omega, by omega⟩
  all_goals (simp only [IntKind.wrap, IntKind.bits, IntKind.signed]; simp; omega)

theorem ref_world0 (w : World) (s : List UInt32) {W : World} (hW : W = ((w.alloc (.cells (wordsV s) 32)).alloc (.cells z8 32)).alloc (.cells zeros64 56)) :
    Eight W w.heap.size s ∧ W.heap[w.heap.size + 1]? = some (.cells z8 32 (0, 0)) ∧ Words W W (w.heap.size + 2) (List.replicate 64 0) ∧ Below w.heap.size w W ∧ W.heap.size = w.heap.size + 3 := by
  subst hW
  have hs : (((w.alloc (.cells (wordsV s) 32)).alloc (.cells z8 32)).alloc (.cells zeros64 56)).heap.size = w.heap.size + 3 := by simp
  have hB : Below w.heap.size w (((w.alloc (.cells (wordsV s) 32)).alloc (.cells z8 32)).alloc (.cells zeros64 56)) :=
    (((Below.refl _ _).alloc (Nat.le_refl _) _).alloc (by simp) _).alloc (by rw [World.size_alloc, World.size_alloc]; omega) _
  refine ⟨?_, ?_, ⟨?_, Below.refl _ _⟩, hB, hs⟩
  · unfold Eight
    rw [(Below.alloc (Below.refl _ _) (Nat.le_refl _) _).block w.heap.size (by simp; omega), (Below.alloc (Below.refl _ _) (Nat.le_refl _) _).block w.heap.size (by simp)]
    exact heap_alloc_new _ _
  · rw [(Below.alloc (Below.refl _ _) (Nat.le_refl _) _).block (w.heap.size + 1) (by simp)]
    have := heap_alloc_new (w.alloc (.cells (wordsV s) 32)) (.cells z8 32)
    simpa using this
  · rw [← wordsV_zeros]
    have := heap_alloc_new ((w.alloc (.cells (wordsV s) 32)).alloc (.cells z8 32)) (.cells zeros64 56)
    simpa using this
theorem ref_first (b : List UInt8) (ws : List UInt32) (k k0 k1 k2 k3 : Nat) (hK : 4 * k = k0 ∧ 4 * k + 1 = k1 ∧ 4 * k + 2 = k2 ∧ 4 * k + 3 = k3) (hb : b.length = 64) (hk : k < 16) (hl : ws.length = 64) (h1 : ws.take k = (sch16 b).take k)
    (h0 : k0 < b.length) (h1' : k1 < b.length) (h2 : k2 < b.length) (h3 : k3 < b.length) :
    ∀ y, y = b[k0].toUInt32 <<< 24 ||| b[k1].toUInt32 <<< 16 ||| b[k2].toUInt32 <<< 8 ||| b[k3].toUInt32 → (ws.set k y).take (k + 1) = (sch16 b).take (k + 1) ∧ (ws.set k y).length = 64 := by
  rintro y rfl
  obtain ⟨rfl, rfl, rfl, rfl⟩ := hK
  refine ⟨sch_take b _ k hk (by simpa using hl) (by rw [List.take_set_of_le (Nat.le_refl _)]; exact h1) ?_, by simpa using hl⟩
  rw [List.getD_eq_getElem?_getD, List.getElem?_set_self (by omega), Option.getD_some, ← w4_ref]
  congr 1
  apply List.ext_getElem
  · simp; omega
  · intro j hj1 hj2
    simp only [List.length_cons, List.length_nil] at hj1
    rw [List.getElem_take, List.getElem_drop]
    match j, hj1 with
    | 0, _ => rfl
    | 1, _ => rfl
    | 2, _ => rfl
    | 3, _ => rfl
theorem next_comm (a b c d : UInt32) : a + c + b + d = a + b + c + d := by rw [UInt32.add_assoc a b c, UInt32.add_comm b c, ← UInt32.add_assoc]
theorem cell_below {B : Nat} {w w' : World} (h : Below B w w') {a : Addr} (ha : a.block < B) : w'.cell? a = w.cell? a := by
  simp only [World.cell?]; rw [h.block _ ha]

/-- All blocks but p are as they were. -/
structure But (p : Nat) (W wr : World) : Prop where
  os : wr.os = W.os
  tape : wr.tape = W.tape
  output : wr.output = W.output
  size : W.heap.size ≤ wr.heap.size
  block : ∀ k, k ≠ p → wr.heap[k]? = W.heap[k]?
theorem But.refl (p : Nat) (W : World) : But p W W := ⟨rfl, rfl, rfl, Nat.le_refl _, fun _ _ => rfl⟩
theorem But.setRow {p : Nat} {W wr : World} (h : But p W wr) (cs : Array Value) : But p W (wr.setRow p cs) :=
  ⟨h.os, h.tape, h.output, by rw [setRow_size]; exact h.size, fun k hk => by rw [setRow_other _ _ _ _ hk]; exact h.block k hk⟩
theorem But.drawn {p : Nat} {W wr : World} (h : But p W wr) (n : Nat) : But p W (wr.drewN n) := ⟨h.os, h.tape, h.output, h.size, h.block⟩
/-- The rounds of the reference: v in block p, k in block q, the state in block g, the result in g + 1, the words in g + 2. -/
def RefW (w W1 : World) (g p q : Nat) (s ws : List UInt32) (wr : World) (v : List UInt32) : Prop :=
  Eight wr p v ∧ But p W1 wr ∧ g + 2 < p ∧ W1.heap[q]? = some (.cells kkV 56 (0, 0)) ∧ p ≠ q ∧ Eight W1 g s ∧ W1.heap[g + 1]? = some (.cells z8 32 (0, 0)) ∧ W1.heap[g + 2]? = some (.cells (wordsV ws) 56 (0, 0)) ∧
    Below w.heap.size w W1 ∧ w.heap.size ≤ g ∧ g + 2 < W1.heap.size
theorem RefW.kk {w W1 wr : World} {g p q : Nat} {s ws v : List UInt32} (h : RefW w W1 g p q s ws wr v) (n : Nat) {x : UInt32} (hx : kk[n]? = some x) : wr.cell? ⟨q, n, none⟩ = some (.int .u32 (vU x)) := by
  have hb := (h.2.1.block q (Ne.symm h.2.2.2.2.1)).trans h.2.2.2.1
  rw [cell_of_row _ _ _ _ _ _ hb]
  unfold kkV
  rw [List.getElem?_toArray, List.getElem?_map, hx]; rfl
theorem RefW.word {w W1 wr : World} {g p q : Nat} {s ws v : List UInt32} (h : RefW w W1 g p q s ws wr v) (n : Nat) {x : UInt32} (hx : ws[n]? = some x) : wr.cell? ⟨g + 2, n, none⟩ = some (.int .u32 (vU x)) := by
  have hb := (h.2.1.block (g + 2) (by have := h.2.2.1; omega)).trans h.2.2.2.2.2.2.2.1
  rw [cell_of_row _ _ _ _ _ _ hb]
  unfold wordsV
  rw [List.getElem?_toArray, List.getElem?_map, hx]; rfl
theorem RefW.drawn {w W1 wr : World} {g p q : Nat} {s ws v : List UInt32} (h : RefW w W1 g p q s ws wr v) (n : Nat) : RefW w W1 g p q s ws (wr.drewN n) v := ⟨h.1, h.2.1.drawn n, h.2.2⟩
theorem RefW.setRow {w W1 wr : World} {g p q : Nat} {s ws v : List UInt32} (h : RefW w W1 g p q s ws wr v) (v' : List UInt32) : RefW w W1 g p q s ws (wr.setRow p (wordsV v')) v' :=
  ⟨setRow_heap _ _ _ _ _ _ h.1, h.2.1.setRow _, h.2.2⟩
/-- The last loop of the reference. -/
def FinR (w wr : World) (g p : Nat) (s v : List UInt32) (m : Nat) : Prop :=
  Eight wr g (mix8 s v m) ∧ Eight wr p v ∧ wr.heap[g + 1]? = some (.cells z8 32 (0, 0)) ∧ Below w.heap.size w wr ∧ w.heap.size ≤ g ∧ g + 2 < p
theorem RefW.fin {w W1 wr : World} {g p q : Nat} {s ws v : List UInt32} (h : RefW w W1 g p q s ws wr v) : FinR w wr g p s v 0 := by
  have hp := h.2.2.1
  refine ⟨(h.2.1.block g (by omega)).trans h.2.2.2.2.2.1, h.1, (h.2.1.block (g + 1) (by omega)).trans h.2.2.2.2.2.2.1, ?_, h.2.2.2.2.2.2.2.2.2.1, hp⟩
  have hb := h.2.2.2.2.2.2.2.2.1
  have hg := h.2.2.2.2.2.2.2.2.2.1
  exact ⟨h.2.1.os.trans hb.os, h.2.1.tape.trans hb.tape, h.2.1.output.trans hb.output, Nat.le_trans hb.size h.2.1.size, fun k hk => (h.2.1.block k (by omega)).trans (hb.block k hk)⟩
theorem FinR.drawn {w wr : World} {g p : Nat} {s v : List UInt32} {m : Nat} (h : FinR w wr g p s v m) (n : Nat) : FinR w (wr.drewN n) g p s v m :=
  ⟨h.1, h.2.1, h.2.2.1, ⟨h.2.2.2.1.os, h.2.2.2.1.tape, h.2.2.2.1.output, h.2.2.2.1.size, h.2.2.2.1.block⟩, h.2.2.2.2⟩
theorem FinR.next {w wr : World} {g p : Nat} {s v : List UInt32} {m : Nat} (h : FinR w wr g p s v m) (h1 : s.length = 8) (h2 : v.length = 8) (hm : m < 8) (x : UInt32) (hx : x = s[m] + v[m]) : FinR w (wr.setCell ⟨g, m, none⟩ (.int .u32 (vU x))) g p s v (m + 1) := by
  subst hx
  have hp := h.2.2.2.2.2
  refine ⟨?_, ?_, ?_, h.2.2.2.1.setCell (p := ⟨g, m, none⟩) h.2.2.2.2.1 _, h.2.2.2.2⟩
  · rw [← mix8_set h1 h2 hm]; exact h.1.set m _
  · unfold Eight; rw [heap_setCell_other _ _ _ _ (by show p ≠ g; omega)]; exact h.2.1
  · rw [heap_setCell_other _ _ _ _ (by show g + 1 ≠ g; omega)]; exact h.2.2.1
theorem mix8_end' {wr : World} {g : Nat} {a0 b0 c0 d0 e0 f0 g0 h0 xa xb xc xd xe xf xg xh : UInt32} {b : List UInt8} (h : Eight wr g (mix8 [a0, b0, c0, d0, e0, f0, g0, h0] [xa, xb, xc, xd, xe, xf, xg, xh] 8))
    (he : rnds kk (sched b) ⟨a0, b0, c0, d0, e0, f0, g0, h0⟩ 64 = ⟨xa, xb, xc, xd, xe, xf, xg, xh⟩) : Eight wr g (blockS ⟨a0, b0, c0, d0, e0, f0, g0, h0⟩ b).list := by
  have : (blockS ⟨a0, b0, c0, d0, e0, f0, g0, h0⟩ b).list = mix8 [a0, b0, c0, d0, e0, f0, g0, h0] [xa, xb, xc, xd, xe, xf, xg, xh] 8 := by
    unfold blockS; rw [he]; rfl
  rw [this]; exact h
theorem size8L (l : List UInt32) (h : l.length = 8) : (Tryd.prog.info? 32).map (·.size) = some (wordsV l).size := by rw [wordsV_size, h]; exact size8
theorem z8_sizeL (l : List UInt32) (h : l.length = 8) : z8.size = (wordsV l).size := by rw [wordsV_size, h]; rfl
theorem kkV_info : (Tryd.prog.info? 56).map (·.size) = some kkV.size := by rw [kkV_size]; exact size64
theorem kkV_zeros : zeros64.size = kkV.size := by rw [kkV_size]; rfl
theorem z8_ne : ¬ z8 = #[] := by intro h; have := congrArg Array.size h; revert this; decide
theorem right_q (x : UInt32) (n : Nat) (z : Int) (hz : z = (n : Int)) (h0 : 0 < n) (hn : n < 32) (w : World) (m : Nat) :
    Calls Tryd.prog 27 #[.int .u32 (vU x), .int .i64 z] (w.drewN m) fun e w' => e = .returned (.int .u32 (vU (rotr x n))) ∧ ∃ k, w' = w.drewN k := by
  subst hz; exact Calls.quiet_of (right_any x n h0 hn _)

set_option maxRecDepth 100000 in
set_option maxHeartbeats 8000000 in
theorem refBlock_core (a0 b0 c0 d0 e0 f0 g0 h0 : UInt32) (b : List UInt8) (hb : b.length = 64) (x : Addr) (cap : Nat) (w : World) (hx : ∀ j (hj : j < b.length), w.cell? (x.add j) = some (.int .u8 b[j].toNat)) :
    Calls Tryd.prog 21 #[.agg #[.int .u32 (vU a0), .int .u32 (vU b0), .int .u32 (vU c0), .int .u32 (vU d0), .int .u32 (vU e0), .int .u32 (vU f0), .int .u32 (vU g0), .int .u32 (vU h0)], .slice (some x) 64 cap] w
      fun e w' => e = .returned (.agg (blockS ⟨a0, b0, c0, d0, e0, f0, g0, h0⟩ b).cells) ∧ Below w.heap.size w w' := by
  have HX := Box.mk hx
  clear hx
  have hz := (zero_of_info (P := Tryd.prog) zero64).1
  have hne := zeros64_ne
  go_enter Tryd.func21, Tryd.ntmps21
  go_wp2_with fail
  obtain ⟨W, hW⟩ : ∃ W, W = ((w.alloc (.cells (wordsV [a0, b0, c0, d0, e0, f0, g0, h0]) 32)).alloc (.cells z8 32)).alloc (.cells zeros64 56) := ⟨_, rfl⟩
  have H0 := Box.mk (ref_world0 w [a0, b0, c0, d0, e0, f0, g0, h0] hW)
  change Code.wp _ _ _ _ (((w.alloc (.cells (wordsV [a0, b0, c0, d0, e0, f0, g0, h0]) 32)).alloc (.cells z8 32)).alloc (.cells zeros64 56))
  rw [← hW]
  clear hW
  have HXW : Box (∀ j (hj : j < b.length), W.cell? (x.add j) = some (.int .u8 b[j].toNat)) := ⟨fun j hj => below_cell H0.out.2.2.2.1 (HX.out j hj)⟩
  have HXB : Box (∀ j (hj : j < b.length), (x.add j).block < w.heap.size) := ⟨fun j hj => World.block_lt_of_cell? w _ (HX.out j hj)⟩
  clear HX
  obtain ⟨g, HG⟩ : ∃ g, Box (w.heap.size = g) := ⟨_, ⟨rfl⟩⟩
  rw [show w.heap.size = g from HG.out] at H0 HXB ⊢
  go_loopw [6] (fun i wr => ∃ (k : Nat) (ws : List UInt32), k ≤ 16 ∧ i = .int .i64 k ∧ ws.length = 64 ∧ Box (ws.take k = (sch16 b).take k ∧ Words W wr (g + 2) ws)) (fun i _ => 16 - (intOf i).toNat)
  case atStart => exact ⟨0, List.replicate 64 0, Nat.zero_le _, rfl, by simp, ⟨by simp, H0.out.2.2.1⟩⟩
  case round =>
    obtain ⟨k, ws, hk, rfl, hl, HP⟩ := hrel
    by_cases hlt : k < 16
    · obtain ⟨k0, k1, k2, k3, HK, hw0, hw1, hw2, hw3, hb0, hb1, hb2, hb3, hbk⟩ := ref_idx k hlt
      have hlb : k0 < b.length ∧ k1 < b.length ∧ k2 < b.length ∧ k3 < b.length := ⟨by omega, by omega, by omega, by omega⟩
      have HN := Box.mk (ref_first b ws k k0 k1 k2 k3 HK.out hb hlt hl HP.out.1 hlb.1 hlb.2.1 hlb.2.2.1 hlb.2.2.2)
      have HW1 := Box.mk HP.out.2.drew1
      clear HP
      go_wp2_with fail
      refine wp_region_still_tail 35 (by kernel_rfl) (by kernel_rfl) ?_
      simp only [List.take_succ_cons, List.take_zero, List.drop_succ_cons, List.drop_zero]
      generalize ({ wr with drawn := wr.drawn + 1 } : World) = W2 at *
      have c0 := HXW.out k0 hlb.1
      have c1 := HXW.out k1 hlb.2.1
      have c2 := HXW.out k2 hlb.2.2.1
      have c3 := HXW.out k3 hlb.2.2.2
      rw [← cell_below HW1.out.2 (by have := HXB.out k0 hlb.1; omega)] at c0
      rw [← cell_below HW1.out.2 (by have := HXB.out k1 hlb.2.1; omega)] at c1
      rw [← cell_below HW1.out.2 (by have := HXB.out k2 hlb.2.2.1; omega)] at c2
      rw [← cell_below HW1.out.2 (by have := HXB.out k3 hlb.2.2.2; omega)] at c3
      have hc := HW1.out.cell k (by omega)
      have hf := HW1.out.frozen k
      have HS := Box.mk (fun x => HW1.out.set k x)
      generalize b[k0] = y0 at *
      generalize b[k1] = y1 at *
      generalize b[k2] = y2 at *
      generalize b[k3] = y3 at *
      have hv := vU_byte'
      have ho := vU_or
      have s8 := vU_shl8
      have s16 := vU_shl16
      have s24 := vU_shl24
      clear hlb
      repeat still_step
      refine wpStill_nil ?_
      go_wp2_with fail
      go_roundw
      case rel =>
        obtain ⟨q1, q2⟩ := HN.out _ rfl
        exact ⟨k + 1, _, by omega, by go_num, q2, ⟨q1, HS.out _⟩⟩
      case measure => simp [intOf]; omega
    · have HW0 := Box.mk HP.out.2
      have HT0 : Box (ws.take 16 = sch16 b) := ⟨by have := HP.out.1; rw [show k = 16 by omega] at this; rw [this, List.take_of_length_le (Nat.le_of_eq (sch16_len b))]⟩
      clear HP HXW HXB
      go_wp2_with fail
      go_loopw [7] (fun i wr => ∃ (n : Nat) (ws : List UInt32), n ≤ 48 ∧ i = .int .i64 ((16 + n : Nat) : Int) ∧ ws.length = 64 ∧ Box (ws.take (16 + n) = schN (sch16 b) n ∧ Words W wr (g + 2) ws)) (fun i _ => 64 - (intOf i).toNat)
      case atStart => exact ⟨0, ws, Nat.zero_le _, rfl, hl, ⟨HT0.out, HW0.out⟩⟩
      case round =>
        clear HT0 HW0 hl
        obtain ⟨n, ws, hn, rfl, hl, HM⟩ := hrel
        by_cases hnt : n < 48
        · obtain ⟨i, k2, k15, k16, k7, HK, hw2, hw15, hw16, hw7, hb, hb2, hb15, hb16, hb7⟩ := sched_idx n hnt
          have hc2 := HM.out.2.cell k2 (by omega)
          have hc15 := HM.out.2.cell k15 (by omega)
          have HX := Box.mk (sched_next ws (sch16 b) n i k2 k15 k16 k7 hnt HK.out hl HM.out.1 (by omega) (by omega) (by omega) (by omega))
          rw [show 16 + n = i from HK.out.1]
          have e16 : Box (ws[k16]? = some ws[k16]) := ⟨List.getElem?_eq_getElem _⟩
          have e7 : Box (ws[k7]? = some ws[k7]) := ⟨List.getElem?_eq_getElem _⟩
          generalize ws[k2] = x2 at *
          generalize ws[k15] = x15 at *
          generalize ws[k16] = x16 at *
          generalize ws[k7] = x7 at *
          have ha := vU_add'
          have ha' := vU_add
          have hx := vU_xor
          have hs3 := vU_shr3
          have hs10 := vU_shr10
          go_wp2_with fail
          go_quiet (fail)
          clear hc2 hc15
          have HW1 := Box.mk (HM.out.2.drawn nq)
          generalize wr.drewN nq = W1 at *
          have hc16 := HW1.out.cell' k16 (Lib.hid e16.out)
          have hc7 := HW1.out.cell' k7 (Lib.hid e7.out)
          go_wp2_with fail
          refine wp_region_drawn_tail 29 (by kernel_rfl) (by kernel_rfl) (by kernel_rfl) (by kernel_rfl) (by kernel_rfl) ?_
          simp only [List.take_succ_cons, List.take_zero, List.drop_succ_cons, List.drop_zero]
          repeat (quiet_step (fail))
          quiet_step (exact right_q x15 7 7 rfl (by decide) (by decide) W1 _)
          repeat (quiet_step (fail))
          quiet_step (exact right_q x15 18 18 rfl (by decide) (by decide) W1 _)
          repeat (quiet_step (fail))
          quiet_step (exact right_q x2 17 17 rfl (by decide) (by decide) W1 _)
          repeat (quiet_step (fail))
          quiet_step (exact right_q x2 19 19 rfl (by decide) (by decide) W1 _)
          repeat (quiet_step (fail))
          refine wpQuiet_nil ?_
          rintro _ ⟨nq2, rfl⟩
          clear hc16 hc7
          have HW2 := Box.mk (HW1.out.drawn nq2)
          generalize W1.drewN nq2 = W2 at *
          have hc := HW2.out.cell i (by omega)
          have hcf := HW2.out.frozen i
          have HS := Box.mk (fun x => HW2.out.set i x)
          go_wp2_with fail
          go_roundw
          case rel =>
            obtain ⟨q1, q2⟩ := HX.out _ (next_comm x16 x7 (sg0 x15) (sg1 x2))
            exact ⟨n + 1, _, by omega, by rw [← HK.out.1]; go_num, q2, ⟨by rw [← q1, ← HK.out.1]; rfl, HS.out _⟩⟩
          case measure => simp [intOf]; omega
        · have HV : Box (Words W wr (g + 2) (sched b)) := ⟨by have := HM.out.1; rw [show n = 48 by omega, List.take_of_length_le (by omega)] at this; have h2 := HM.out.2; rw [this] at h2; exact h2⟩
          have H1 := Box.mk (show Eight wr g [a0, b0, c0, d0, e0, f0, g0, h0] ∧ g < wr.heap.size by
            have h1 := H0.out.1
            have h2 := HM.out.2.2.block g (by omega)
            refine ⟨?_, lt_of_row (h2.trans h1)⟩
            unfold Eight; rw [h2]; exact h1)
          have H2 := Box.mk ((HM.out.2.2.block (g + 1) (by omega)).trans H0.out.2.1)
          have H3 := Box.mk (show Below w.heap.size w wr by
            have h1 := H0.out.2.2.2.1
            rw [show w.heap.size = g from HG.out]
            exact h1.trans (HM.out.2.2.mono (by omega)))
          clear HM hl H0
          go_wp2_with fail
          refine wp_act ?_
          intro A hA
          have hs2 : A.eval (.tmp 2) = .pointer (some ⟨g, 0, none⟩) := by rw [hA]; simp [Act.eval]
          have hsz : A.tmps.size = 196 := by rw [hA]; simp
          have HA := Box.mk hA
          clear hA
          have E0 : ∀ v0 v1 v2 v3, (four A 98 99 10 11 v0 v1 v2 v3).eval (.tmp 98) = v0 := fun _ _ _ _ => four_eval0 (by rw [hsz]; decide) (by decide) (by decide) (by decide)
          have E1 : ∀ v0 v1 v2 v3, (four A 98 99 10 11 v0 v1 v2 v3).eval (.tmp 99) = v1 := fun _ _ _ _ => four_eval1 (by rw [hsz]; decide) (by decide) (by decide)
          have E2 : ∀ v0 v1 v2 v3, (four A 98 99 10 11 v0 v1 v2 v3).eval (.tmp 10) = v2 := fun _ _ _ _ => four_eval2 (by rw [hsz]; decide) (by decide)
          have E3 : ∀ v0 v1 v2 v3, (four A 98 99 10 11 v0 v1 v2 v3).eval (.tmp 11) = v3 := fun _ _ _ _ => four_eval3 (by rw [hsz]; decide)
          refine wp_region_two_vars (by kernel_rfl) 98 99 10 11 32 56 (wordsV [a0, b0, c0, d0, e0, f0, g0, h0]) kkV z8 zeros64 (by decide) (by decide) (by decide) (by decide) (by decide) (by decide) (by decide)
            ⟨rfl, rfl, rfl, rfl, rfl, rfl⟩ ⟨rfl, rfl, rfl, rfl⟩ ⟨rfl, rfl⟩ (by decide) (by decide) (by decide) (by decide) ?_ ?_ ?_ ?_ ?_ ?_ ?_
          · intro v0 v1 v2 v3 w' K hb hK
            exact wp_load_row 32 (.tmp 2) rfl g ((four_eval 2 (by decide) (by decide) (by decide) (by decide)).trans hs2) 32 (wordsV [a0, b0, c0, d0, e0, f0, g0, h0]) (0, 0) _ ((hb.block g H1.out.2).trans H1.out.1) Tryd.underlying32 rfl (size8L _ rfl) hK
          · intro v0 v1 v2 v3 w' K hb hK
            go_simp
            refine (constants_any w').mono ?_
            rintro e w'' ⟨rfl, hb2⟩
            exact hK w'' hb2
          · intro v0 v1 v2 v3 w' K hK
            exact wp_alloc_of rfl (zero_of_info zero8).1 z8_ne hK
          · intro v0 v1 v2 v3 w' K hK
            exact wp_alloc_of rfl (zero_of_info zero64).1 zeros64_ne hK
          · intro v1 v3 w' K p hp hK
            exact wp_store_row (a := four A 98 99 10 11 (.agg (wordsV [a0, b0, c0, d0, e0, f0, g0, h0])) v1 (.pointer (some ⟨p, 0, none⟩)) v3) 32 (.tmp 10) (.tmp 98) rfl p (wordsV [a0, b0, c0, d0, e0, f0, g0, h0]) (E2 _ _ _ _) (E0 _ _ _ _) 32 z8 hp (size8L _ rfl) (z8_sizeL _ rfl) (wordsV_one _) hK
          · intro v0 v2 w' K q hq hK
            exact wp_store_row (a := four A 98 99 10 11 v0 (.agg kkV) v2 (.pointer (some ⟨q, 0, none⟩))) 56 (.tmp 11) (.tmp 99) rfl q kkV (E3 _ _ _ _) (E1 _ _ _ _) 56 zeros64 hq kkV_info kkV_zeros kkV_one hK
          intro W1 p q hb hp hq hpq hhp hhq
          obtain rfl := HA.out
          clear hsz hs2 HA
          unfold four
          go_simp
          clear E0 E1 E2 E3
          have HM : Box (RefW w W1 g p q [a0, b0, c0, d0, e0, f0, g0, h0] (sched b) W1 [a0, b0, c0, d0, e0, f0, g0, h0]) :=
            ⟨hhp, But.refl _ _, by have := hb.size; have := lt_of_row HV.out.1; omega, hhq, hpq, (hb.block _ H1.out.2).trans H1.out.1, (hb.block _ (lt_of_row H2.out)).trans H2.out, (hb.block _ (lt_of_row HV.out.1)).trans HV.out.1, H3.out.trans (hb.mono H3.out.size), by rw [show w.heap.size = g from HG.out]; omega, by have := hb.size; have := lt_of_row HV.out.1; omega⟩
          clear HV H1 H2 H3 hb hp hq hpq hhp hhq
          obtain ⟨ws, HWS, hwl⟩ : ∃ ws, Box (sched b = ws) ∧ ws.length = 64 := ⟨_, ⟨rfl⟩, sched_len b⟩
          rw [show sched b = ws from HWS.out] at HM
          go_wp2_with fail
          go_loopw [12] (fun i wr => ∃ (n : Nat) (xa xb xc xd xe xf xg xh : UInt32), n ≤ 64 ∧ i = .int .i64 n ∧
            Box (rnds kk ws ⟨a0, b0, c0, d0, e0, f0, g0, h0⟩ n = ⟨xa, xb, xc, xd, xe, xf, xg, xh⟩ ∧ RefW w W1 g p q [a0, b0, c0, d0, e0, f0, g0, h0] ws wr [xa, xb, xc, xd, xe, xf, xg, xh])) (fun i _ => 64 - (intOf i).toNat)
          case atStart => exact ⟨0, a0, b0, c0, d0, e0, f0, g0, h0, Nat.zero_le _, rfl, ⟨rfl, HM.out⟩⟩
          case round =>
            clear HM
            obtain ⟨n, xa, xb, xc, xd, xe, xf, xg, xh, hn, rfl, HM⟩ := hrel
            by_cases hlt : n < 64
            · 
              have hc0 := HM.out.2.1.cell 0 (by simp)
              have hc4 := HM.out.2.1.cell 4 (by simp)
              simp only [List.getElem_cons_zero, List.getElem_cons_succ] at hc0 hc4
              go_wp2_with fail
              go_quiet (fail)
              clear hc0 hc4
              have HE := Box.mk (List.getElem?_eq_getElem (by rw [kk_len]; exact hlt : n < kk.length))
              have HN := Box.mk (rnd_next ws _ n _ _ _ _ _ _ _ _ (by omega) hlt HM.out.1)
              have HWn := Box.mk (List.getElem?_eq_getElem (by omega : n < ws.length))
              generalize ws[n] = xw at *
              generalize kk[n]'(by rw [kk_len]; exact hlt) = xk at *
              have HR := Box.mk (HM.out.2.drawn nq)
              clear HM
              generalize wr.drewN nq = W2 at *
              have hc5 := HR.out.1.cell 5 (by simp)
              have hc6 := HR.out.1.cell 6 (by simp)
              have hc7 := HR.out.1.cell 7 (by simp)
              have hck := HR.out.kk n HE.out
              have hcw : W2.cell? ⟨g + 1 + 1, n, none⟩ = _ := HR.out.word n HWn.out
              simp only [List.getElem_cons_zero, List.getElem_cons_succ] at hc5 hc6 hc7
              have ha := vU_add'
              have ha' := vU_add
              have hx := vU_xor
              have hy := vU_and
              have hnot := vU_notx
              go_wp2_with fail
              refine wp_region_quiet_lit (by kernel_rfl) (by kernel_rfl) ?_
              repeat (quiet_step (fail))
              quiet_step (exact right_q xe 6 6 rfl (by decide) (by decide) W2 _)
              repeat (quiet_step (fail))
              quiet_step (exact right_q xe 11 11 rfl (by decide) (by decide) W2 _)
              repeat (quiet_step (fail))
              quiet_step (exact right_q xe 25 25 rfl (by decide) (by decide) W2 _)
              repeat (quiet_step (fail))
              refine wpQuiet_nil ?_
              rintro _ ⟨nq2, rfl⟩
              clear hc5 hc6 hc7 hck hcw
              have HR2 := Box.mk (HR.out.drawn nq2)
              clear HR
              generalize W2.drewN nq2 = W3 at *
              have hc1 := HR2.out.1.cell 1 (by simp)
              have hc2 := HR2.out.1.cell 2 (by simp)
              simp only [List.getElem_cons_zero, List.getElem_cons_succ] at hc1 hc2
              go_wp2_with fail
              refine wp_region_quiet_lit (by kernel_rfl) (by kernel_rfl) ?_
              repeat (quiet_step (fail))
              quiet_step (exact right_q xa 2 2 rfl (by decide) (by decide) W3 _)
              repeat (quiet_step (fail))
              quiet_step (exact right_q xa 13 13 rfl (by decide) (by decide) W3 _)
              repeat (quiet_step (fail))
              quiet_step (exact right_q xa 22 22 rfl (by decide) (by decide) W3 _)
              repeat (quiet_step (fail))
              refine wpQuiet_nil ?_
              rintro _ ⟨nq3, rfl⟩
              clear hc1 hc2
              have HR3 := Box.mk (HR2.out.drawn nq3)
              clear HR2
              generalize W3.drewN nq3 = W4 at *
              have hc0 := HR3.out.1.cell 0 (by simp)
              have hc1 := HR3.out.1.cell 1 (by simp)
              have hc2 := HR3.out.1.cell 2 (by simp)
              have hc3 := HR3.out.1.cell 3 (by simp)
              have hc4 := HR3.out.1.cell 4 (by simp)
              have hc5 := HR3.out.1.cell 5 (by simp)
              have hc6 := HR3.out.1.cell 6 (by simp)
              simp only [List.getElem_cons_zero, List.getElem_cons_succ] at hc0 hc1 hc2 hc3 hc4 hc5 hc6
              go_wp2_with (refine wpList_store_row rfl 32 _ _ rfl p (wordsV [_, _, _, _, _, _, _, _]) rfl rfl 32 _ HR3.out.1 (size8L _ rfl) rfl (wordsV_one _) ?_)
              go_roundw
              case rel => exact ⟨n + 1, _, _, _, _, _, _, _, _, by omega, by go_num, ⟨HN.out, HR3.out.setRow _⟩⟩
              case measure => simp [intOf]; omega
            · have HE := Box.mk (show rnds kk (sched b) ⟨a0, b0, c0, d0, e0, f0, g0, h0⟩ 64 = ⟨xa, xb, xc, xd, xe, xf, xg, xh⟩ by rw [HWS.out, ← HM.out.1, show n = 64 by omega])
              have HF := Box.mk (HM.out.2.fin)
              clear HM HWS hwl
              go_wp2_with fail
              go_loopw [17] (fun i wr => ∃ m : Nat, m ≤ 8 ∧ i = .int .i64 m ∧ Box (FinR w wr g p [a0, b0, c0, d0, e0, f0, g0, h0] [xa, xb, xc, xd, xe, xf, xg, xh] m)) (fun i _ => 8 - (intOf i).toNat)
              case atStart => exact ⟨0, Nat.zero_le _, rfl, HF⟩
              case round =>
                clear HF
                obtain ⟨m, hm, rfl, HM⟩ := hrel
                by_cases hmt : m < 8
                · have HW4 := Box.mk (HM.out.drawn 1)
                  clear HM
                  go_wp2_with fail
                  refine wp_region_still_tail 9 (by kernel_rfl) (by kernel_rfl) ?_
                  simp only [List.take_succ_cons, List.take_zero, List.drop_succ_cons, List.drop_zero]
                  change Box (FinR w ({ wr with drawn := wr.drawn + 1 } : World) g p [a0, b0, c0, d0, e0, f0, g0, h0] [xa, xb, xc, xd, xe, xf, xg, xh] m) at HW4
                  generalize ({ wr with drawn := wr.drawn + 1 } : World) = W2 at *
                  have hc := HW4.out.1.cell' m (mix8_at (l := [a0, b0, c0, d0, e0, f0, g0, h0]) (r := [xa, xb, xc, xd, xe, xf, xg, xh]) rfl rfl hmt)
                  have hp := HW4.out.2.1.cell m hmt
                  have hf := HW4.out.1.frozen m
                  have hb : (m : Int) < 8 := by omega
                  have HN := Box.mk (fun x hx => HW4.out.next (s := [a0, b0, c0, d0, e0, f0, g0, h0]) (v := [xa, xb, xc, xd, xe, xf, xg, xh]) rfl rfl hmt x hx)
                  generalize [a0, b0, c0, d0, e0, f0, g0, h0][m]'hmt = x0 at *
                  generalize [xa, xb, xc, xd, xe, xf, xg, xh][m]'hmt = x1 at *
                  have ha := vU_add'
                  have ha' := vU_add
                  clear HW4
                  repeat still_step
                  refine wpStill_nil ?_
                  go_wp2_with fail
                  go_roundw
                  case rel => exact ⟨m + 1, by omega, by go_num, ⟨HN.out _ rfl⟩⟩
                  case measure => simp [intOf]; omega
                · obtain ⟨sb, HS⟩ : ∃ sb, Box (blockS ⟨a0, b0, c0, d0, e0, f0, g0, h0⟩ b = sb) := ⟨_, ⟨rfl⟩⟩
                  have HN := Box.mk (show Eight wr g sb.list by have := HM.out.1; rw [show m = 8 by omega] at this; rw [← HS.out]; exact mix8_end' this HE.out)
                  have HO := Box.mk HM.out.2
                  clear HM HE
                  go_wp2_with (first
                    | (refine wpList_load_row rfl 32 _ rfl g rfl 32 _ (0, 0) _ HN.out Tryd.underlying32 rfl (size8' sb) ?_)
                    | (refine wpList_store_row rfl 32 _ _ rfl (g + 1) _ rfl rfl 32 z8 HO.out.2.1 (size8' sb) (z8_size sb) (wordsV_one _) ?_))
                  refine ret_row rfl rfl rfl (setRow_heap _ _ _ _ _ _ HO.out.2.1) Tryd.underlying32 rfl (size8' sb) ⟨?_, ?_⟩
                  · rw [HS.out]; rfl
                  · exact below_setRow HO.out.2.2.1 (by have := HG.out; omega) _
theorem refBlock_any (s : St) (b : List UInt8) (hb : b.length = 64) (x : Addr) (cap : Nat) (w : World) (hx : ∀ j (hj : j < b.length), w.cell? (x.add j) = some (.int .u8 b[j].toNat)) :
    Calls Tryd.prog 21 #[.agg s.cells, .slice (some x) 64 cap] w fun e w' => e = .returned (.agg (blockS s b).cells) ∧ Below w.heap.size w w' := by
  obtain ⟨a0, b0, c0, d0, e0, f0, g0, h0⟩ := s
  exact refBlock_core a0 b0 c0 d0 e0 f0 g0 h0 b hb x cap w hx
end Go.Proofs.YtpgppninmnplkaaDoor
