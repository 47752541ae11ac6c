/- One block, as the reference reckons it. Write: a text that comes in pieces. What follows the text, the digest's bytes, Sum. What follows the text (padding), and Sum. Sum and Of. Slices of slices of bytes: read, built in a region, opened among the arguments. Sum and Of. -/
import Derived.Test.YtgmbfiikkogenaaGreatDoorPk1
import Derived.Test.YtgmbfiikkogenaaGreatDoorPk2
import Derived.Test.YtgmbfiikkogenaaGreatDoorPk5
import Derived.Laws.BitsAllLaws
import Derived.Laws.Shifts
import Derived.Test.YtgmbfiikkogenaaGreatDoorRows
import Derived.WalkKit
import Derived.WalkSpells
import Derived.WalkLawsBesides
import Derived.BigQuiet
import Derived.Deep.QuietTactic
import Derived.Lib.Bytealg
import Derived.Lib.IndexLaws
import Derived.Lib.Hide
import Derived.Deep.AppendLies
import Derived.Laws.Rows
import Derived.Laws.Tables
import Derived.Deep.WholeRow
import Derived.Laws.CopyOwn
import Derived.ProofKit
import Derived.OpenShut
import Derived.Laws.IdiomStrings
import Derived.Lib.Strings
import Derived.StillTailTactics
import Derived.Deep.Quiet
import Derived.Tactics
import Derived.KernelRfl
import Derived.Laws.Bits64
import Derived.SliceStrings
import Derived.Lib.SlBytesConst
import Derived.Maps.AppendAt
import Derived.Laws.AppendOwnNone
import Derived.Deep.RegionHeld3
import Derived.Below
import Derived.Great.BuildSlice
import Derived.Deep.Matrix
namespace Go.Proofs.YtgmbfiikkogenaaGreatDoor
open Go.RowKit

theorem w4_ref (c0 c1 c2 c3 : UInt8) : w4 [c0, c1, c2, c3] = c0.toUInt32 <<< 24 ||| c1.toUInt32 <<< 16 ||| c2.toUInt32 <<< 8 ||| c3.toUInt32 := by
  unfold w4
  simp only [List.foldl_cons, List.foldl_nil]
  apply UInt32.eq_of_toBitVec_eq
  simp only [UInt32.toBitVec_or, UInt32.toBitVec_shiftLeft]
  rw [show (8 : UInt32).toBitVec % 32 = 8#32 by decide, show (16 : UInt32).toBitVec % 32 = 16#32 by decide, show (24 : UInt32).toBitVec % 32 = 24#32 by decide, show (0 : UInt32).toBitVec = 0#32 by decide]
  generalize c0.toUInt32.toBitVec = x0
  generalize c1.toUInt32.toBitVec = x1
  generalize c2.toUInt32.toBitVec = x2
  generalize c3.toUInt32.toBitVec = x3
  simp only [BitVec.shiftLeft_eq', BitVec.toNat_ofNat, Nat.reducePow, Nat.reduceMod, BitVec.shiftLeft_or_distrib, ← BitVec.shiftLeft_add, Nat.reduceAdd]
  simp
theorem vU_byte' (c : UInt8) : ((c.toNat : Nat) : Int) % (4294967296 : Int) = vU c.toUInt32 := by
  have : ((c.toNat : Nat) : Int) % (4294967296 : Int) = (c.toNat : Nat) := by have := c.toNat_lt; omega
  rw [this, vU_byte]
theorem vU_shl16 (x : UInt32) : vU x * (65536 : Int) % (4294967296 : Int) = vU (x <<< 16) := vU_shl' x 16 (by decide)
theorem vU_shl24 (x : UInt32) : vU x * (16777216 : Int) % (4294967296 : Int) = vU (x <<< 24) := vU_shl' x 24 (by decide)
theorem ref_idx (k : Nat) (hk : k < 16) : ∃ k0 k1 k2 k3 : Nat, Box (4 * k = k0 ∧ 4 * k + 1 = k1 ∧ 4 * k + 2 = k2 ∧ 4 * k + 3 = k3) ∧ IntKind.i64.wrap (4 * (k : Int)) = k0 ∧ IntKind.i64.wrap ((k0 : Int) + 1) = k1 ∧
    IntKind.i64.wrap ((k0 : Int) + 2) = k2 ∧ IntKind.i64.wrap ((k0 : Int) + 3) = k3 ∧ (k0 : Int) < 64 ∧ (k1 : Int) < 64 ∧ (k2 : Int) < 64 ∧ (k3 : Int) < 64 ∧ (k : Int) < 64 := by
  refine ⟨4 * k, 4 * k + 1, 4 * k + 2, 4 * k + 3, ⟨rfl, rfl, rfl, rfl⟩, ?_, ?_, ?_, ?_, by omega, by omega, by omega, by omega, by omega⟩
  all_goals (simp only [IntKind.wrap, IntKind.bits, IntKind.signed]; simp; omega)

theorem ref_world0 (w : World) (s : List UInt32) {W : World} (hW : W = ((w.alloc (.cells (wordsV s) 74)).alloc (.cells z8 74)).alloc (.cells zeros64 109)) :
    Eight W w.heap.size s ∧ W.heap[w.heap.size + 1]? = some (.cells z8 74 (0, 0)) ∧ Words W W (w.heap.size + 2) (List.replicate 64 0) ∧ Below w.heap.size w W ∧ W.heap.size = w.heap.size + 3 := by
  subst hW
  have hs : (((w.alloc (.cells (wordsV s) 74)).alloc (.cells z8 74)).alloc (.cells zeros64 109)).heap.size = w.heap.size + 3 := by simp
  have hB : Below w.heap.size w (((w.alloc (.cells (wordsV s) 74)).alloc (.cells z8 74)).alloc (.cells zeros64 109)) :=
    (((Below.refl _ _).alloc (Nat.le_refl _) _).alloc (by simp) _).alloc (by rw [World.size_alloc, World.size_alloc]; omega) _
  refine ⟨?_, ?_, ⟨?_, Below.refl _ _⟩, hB, hs⟩
  · unfold Eight
    rw [(Below.alloc (Below.refl _ _) (Nat.le_refl _) _).block w.heap.size (by simp; omega), (Below.alloc (Below.refl _ _) (Nat.le_refl _) _).block w.heap.size (by simp)]
    exact heap_alloc_new _ _
  · rw [(Below.alloc (Below.refl _ _) (Nat.le_refl _) _).block (w.heap.size + 1) (by simp)]
    have := heap_alloc_new (w.alloc (.cells (wordsV s) 74)) (.cells z8 74)
    simpa using this
  · rw [← wordsV_zeros]
    have := heap_alloc_new ((w.alloc (.cells (wordsV s) 74)).alloc (.cells z8 74)) (.cells zeros64 109)
    simpa using this
theorem ref_first (b : List UInt8) (ws : List UInt32) (k k0 k1 k2 k3 : Nat) (hK : 4 * k = k0 ∧ 4 * k + 1 = k1 ∧ 4 * k + 2 = k2 ∧ 4 * k + 3 = k3) (hb : b.length = 64) (hk : k < 16) (hl : ws.length = 64) (h1 : ws.take k = (sch16 b).take k)
    (h0 : k0 < b.length) (h1' : k1 < b.length) (h2 : k2 < b.length) (h3 : k3 < b.length) :
    ∀ y, y = b[k0].toUInt32 <<< 24 ||| b[k1].toUInt32 <<< 16 ||| b[k2].toUInt32 <<< 8 ||| b[k3].toUInt32 → (ws.set k y).take (k + 1) = (sch16 b).take (k + 1) ∧ (ws.set k y).length = 64 := by
  rintro y rfl
  obtain ⟨rfl, rfl, rfl, rfl⟩ := hK
  refine ⟨sch_take b _ k hk (by simpa using hl) (by rw [List.take_set_of_le (Nat.le_refl _)]; exact h1) ?_, by simpa using hl⟩
  rw [List.getD_eq_getElem?_getD, List.getElem?_set_self (by omega), Option.getD_some, ← w4_ref]
  congr 1
  apply List.ext_getElem
  · simp; omega
  · intro j hj1 hj2
    simp only [List.length_cons, List.length_nil] at hj1
    rw [List.getElem_take, List.getElem_drop]
    match j, hj1 with
    | 0, _ => rfl
    | 1, _ => rfl
    | 2, _ => rfl
    | 3, _ => rfl
theorem next_comm (a b c d : UInt32) : a + c + b + d = a + b + c + d := by rw [UInt32.add_assoc a b c, UInt32.add_comm b c, ← UInt32.add_assoc]
theorem cell_below {B : Nat} {w w' : World} (h : Below B w w') {a : Addr} (ha : a.block < B) : w'.cell? a = w.cell? a := by
  simp only [World.cell?]; rw [h.block _ ha]

/-- All blocks but p are as they were. -/
structure But (p : Nat) (W wr : World) : Prop where
  os : wr.os = W.os
  tape : wr.tape = W.tape
  output : wr.output = W.output
  size : W.heap.size ≤ wr.heap.size
  block : ∀ k, k ≠ p → wr.heap[k]? = W.heap[k]?
theorem But.refl (p : Nat) (W : World) : But p W W := ⟨rfl, rfl, rfl, Nat.le_refl _, fun _ _ => rfl⟩
theorem But.setRow {p : Nat} {W wr : World} (h : But p W wr) (cs : Array Value) : But p W (wr.setRow p cs) :=
  ⟨h.os, h.tape, h.output, by rw [setRow_size]; exact h.size, fun k hk => by rw [setRow_other _ _ _ _ hk]; exact h.block k hk⟩
theorem But.drawn {p : Nat} {W wr : World} (h : But p W wr) (n : Nat) : But p W (wr.drewN n) := ⟨h.os, h.tape, h.output, h.size, h.block⟩
/-- The rounds of the reference: v in block p, k in block q, the state in block g, the result in g + 1, the words in g + 2. -/
def RefW (w W1 : World) (g p q : Nat) (s ws : List UInt32) (wr : World) (v : List UInt32) : Prop :=
  Eight wr p v ∧ But p W1 wr ∧ g + 2 < p ∧ W1.heap[q]? = some (.cells kkV 109 (0, 0)) ∧ p ≠ q ∧ Eight W1 g s ∧ W1.heap[g + 1]? = some (.cells z8 74 (0, 0)) ∧ W1.heap[g + 2]? = some (.cells (wordsV ws) 109 (0, 0)) ∧
    Below w.heap.size w W1 ∧ w.heap.size ≤ g ∧ g + 2 < W1.heap.size
theorem RefW.kk {w W1 wr : World} {g p q : Nat} {s ws v : List UInt32} (h : RefW w W1 g p q s ws wr v) (n : Nat) {x : UInt32} (hx : kk[n]? = some x) : wr.cell? ⟨q, n, none⟩ = some (.int .u32 (vU x)) := by
  have hb := (h.2.1.block q (Ne.symm h.2.2.2.2.1)).trans h.2.2.2.1
  rw [cell_of_row _ _ _ _ _ _ hb]
  unfold kkV
  rw [List.getElem?_toArray, List.getElem?_map, hx]; rfl
theorem RefW.word {w W1 wr : World} {g p q : Nat} {s ws v : List UInt32} (h : RefW w W1 g p q s ws wr v) (n : Nat) {x : UInt32} (hx : ws[n]? = some x) : wr.cell? ⟨g + 2, n, none⟩ = some (.int .u32 (vU x)) := by
  have hb := (h.2.1.block (g + 2) (by have := h.2.2.1; omega)).trans h.2.2.2.2.2.2.2.1
  rw [cell_of_row _ _ _ _ _ _ hb]
  unfold wordsV
  rw [List.getElem?_toArray, List.getElem?_map, hx]; rfl
theorem RefW.drawn {w W1 wr : World} {g p q : Nat} {s ws v : List UInt32} (h : RefW w W1 g p q s ws wr v) (n : Nat) : RefW w W1 g p q s ws (wr.drewN n) v := ⟨h.1, h.2.1.drawn n, h.2.2⟩
theorem RefW.setRow {w W1 wr : World} {g p q : Nat} {s ws v : List UInt32} (h : RefW w W1 g p q s ws wr v) (v' : List UInt32) : RefW w W1 g p q s ws (wr.setRow p (wordsV v')) v' :=
  ⟨setRow_heap _ _ _ _ _ _ h.1, h.2.1.setRow _, h.2.2⟩
/-- The last loop of the reference. -/
def FinR (w wr : World) (g p : Nat) (s v : List UInt32) (m : Nat) : Prop :=
  Eight wr g (mix8 s v m) ∧ Eight wr p v ∧ wr.heap[g + 1]? = some (.cells z8 74 (0, 0)) ∧ Below w.heap.size w wr ∧ w.heap.size ≤ g ∧ g + 2 < p
theorem RefW.fin {w W1 wr : World} {g p q : Nat} {s ws v : List UInt32} (h : RefW w W1 g p q s ws wr v) : FinR w wr g p s v 0 := by
  have hp := h.2.2.1
  refine ⟨(h.2.1.block g (by omega)).trans h.2.2.2.2.2.1, h.1, (h.2.1.block (g + 1) (by omega)).trans h.2.2.2.2.2.2.1, ?_, h.2.2.2.2.2.2.2.2.2.1, hp⟩
  have hb := h.2.2.2.2.2.2.2.2.1
  have hg := h.2.2.2.2.2.2.2.2.2.1
  exact ⟨h.2.1.os.trans hb.os, h.2.1.tape.trans hb.tape, h.2.1.output.trans hb.output, Nat.le_trans hb.size h.2.1.size, fun k hk => (h.2.1.block k (by omega)).trans (hb.block k hk)⟩
theorem FinR.drawn {w wr : World} {g p : Nat} {s v : List UInt32} {m : Nat} (h : FinR w wr g p s v m) (n : Nat) : FinR w (wr.drewN n) g p s v m :=
  ⟨h.1, h.2.1, h.2.2.1, ⟨h.2.2.2.1.os, h.2.2.2.1.tape, h.2.2.2.1.output, h.2.2.2.1.size, h.2.2.2.1.block⟩, h.2.2.2.2⟩
theorem FinR.next {w wr : World} {g p : Nat} {s v : List UInt32} {m : Nat} (h : FinR w wr g p s v m) (h1 : s.length = 8) (h2 : v.length = 8) (hm : m < 8) (x : UInt32) (hx : x = s[m] + v[m]) : FinR w (wr.setCell ⟨g, m, none⟩ (.int .u32 (vU x))) g p s v (m + 1) := by
  subst hx
  have hp := h.2.2.2.2.2
  refine ⟨?_, ?_, ?_, h.2.2.2.1.setCell (p := ⟨g, m, none⟩) h.2.2.2.2.1 _, h.2.2.2.2⟩
  · rw [← mix8_set h1 h2 hm]; exact h.1.set m _
  · unfold Eight; rw [heap_setCell_other _ _ _ _ (by show p ≠ g; omega)]; exact h.2.1
  · rw [heap_setCell_other _ _ _ _ (by show g + 1 ≠ g; omega)]; exact h.2.2.1
theorem mix8_end' {wr : World} {g : Nat} {a0 b0 c0 d0 e0 f0 g0 h0 xa xb xc xd xe xf xg xh : UInt32} {b : List UInt8} (h : Eight wr g (mix8 [a0, b0, c0, d0, e0, f0, g0, h0] [xa, xb, xc, xd, xe, xf, xg, xh] 8))
    (he : rnds kk (sched b) ⟨a0, b0, c0, d0, e0, f0, g0, h0⟩ 64 = ⟨xa, xb, xc, xd, xe, xf, xg, xh⟩) : Eight wr g (blockS ⟨a0, b0, c0, d0, e0, f0, g0, h0⟩ b).list := by
  have : (blockS ⟨a0, b0, c0, d0, e0, f0, g0, h0⟩ b).list = mix8 [a0, b0, c0, d0, e0, f0, g0, h0] [xa, xb, xc, xd, xe, xf, xg, xh] 8 := by
    unfold blockS; rw [he]; rfl
  rw [this]; exact h
theorem size8L (l : List UInt32) (h : l.length = 8) : (Tryz.prog.info? 74).map (·.size) = some (wordsV l).size := by rw [wordsV_size, h]; exact size8
theorem z8_sizeL (l : List UInt32) (h : l.length = 8) : z8.size = (wordsV l).size := by rw [wordsV_size, h]; rfl
theorem kkV_info : (Tryz.prog.info? 109).map (·.size) = some kkV.size := by rw [kkV_size]; exact size64
theorem kkV_zeros : zeros64.size = kkV.size := by rw [kkV_size]; rfl
theorem z8_ne : ¬ z8 = #[] := by intro h; have := congrArg Array.size h; revert this; decide
theorem right_q (x : UInt32) (n : Nat) (z : Int) (hz : z = (n : Int)) (h0 : 0 < n) (hn : n < 32) (w : World) (m : Nat) :
    Calls Tryz.prog 70 #[.int .u32 (vU x), .int .i64 z] (w.drewN m) fun e w' => e = .returned (.int .u32 (vU (rotr x n))) ∧ ∃ k, w' = w.drewN k := by
  subst hz; exact Calls.quiet_of (right_any x n h0 hn _)

set_option maxRecDepth 100000 in
set_option maxHeartbeats 8000000 in
theorem refBlock_core (a0 b0 c0 d0 e0 f0 g0 h0 : UInt32) (b : List UInt8) (hb : b.length = 64) (x : Addr) (cap : Nat) (w : World) (hx : ∀ j (hj : j < b.length), w.cell? (x.add j) = some (.int .u8 b[j].toNat)) :
    Calls Tryz.prog 49 #[.agg #[.int .u32 (vU a0), .int .u32 (vU b0), .int .u32 (vU c0), .int .u32 (vU d0), .int .u32 (vU e0), .int .u32 (vU f0), .int .u32 (vU g0), .int .u32 (vU h0)], .slice (some x) 64 cap] w
      fun e w' => e = .returned (.agg (blockS ⟨a0, b0, c0, d0, e0, f0, g0, h0⟩ b).cells) ∧ Below w.heap.size w w' := by
  have HX := Box.mk hx
  clear hx
  have hz := (zero_of_info (P := Tryz.prog) zero64).1
  have hne := zeros64_ne
  go_enter Tryz.func49, Tryz.ntmps49
  go_wp2_with fail
  obtain ⟨W, hW⟩ : ∃ W, W = ((w.alloc (.cells (wordsV [a0, b0, c0, d0, e0, f0, g0, h0]) 74)).alloc (.cells z8 74)).alloc (.cells zeros64 109) := ⟨_, rfl⟩
  have H0 := Box.mk (ref_world0 w [a0, b0, c0, d0, e0, f0, g0, h0] hW)
  change Code.wp _ _ _ _ (((w.alloc (.cells (wordsV [a0, b0, c0, d0, e0, f0, g0, h0]) 74)).alloc (.cells z8 74)).alloc (.cells zeros64 109))
  rw [← hW]
  clear hW
  have HXW : Box (∀ j (hj : j < b.length), W.cell? (x.add j) = some (.int .u8 b[j].toNat)) := ⟨fun j hj => below_cell H0.out.2.2.2.1 (HX.out j hj)⟩
  have HXB : Box (∀ j (hj : j < b.length), (x.add j).block < w.heap.size) := ⟨fun j hj => World.block_lt_of_cell? w _ (HX.out j hj)⟩
  clear HX
  obtain ⟨g, HG⟩ : ∃ g, Box (w.heap.size = g) := ⟨_, ⟨rfl⟩⟩
  rw [show w.heap.size = g from HG.out] at H0 HXB ⊢
  go_loopw [6] (fun i wr => ∃ (k : Nat) (ws : List UInt32), k ≤ 16 ∧ i = .int .i64 k ∧ ws.length = 64 ∧ Box (ws.take k = (sch16 b).take k ∧ Words W wr (g + 2) ws)) (fun i _ => 16 - (intOf i).toNat)
  case atStart => exact ⟨0, List.replicate 64 0, Nat.zero_le _, rfl, by simp, ⟨by simp, H0.out.2.2.1⟩⟩
  case round =>
    obtain ⟨k, ws, hk, rfl, hl, HP⟩ := hrel
    by_cases hlt : k < 16
    · obtain ⟨k0, k1, k2, k3, HK, hw0, hw1, hw2, hw3, hb0, hb1, hb2, hb3, hbk⟩ := ref_idx k hlt
      have hlb : k0 < b.length ∧ k1 < b.length ∧ k2 < b.length ∧ k3 < b.length := ⟨by omega, by omega, by omega, by omega⟩
      have HN := Box.mk (ref_first b ws k k0 k1 k2 k3 HK.out hb hlt hl HP.out.1 hlb.1 hlb.2.1 hlb.2.2.1 hlb.2.2.2)
      have HW1 := Box.mk HP.out.2.drew1
      clear HP
      go_wp2_with fail
      refine wp_region_still_tail 35 (by kernel_rfl) (by kernel_rfl) ?_
      simp only [List.take_succ_cons, List.take_zero, List.drop_succ_cons, List.drop_zero]
      generalize ({ wr with drawn := wr.drawn + 1 } : World) = W2 at *
      have c0 := HXW.out k0 hlb.1
      have c1 := HXW.out k1 hlb.2.1
      have c2 := HXW.out k2 hlb.2.2.1
      have c3 := HXW.out k3 hlb.2.2.2
      rw [← cell_below HW1.out.2 (by have := HXB.out k0 hlb.1; omega)] at c0
      rw [← cell_below HW1.out.2 (by have := HXB.out k1 hlb.2.1; omega)] at c1
      rw [← cell_below HW1.out.2 (by have := HXB.out k2 hlb.2.2.1; omega)] at c2
      rw [← cell_below HW1.out.2 (by have := HXB.out k3 hlb.2.2.2; omega)] at c3
      have hc := HW1.out.cell k (by omega)
      have hf := HW1.out.frozen k
      have HS := Box.mk (fun x => HW1.out.set k x)
      generalize b[k0] = y0 at *
      generalize b[k1] = y1 at *
      generalize b[k2] = y2 at *
      generalize b[k3] = y3 at *
      have hv := vU_byte'
      have ho := vU_or
      have s8 := vU_shl8
      have s16 := vU_shl16
      have s24 := vU_shl24
      clear hlb
      repeat still_step
      refine wpStill_nil ?_
      go_wp2_with fail
      go_roundw
      case rel =>
        obtain ⟨q1, q2⟩ := HN.out _ rfl
        exact ⟨k + 1, _, by omega, by go_num, q2, ⟨q1, HS.out _⟩⟩
      case measure => simp [intOf]; omega
    · have HW0 := Box.mk HP.out.2
      have HT0 : Box (ws.take 16 = sch16 b) := ⟨by have := HP.out.1; rw [show k = 16 by omega] at this; rw [this, List.take_of_length_le (Nat.le_of_eq (sch16_len b))]⟩
      clear HP HXW HXB
      go_wp2_with fail
      go_loopw [7] (fun i wr => ∃ (n : Nat) (ws : List UInt32), n ≤ 48 ∧ i = .int .i64 ((16 + n : Nat) : Int) ∧ ws.length = 64 ∧ Box (ws.take (16 + n) = schN (sch16 b) n ∧ Words W wr (g + 2) ws)) (fun i _ => 64 - (intOf i).toNat)
      case atStart => exact ⟨0, ws, Nat.zero_le _, rfl, hl, ⟨HT0.out, HW0.out⟩⟩
      case round =>
        clear HT0 HW0 hl
        obtain ⟨n, ws, hn, rfl, hl, HM⟩ := hrel
        by_cases hnt : n < 48
        · obtain ⟨i, k2, k15, k16, k7, HK, hw2, hw15, hw16, hw7, hb, hb2, hb15, hb16, hb7⟩ := sched_idx n hnt
          have hc2 := HM.out.2.cell k2 (by omega)
          have hc15 := HM.out.2.cell k15 (by omega)
          have HX := Box.mk (sched_next ws (sch16 b) n i k2 k15 k16 k7 hnt HK.out hl HM.out.1 (by omega) (by omega) (by omega) (by omega))
          rw [show 16 + n = i from HK.out.1]
          have e16 : Box (ws[k16]? = some ws[k16]) := ⟨List.getElem?_eq_getElem _⟩
          have e7 : Box (ws[k7]? = some ws[k7]) := ⟨List.getElem?_eq_getElem _⟩
          generalize ws[k2] = x2 at *
          generalize ws[k15] = x15 at *
          generalize ws[k16] = x16 at *
          generalize ws[k7] = x7 at *
          have ha := vU_add'
          have ha' := vU_add
          have hx := vU_xor
          have hs3 := vU_shr3
          have hs10 := vU_shr10
          go_wp2_with fail
          go_quiet (fail)
          clear hc2 hc15
          have HW1 := Box.mk (HM.out.2.drawn nq)
          generalize wr.drewN nq = W1 at *
          have hc16 := HW1.out.cell' k16 (Lib.hid e16.out)
          have hc7 := HW1.out.cell' k7 (Lib.hid e7.out)
          go_wp2_with fail
          refine wp_region_drawn_tail 29 (by kernel_rfl) (by kernel_rfl) (by kernel_rfl) (by kernel_rfl) (by kernel_rfl) ?_
          simp only [List.take_succ_cons, List.take_zero, List.drop_succ_cons, List.drop_zero]
          repeat (quiet_step (fail))
          quiet_step (exact right_q x15 7 7 rfl (by decide) (by decide) W1 _)
          repeat (quiet_step (fail))
          quiet_step (exact right_q x15 18 18 rfl (by decide) (by decide) W1 _)
          repeat (quiet_step (fail))
          quiet_step (exact right_q x2 17 17 rfl (by decide) (by decide) W1 _)
          repeat (quiet_step (fail))
          quiet_step (exact right_q x2 19 19 rfl (by decide) (by decide) W1 _)
          repeat (quiet_step (fail))
          refine wpQuiet_nil ?_
          rintro _ ⟨nq2, rfl⟩
          clear hc16 hc7
          have HW2 := Box.mk (HW1.out.drawn nq2)
          generalize W1.drewN nq2 = W2 at *
          have hc := HW2.out.cell i (by omega)
          have hcf := HW2.out.frozen i
          have HS := Box.mk (fun x => HW2.out.set i x)
          go_wp2_with fail
          go_roundw
          case rel =>
            obtain ⟨q1, q2⟩ := HX.out _ (next_comm x16 x7 (sg0 x15) (sg1 x2))
            exact ⟨n + 1, _, by omega, by rw [← HK.out.1]; go_num, q2, ⟨by rw [← q1, ← HK.out.1]; rfl, HS.out _⟩⟩
          case measure => simp [intOf]; omega
        · have HV : Box (Words W wr (g + 2) (sched b)) := ⟨by have := HM.out.1; rw [show n = 48 by omega, List.take_of_length_le (by omega)] at this; have h2 := HM.out.2; rw [this] at h2; exact h2⟩
          have H1 := Box.mk (show Eight wr g [a0, b0, c0, d0, e0, f0, g0, h0] ∧ g < wr.heap.size by
            have h1 := H0.out.1
            have h2 := HM.out.2.2.block g (by omega)
            refine ⟨?_, lt_of_row (h2.trans h1)⟩
            unfold Eight; rw [h2]; exact h1)
          have H2 := Box.mk ((HM.out.2.2.block (g + 1) (by omega)).trans H0.out.2.1)
          have H3 := Box.mk (show Below w.heap.size w wr by
            have h1 := H0.out.2.2.2.1
            rw [show w.heap.size = g from HG.out]
            exact h1.trans (HM.out.2.2.mono (by omega)))
          clear HM hl H0
          go_wp2_with fail
          refine wp_act ?_
          intro A hA
          have hs2 : A.eval (.tmp 2) = .pointer (some ⟨g, 0, none⟩) := by rw [hA]; simp [Act.eval]
          have hsz : A.tmps.size = 196 := by rw [hA]; simp
          have HA := Box.mk hA
          clear hA
          have E0 : ∀ v0 v1 v2 v3, (four A 98 99 10 11 v0 v1 v2 v3).eval (.tmp 98) = v0 := fun _ _ _ _ => four_eval0 (by rw [hsz]; decide) (by decide) (by decide) (by decide)
          have E1 : ∀ v0 v1 v2 v3, (four A 98 99 10 11 v0 v1 v2 v3).eval (.tmp 99) = v1 := fun _ _ _ _ => four_eval1 (by rw [hsz]; decide) (by decide) (by decide)
          have E2 : ∀ v0 v1 v2 v3, (four A 98 99 10 11 v0 v1 v2 v3).eval (.tmp 10) = v2 := fun _ _ _ _ => four_eval2 (by rw [hsz]; decide) (by decide)
          have E3 : ∀ v0 v1 v2 v3, (four A 98 99 10 11 v0 v1 v2 v3).eval (.tmp 11) = v3 := fun _ _ _ _ => four_eval3 (by rw [hsz]; decide)
          refine wp_region_two_vars (by kernel_rfl) 98 99 10 11 74 109 (wordsV [a0, b0, c0, d0, e0, f0, g0, h0]) kkV z8 zeros64 (by decide) (by decide) (by decide) (by decide) (by decide) (by decide) (by decide)
            ⟨rfl, rfl, rfl, rfl, rfl, rfl⟩ ⟨rfl, rfl, rfl, rfl⟩ ⟨rfl, rfl⟩ (by decide) (by decide) (by decide) (by decide) ?_ ?_ ?_ ?_ ?_ ?_ ?_
          · intro v0 v1 v2 v3 w' K hb hK
            exact wp_load_row 74 (.tmp 2) rfl g ((four_eval 2 (by decide) (by decide) (by decide) (by decide)).trans hs2) 74 (wordsV [a0, b0, c0, d0, e0, f0, g0, h0]) (0, 0) _ ((hb.block g H1.out.2).trans H1.out.1) Tryz.underlying74 rfl (size8L _ rfl) hK
          · intro v0 v1 v2 v3 w' K hb hK
            go_simp
            refine (constants_any w').mono ?_
            rintro e w'' ⟨rfl, hb2⟩
            exact hK w'' hb2
          · intro v0 v1 v2 v3 w' K hK
            exact wp_alloc_of rfl (zero_of_info zero8).1 z8_ne hK
          · intro v0 v1 v2 v3 w' K hK
            exact wp_alloc_of rfl (zero_of_info zero64).1 zeros64_ne hK
          · intro v1 v3 w' K p hp hK
            exact wp_store_row (a := four A 98 99 10 11 (.agg (wordsV [a0, b0, c0, d0, e0, f0, g0, h0])) v1 (.pointer (some ⟨p, 0, none⟩)) v3) 74 (.tmp 10) (.tmp 98) rfl p (wordsV [a0, b0, c0, d0, e0, f0, g0, h0]) (E2 _ _ _ _) (E0 _ _ _ _) 74 z8 hp (size8L _ rfl) (z8_sizeL _ rfl) (wordsV_one _) hK
          · intro v0 v2 w' K q hq hK
            exact wp_store_row (a := four A 98 99 10 11 v0 (.agg kkV) v2 (.pointer (some ⟨q, 0, none⟩))) 109 (.tmp 11) (.tmp 99) rfl q kkV (E3 _ _ _ _) (E1 _ _ _ _) 109 zeros64 hq kkV_info kkV_zeros kkV_one hK
          intro W1 p q hb hp hq hpq hhp hhq
          obtain rfl := HA.out
          clear hsz hs2 HA
          unfold four
          go_simp
          clear E0 E1 E2 E3
          have HM : Box (RefW w W1 g p q [a0, b0, c0, d0, e0, f0, g0, h0] (sched b) W1 [a0, b0, c0, d0, e0, f0, g0, h0]) :=
            ⟨hhp, But.refl _ _, by have := hb.size; have := lt_of_row HV.out.1; omega, hhq, hpq, (hb.block _ H1.out.2).trans H1.out.1, (hb.block _ (lt_of_row H2.out)).trans H2.out, (hb.block _ (lt_of_row HV.out.1)).trans HV.out.1, H3.out.trans (hb.mono H3.out.size), by rw [show w.heap.size = g from HG.out]; omega, by have := hb.size; have := lt_of_row HV.out.1; omega⟩
          clear HV H1 H2 H3 hb hp hq hpq hhp hhq
          obtain ⟨ws, HWS, hwl⟩ : ∃ ws, Box (sched b = ws) ∧ ws.length = 64 := ⟨_, ⟨rfl⟩, sched_len b⟩
          rw [show sched b = ws from HWS.out] at HM
          go_wp2_with fail
          go_loopw [12] (fun i wr => ∃ (n : Nat) (xa xb xc xd xe xf xg xh : UInt32), n ≤ 64 ∧ i = .int .i64 n ∧
            Box (rnds kk ws ⟨a0, b0, c0, d0, e0, f0, g0, h0⟩ n = ⟨xa, xb, xc, xd, xe, xf, xg, xh⟩ ∧ RefW w W1 g p q [a0, b0, c0, d0, e0, f0, g0, h0] ws wr [xa, xb, xc, xd, xe, xf, xg, xh])) (fun i _ => 64 - (intOf i).toNat)
          case atStart => exact ⟨0, a0, b0, c0, d0, e0, f0, g0, h0, Nat.zero_le _, rfl, ⟨rfl, HM.out⟩⟩
          case round =>
            clear HM
            obtain ⟨n, xa, xb, xc, xd, xe, xf, xg, xh, hn, rfl, HM⟩ := hrel
            by_cases hlt : n < 64
            · 
              have hc0 := HM.out.2.1.cell 0 (by simp)
              have hc4 := HM.out.2.1.cell 4 (by simp)
              simp only [List.getElem_cons_zero, List.getElem_cons_succ] at hc0 hc4
              go_wp2_with fail
              go_quiet (fail)
              clear hc0 hc4
              have HE := Box.mk (List.getElem?_eq_getElem (by rw [kk_len]; exact hlt : n < kk.length))
              have HN := Box.mk (rnd_next ws _ n _ _ _ _ _ _ _ _ (by omega) hlt HM.out.1)
              have HWn := Box.mk (List.getElem?_eq_getElem (by omega : n < ws.length))
              generalize ws[n] = xw at *
              generalize kk[n]'(by rw [kk_len]; exact hlt) = xk at *
              have HR := Box.mk (HM.out.2.drawn nq)
              clear HM
              generalize wr.drewN nq = W2 at *
              have hc5 := HR.out.1.cell 5 (by simp)
              have hc6 := HR.out.1.cell 6 (by simp)
              have hc7 := HR.out.1.cell 7 (by simp)
              have hck := HR.out.kk n HE.out
              have hcw : W2.cell? ⟨g + 1 + 1, n, none⟩ = _ := HR.out.word n HWn.out
              simp only [List.getElem_cons_zero, List.getElem_cons_succ] at hc5 hc6 hc7
              have ha := vU_add'
              have ha' := vU_add
              have hx := vU_xor
              have hy := vU_and
              have hnot := vU_notx
              go_wp2_with fail
              refine wp_region_quiet_lit (by kernel_rfl) (by kernel_rfl) ?_
              repeat (quiet_step (fail))
              quiet_step (exact right_q xe 6 6 rfl (by decide) (by decide) W2 _)
              repeat (quiet_step (fail))
              quiet_step (exact right_q xe 11 11 rfl (by decide) (by decide) W2 _)
              repeat (quiet_step (fail))
              quiet_step (exact right_q xe 25 25 rfl (by decide) (by decide) W2 _)
              repeat (quiet_step (fail))
              refine wpQuiet_nil ?_
              rintro _ ⟨nq2, rfl⟩
              clear hc5 hc6 hc7 hck hcw
              have HR2 := Box.mk (HR.out.drawn nq2)
              clear HR
              generalize W2.drewN nq2 = W3 at *
              have hc1 := HR2.out.1.cell 1 (by simp)
              have hc2 := HR2.out.1.cell 2 (by simp)
              simp only [List.getElem_cons_zero, List.getElem_cons_succ] at hc1 hc2
              go_wp2_with fail
              refine wp_region_quiet_lit (by kernel_rfl) (by kernel_rfl) ?_
              repeat (quiet_step (fail))
              quiet_step (exact right_q xa 2 2 rfl (by decide) (by decide) W3 _)
              repeat (quiet_step (fail))
              quiet_step (exact right_q xa 13 13 rfl (by decide) (by decide) W3 _)
              repeat (quiet_step (fail))
              quiet_step (exact right_q xa 22 22 rfl (by decide) (by decide) W3 _)
              repeat (quiet_step (fail))
              refine wpQuiet_nil ?_
              rintro _ ⟨nq3, rfl⟩
              clear hc1 hc2
              have HR3 := Box.mk (HR2.out.drawn nq3)
              clear HR2
              generalize W3.drewN nq3 = W4 at *
              have hc0 := HR3.out.1.cell 0 (by simp)
              have hc1 := HR3.out.1.cell 1 (by simp)
              have hc2 := HR3.out.1.cell 2 (by simp)
              have hc3 := HR3.out.1.cell 3 (by simp)
              have hc4 := HR3.out.1.cell 4 (by simp)
              have hc5 := HR3.out.1.cell 5 (by simp)
              have hc6 := HR3.out.1.cell 6 (by simp)
              simp only [List.getElem_cons_zero, List.getElem_cons_succ] at hc0 hc1 hc2 hc3 hc4 hc5 hc6
              go_wp2_with (refine wpList_store_row rfl 74 _ _ rfl p (wordsV [_, _, _, _, _, _, _, _]) rfl rfl 74 _ HR3.out.1 (size8L _ rfl) rfl (wordsV_one _) ?_)
              go_roundw
              case rel => exact ⟨n + 1, _, _, _, _, _, _, _, _, by omega, by go_num, ⟨HN.out, HR3.out.setRow _⟩⟩
              case measure => simp [intOf]; omega
            · have HE := Box.mk (show rnds kk (sched b) ⟨a0, b0, c0, d0, e0, f0, g0, h0⟩ 64 = ⟨xa, xb, xc, xd, xe, xf, xg, xh⟩ by rw [HWS.out, ← HM.out.1, show n = 64 by omega])
              have HF := Box.mk (HM.out.2.fin)
              clear HM HWS hwl
              go_wp2_with fail
              go_loopw [17] (fun i wr => ∃ m : Nat, m ≤ 8 ∧ i = .int .i64 m ∧ Box (FinR w wr g p [a0, b0, c0, d0, e0, f0, g0, h0] [xa, xb, xc, xd, xe, xf, xg, xh] m)) (fun i _ => 8 - (intOf i).toNat)
              case atStart => exact ⟨0, Nat.zero_le _, rfl, HF⟩
              case round =>
                clear HF
                obtain ⟨m, hm, rfl, HM⟩ := hrel
                by_cases hmt : m < 8
                · have HW4 := Box.mk (HM.out.drawn 1)
                  clear HM
                  go_wp2_with fail
                  refine wp_region_still_tail 9 (by kernel_rfl) (by kernel_rfl) ?_
                  simp only [List.take_succ_cons, List.take_zero, List.drop_succ_cons, List.drop_zero]
                  change Box (FinR w ({ wr with drawn := wr.drawn + 1 } : World) g p [a0, b0, c0, d0, e0, f0, g0, h0] [xa, xb, xc, xd, xe, xf, xg, xh] m) at HW4
                  generalize ({ wr with drawn := wr.drawn + 1 } : World) = W2 at *
                  have hc := HW4.out.1.cell' m (mix8_at (l := [a0, b0, c0, d0, e0, f0, g0, h0]) (r := [xa, xb, xc, xd, xe, xf, xg, xh]) rfl rfl hmt)
                  have hp := HW4.out.2.1.cell m hmt
                  have hf := HW4.out.1.frozen m
                  have hb : (m : Int) < 8 := by omega
                  have HN := Box.mk (fun x hx => HW4.out.next (s := [a0, b0, c0, d0, e0, f0, g0, h0]) (v := [xa, xb, xc, xd, xe, xf, xg, xh]) rfl rfl hmt x hx)
                  generalize [a0, b0, c0, d0, e0, f0, g0, h0][m]'hmt = x0 at *
                  generalize [xa, xb, xc, xd, xe, xf, xg, xh][m]'hmt = x1 at *
                  have ha := vU_add'
                  have ha' := vU_add
                  clear HW4
                  repeat still_step
                  refine wpStill_nil ?_
                  go_wp2_with fail
                  go_roundw
                  case rel => exact ⟨m + 1, by omega, by go_num, ⟨HN.out _ rfl⟩⟩
                  case measure => simp [intOf]; omega
                · obtain ⟨sb, HS⟩ : ∃ sb, Box (blockS ⟨a0, b0, c0, d0, e0, f0, g0, h0⟩ b = sb) := ⟨_, ⟨rfl⟩⟩
                  have HN := Box.mk (show Eight wr g sb.list by have := HM.out.1; rw [show m = 8 by omega] at this; rw [← HS.out]; exact mix8_end' this HE.out)
                  have HO := Box.mk HM.out.2
                  clear HM HE
                  go_wp2_with (first
                    | (refine wpList_load_row rfl 74 _ rfl g rfl 74 _ (0, 0) _ HN.out Tryz.underlying74 rfl (size8' sb) ?_)
                    | (refine wpList_store_row rfl 74 _ _ rfl (g + 1) _ rfl rfl 74 z8 HO.out.2.1 (size8' sb) (z8_size sb) (wordsV_one _) ?_))
                  refine ret_row rfl rfl rfl (setRow_heap _ _ _ _ _ _ HO.out.2.1) Tryz.underlying74 rfl (size8' sb) ⟨?_, ?_⟩
                  · rw [HS.out]; rfl
                  · exact below_setRow HO.out.2.2.1 (by have := HG.out; omega) _
theorem refBlock_any (s : St) (b : List UInt8) (hb : b.length = 64) (x : Addr) (cap : Nat) (w : World) (hx : ∀ j (hj : j < b.length), w.cell? (x.add j) = some (.int .u8 b[j].toNat)) :
    Calls Tryz.prog 49 #[.agg s.cells, .slice (some x) 64 cap] w fun e w' => e = .returned (.agg (blockS s b).cells) ∧ Below w.heap.size w w' := by
  obtain ⟨a0, b0, c0, d0, e0, f0, g0, h0⟩ := s
  exact refBlock_core a0 b0 c0 d0 e0 f0 g0 h0 b hb x cap w hx
end Go.Proofs.YtgmbfiikkogenaaGreatDoor
namespace Go.Proofs.YtgmbfiikkogenaaGreatDoor
open Go.RowKit

theorem lt_of_row' {w : World} {p : Nat} {o : Obj} (h : w.heap[p]? = some o) : p < w.heap.size := (Array.getElem?_eq_some_iff.1 h).1
/-- The world of Write: the state in block g, the result in g + 1, the block in g + 2, the two parts in g + 3. -/
structure WrW (w wr : World) (g : Nat) (s : St) (n : Int) (dt tv bv : Value) (blk : List UInt8) : Prop where
  st : wr.heap[g]? = some (.cells (digV s n dt) 76 (0, 0))
  res : wr.heap[g + 1]? = some (.cells dzero 76 (0, 0))
  blk : wr.heap[g + 2]? = some (.cells (blkV blk) 104 (0, 0))
  parts : wr.heap[g + 3]? = some (.cells #[tv, bv] 24 (0, 0))
  below : Below w.heap.size w wr
  base : w.heap.size = g
theorem blkV_zeros : zeroBlk = blkV (List.replicate 64 0) := by kernel_rfl
theorem write_world (w : World) (s : St) (n : Int) (tv bv : Value) {W : World} (hW : W = (((w.alloc (.cells (digV s n tv) 76)).alloc (.cells dzero 76)).alloc (.cells zeroBlk 104)).alloc (.cells #[tv, bv] 24)) :
    WrW w W w.heap.size s n tv tv bv (List.replicate 64 0) := by
  subst hW
  have b4 := fun X : World => (Below.alloc (Below.refl X.heap.size X) (Nat.le_refl _) (.cells #[tv, bv] 24)).block
  have b3 := fun X : World => (Below.alloc (Below.refl X.heap.size X) (Nat.le_refl _) (.cells zeroBlk 104)).block
  have b2 := fun X : World => (Below.alloc (Below.refl X.heap.size X) (Nat.le_refl _) (.cells dzero 76)).block
  refine ⟨?_, ?_, ?_, ?_, ?_, rfl⟩
  · rw [b4 _ _ (by simp; omega), b3 _ _ (by simp; omega), b2 _ _ (by simp)]
    exact heap_alloc_new _ _
  · rw [b4 _ _ (by simp), b3 _ _ (by simp)]
    have := heap_alloc_new (w.alloc (.cells (digV s n tv) 76)) (.cells dzero 76)
    simpa using this
  · rw [b4 _ _ (by simp), ← blkV_zeros]
    have := heap_alloc_new ((w.alloc (.cells (digV s n tv) 76)).alloc (.cells dzero 76)) (.cells zeroBlk 104)
    simpa using this
  · have := heap_alloc_new (((w.alloc (.cells (digV s n tv) 76)).alloc (.cells dzero 76)).alloc (.cells zeroBlk 104)) (.cells #[tv, bv] 24)
    simpa using this
  · exact ((((Below.refl _ _).alloc (Nat.le_refl _) _).alloc (by simp) _).alloc (by simp; omega) _).alloc (by simp; omega) _
section
variable {w wr : World} {g : Nat} {s : St} {n : Int} {dt tv bv : Value} {blk : List UInt8}
theorem WrW.keep (h : WrW w wr g s n dt tv bv blk) {w' : World} (hb : Below wr.heap.size wr w') : WrW w w' g s n dt tv bv blk :=
  ⟨by rw [hb.block _ (lt_of_row' h.st)]; exact h.st, by rw [hb.block _ (lt_of_row' h.res)]; exact h.res, by rw [hb.block _ (lt_of_row' h.blk)]; exact h.blk, by rw [hb.block _ (lt_of_row' h.parts)]; exact h.parts,
    h.below.trans (hb.mono h.below.size), h.base⟩
theorem WrW.drawn (h : WrW w wr g s n dt tv bv blk) (k : Nat) : WrW w (wr.drewN k) g s n dt tv bv blk := h.keep ⟨rfl, rfl, rfl, Nat.le_refl _, fun _ _ => rfl⟩
theorem WrW.setBlk (h : WrW w wr g s n dt tv bv blk) (blk' : List UInt8) : WrW w (wr.setRow (g + 2) (blkV blk')) g s n dt tv bv blk' :=
  ⟨by rw [setRow_other _ _ _ _ (by omega)]; exact h.st, by rw [setRow_other _ _ _ _ (by omega)]; exact h.res, setRow_heap _ _ _ _ _ _ h.blk, by rw [setRow_other _ _ _ _ (by omega)]; exact h.parts,
    below_setRow h.below (by have := h.base; omega) _, h.base⟩
theorem WrW.setSt (h : WrW w wr g s n dt tv bv blk) (s' : St) : WrW w (wr.setRow g (digV s' n dt)) g s' n dt tv bv blk :=
  ⟨setRow_heap _ _ _ _ _ _ h.st, by rw [setRow_other _ _ _ _ (by omega)]; exact h.res, by rw [setRow_other _ _ _ _ (by omega)]; exact h.blk, by rw [setRow_other _ _ _ _ (by omega)]; exact h.parts,
    below_setRow h.below (by have := h.base; omega) _, h.base⟩
theorem WrW.setLen (h : WrW w wr g s n dt tv bv blk) (n' : Int) : WrW w (wr.setCell ⟨g, 8, none⟩ (.int .i64 n')) g s n' dt tv bv blk :=
  ⟨by rw [heap_setCell_same _ _ _ _ _ _ h.st]; rfl, by rw [heap_setCell_other _ _ _ _ (by show g + 1 ≠ g; omega)]; exact h.res, by rw [heap_setCell_other _ _ _ _ (by show g + 2 ≠ g; omega)]; exact h.blk,
    by rw [heap_setCell_other _ _ _ _ (by show g + 3 ≠ g; omega)]; exact h.parts, h.below.setCell (p := ⟨g, 8, none⟩) (by have := h.base; show w.heap.size ≤ g; omega) _, h.base⟩
theorem WrW.setTail (h : WrW w wr g s n dt tv bv blk) (t' : Value) : WrW w (wr.setCell ⟨g, 9, none⟩ t') g s n t' tv bv blk :=
  ⟨by rw [heap_setCell_same _ _ _ _ _ _ h.st]; rfl, by rw [heap_setCell_other _ _ _ _ (by show g + 1 ≠ g; omega)]; exact h.res, by rw [heap_setCell_other _ _ _ _ (by show g + 2 ≠ g; omega)]; exact h.blk,
    by rw [heap_setCell_other _ _ _ _ (by show g + 3 ≠ g; omega)]; exact h.parts, h.below.setCell (p := ⟨g, 9, none⟩) (by have := h.base; show w.heap.size ≤ g; omega) _, h.base⟩
theorem WrW.state (h : WrW w wr g s n dt tv bv blk) : RowAt wr g s.cells := fun j v hj => by
  rw [cell_of_row _ _ _ _ _ _ h.st]
  have hlt : j < 8 := (List.getElem?_eq_some_iff.1 hj).1
  match j, hlt with
  | 0, _ => exact hj
  | 1, _ => exact hj
  | 2, _ => exact hj
  | 3, _ => exact hj
  | 4, _ => exact hj
  | 5, _ => exact hj
  | 6, _ => exact hj
  | 7, _ => exact hj
end
section
variable {P : Program} {ops : Array Oper} {rest : List Oper} {o : Oper} {a : Act} {w : World} {Q : Exit → Act → World → Prop}
/-- A whole array, stored into the cells of a greater variable. -/
theorem wpList_store_sub (hgd : o.guard = none) (ty : TypeId) (x y : Operand) (ho : o.op = .store ty x y)
    (g off : Nat) (cells : Array Value) (hx : a.eval x = .pointer (some ⟨g, off, none⟩)) (hy : a.eval y = .agg cells)
    (t : TypeId) (cur new : Array Value) (hg : w.heap[g]? = some (.cells cur t (0, 0))) (hi : (P.info? ty).map (·.size) = some cells.size)
    (hfit : off + cells.size ≤ cur.size) (h1 : cells.all (·.oneCell') = true) (hn : (cur.toList.take off ++ cells.toList ++ cur.toList.drop (off + cells.size)).toArray = new)
    (h : wpList P ops Q rest (a.put o.dst undef) (w.setRow g new)) : wpList P ops Q (o :: rest) a w :=
  wpList_plain hgd fun K hK => by
    have hst := run_storeCells_at P g off t cells.toList 0 cur w hg (by simpa using hfit) (fun v hv => (Array.all_eq_true_iff_forall_mem.1 h1) v (by simpa using hv))
    have hsv : (storeVar ty ⟨g, off, none⟩ (.agg cells)).run P w = .ok () (w.setRow g new) := by
      cases hq : P.info? ty with
      | none => simp [hq] at hi
      | some i =>
        have hs : cells.size = i.size := by simp [hq] at hi; omega
        rw [← hn]
        simpa [storeVar, sizeOf, typeInfo, hq, Value.cells, hs] using hst
    unfold Oper.wp execOp
    simp only [ho, hx, hy, Instr.storeAt, Instr.sureAddr, Sem.run_bind, Sem.run_pure, Result.andThen_ok, hsv]
    exact hK _ _ h
end
theorem cells_size8 (s : St) : (Tryz.prog.info? 74).map (·.size) = some s.cells.size := size8' s
theorem cells_one (s : St) : s.cells.all (·.oneCell') = true := wordsV_one s.list
theorem run_slice_from (W : World) (g l : Nat) (hl : l < 64) :
    (Instr.sliceAt 104 (.pointer (some ⟨g, 0, none⟩)) (some (.int .i64 (l : Int))) none none).run Tryz.prog W = .ok (.slice (some ⟨g, l, none⟩) (64 - l) (64 - l)) W := by
  have e64 : Tryz.prog.arrayLen 104 = 64 := by kernel_rfl
  have es : (sizeOf (Tryz.prog.elem 104)).run Tryz.prog W = .ok 1 W := by rw [show Tryz.prog.elem 104 = 5 by kernel_rfl]; exact sizeOf_u8 W
  rw [run_sliceAt_array_l W 104 ⟨g, 0, none⟩ (by kernel_rfl) .i64 (l : Int) (by omega) (by rw [e64]; omega), es, e64]
  simp only [Result.andThen, slicedAt, Int.toNat_natCast, Nat.mul_one]
  rw [if_neg (by omega), Addr.add_lit, Nat.zero_add]
theorem run_slice_upto (W : World) (g h : Nat) (hh : h ≤ 64) :
    (Instr.sliceAt 104 (.pointer (some ⟨g, 0, none⟩)) none (some (.int .i64 (h : Int))) none).run Tryz.prog W = .ok (.slice (some ⟨g, 0, none⟩) h 64) W := by
  have e64 : Tryz.prog.arrayLen 104 = 64 := by kernel_rfl
  have es : (sizeOf (Tryz.prog.elem 104)).run Tryz.prog W = .ok 1 W := by rw [show Tryz.prog.elem 104 = 5 by kernel_rfl]; exact sizeOf_u8 W
  rw [run_sliceAt_array_h W 104 ⟨g, 0, none⟩ (by kernel_rfl) .i64 (h : Int) (by omega) (by rw [e64]; omega), es, e64]
  simp only [Result.andThen, slicedAt, Int.toNat_natCast, Nat.zero_mul, Nat.sub_zero]
  rw [if_neg (by omega)]
  congr 4

theorem run_part (W : World) (x : Addr) (len cap n : Nat) (hn : n ≤ len) :
    (Instr.sliceAt 24 (.slice (some x) len cap) (some (.int .i64 (n : Int))) none none).run Tryz.prog W = .ok (.slice (some (if cap = n then x else x.add n)) (len - n) (cap - n)) W := by
  have es : (sizeOf (Tryz.prog.elem 24)).run Tryz.prog W = .ok 1 W := by rw [show Tryz.prog.elem 24 = 5 by kernel_rfl]; exact sizeOf_u8 W
  rw [run_sliceAt_slice W 24 _ _ _ _ (by kernel_rfl), run_slice_l W 24 _ _ _ (by kernel_rfl) .i64 (n : Int) (by omega) (by omega), es]
  simp only [Result.andThen, sliced, Int.toNat_natCast, Nat.mul_one]
  split <;> rfl
theorem part_bytes {w : World} {x : Addr} {l : List UInt8} {cap n : Nat} (h : IsBytes w (some x) l cap) (hn : n ≤ l.length) : IsBytes w (some (if cap = n then x else x.add n)) (l.drop n) (cap - n) := by
  rcases h with ⟨h, _⟩ | ⟨y, hy, h1, h2, h3⟩
  · cases h
  · obtain rfl := Option.some.inj hy
    refine .inr ⟨_, rfl, by simp; omega, by omega, fun j hj => ?_⟩
    have hj' : j < l.length - n := by simpa using hj
    rw [if_neg (by omega), List.getElem_drop, ← h3 (n + j) (by omega)]
    congr 1
    unfold Addr.add
    by_cases h0 : n = 0
    · subst h0; simp
    · by_cases hj0 : j = 0
      · subst hj0; simp [h0]
      · simp [h0, hj0, Nat.add_assoc]
/-- What holds between two turns: P has been taken in, f of its bytes stand in the block. -/
structure WrP (w wr : World) (g : Nat) (n : Int) (dt tv bv : Value) (P : List UInt8) (f : Nat) (s : St) (blk : List UInt8) : Prop where
  W : WrW w wr g s n dt tv bv blk
  st : s = stS P
  len : blk.length = 64
  hf : f = P.length % 64
  pre : blk.take f = tailS P
  kk : RowAt wr 1 kkV
theorem WrP.drawn {w wr : World} {g : Nat} {n : Int} {dt tv bv : Value} {P : List UInt8} {f : Nat} {s : St} {blk : List UInt8} (h : WrP w wr g n dt tv bv P f s blk) (k : Nat) : WrP w (wr.drewN k) g n dt tv bv P f s blk :=
  ⟨h.W.drawn k, h.st, h.len, h.hf, h.pre, fun j v hj => h.kk j v hj⟩
theorem kk_setRow {w wr : World} {g b : Nat} {cs : Array Value} {s : St} {n : Int} {dt tv bv : Value} {blk : List UInt8} (h : RowAt wr 1 kkV) (hW : WrW w wr g s n dt tv bv blk) (hk : RowAt w 1 kkV) (hb : g ≤ b) : RowAt (wr.setRow b cs) 1 kkV := fun j v hj => by
  have hlt : 1 < w.heap.size := World.block_lt_of_cell? w _ (hk j v hj)
  rw [cell_setRow_other _ _ _ _ (by show 1 ≠ b; have := hW.base; omega)]
  exact h j v hj
theorem u8_size : (Tryz.prog.info? 5).map (·.size) = some 1 := by kernel_rfl
theorem bytesV_one (l : List UInt8) : ∀ v ∈ bytesV l, v.oneCell' = true := by
  intro v hv
  unfold bytesV at hv
  obtain ⟨c, _, rfl⟩ := List.mem_map.1 hv
  rfl
theorem copy_facts {P rest blk : List UInt8} {f n : Nat} (h : Turn P rest blk f n) {w wr : World} {g : Nat} {k : Int} {dt tv bv : Value} {s : St} (hp : WrP w wr g k dt tv bv P f s blk) {x : Addr} {pc : Nat} (hr : IsBytes w (some x) rest pc) (hn : n ≤ rest.length) :
    (bytesV (rest.take n)).length = Nat.min rest.length (64 - f) ∧ (∀ j v, (bytesV (rest.take n))[j]? = some v → wr.cell? (x.add j) = some v) ∧ f + (bytesV (rest.take n)).length ≤ (blkV blk).size ∧ (bytesV (rest.take n)).length = n ∧
      ((blkV blk).toList.take f ++ (bytesV (rest.take n) ++ (blkV blk).toList.drop (f + n))).toArray = blkV (splB blk f (rest.take n)) := by
  have h1 := h.hn
  have hl : (bytesV (rest.take n)).length = n := by rw [bytesV_len, List.length_take]; omega
  have hx : (rest.take n).length = n := by rw [List.length_take]; omega
  refine ⟨by rw [hl, h1]; exact Nat.min_comm _ _, fun j v hj => ?_, ?_, hl, ?_⟩
  · rcases hr with ⟨h, _⟩ | ⟨y, hy, _, _, h3⟩
    · cases h
    · obtain rfl := Option.some.inj hy
      unfold bytesV at hj
      rw [List.getElem?_map] at hj
      obtain ⟨c, hc, rfl⟩ := Option.map_eq_some_iff.1 hj
      obtain ⟨hlt, rfl⟩ := List.getElem?_eq_some_iff.1 hc
      have h5 := below_cell hp.W.below (h3 j (by omega))
      rw [h5, List.getElem_take]
  · have := h.lt
    rw [hl, show (blkV blk).size = 64 by unfold blkV bytesV; simpa using h.len]; omega
  · unfold splB blkV bytesV
    rw [hx]
    simp [List.map_take, List.map_drop]
theorem blk_bytes {w wr : World} {g : Nat} {n : Int} {dt tv bv : Value} {P : List UInt8} {f : Nat} {s : St} {blk : List UInt8} (h : WrW w wr g s n dt tv bv blk) (hl : blk.length = 64) (hp : blk.take f = tailS P) (hf : f < 64) :
    IsBytes wr (some ⟨g + 1 + 1, 0, none⟩) (tailS P) 64 := by
  refine .inr ⟨_, rfl, by rw [← hp, List.length_take]; omega, by decide, fun j hj => ?_⟩
  have hj' : j < f := by rw [← hp, List.length_take] at hj; omega
  rw [Addr.add_lit, Nat.zero_add, cell_of_row _ _ _ _ _ _ h.blk]
  have e : (tailS P)[j] = blk[j]'(by omega) := by simp only [← hp, List.getElem_take]
  rw [e]
  unfold blkV bytesV
  rw [List.getElem?_toArray, List.getElem?_map, List.getElem?_eq_getElem (by omega)]; rfl
theorem AccB.shape' {w0 w : World} {v : Value} {l : List UInt8} (h : AccB w0 w v l) : ∃ a cap, v = .slice a l.length cap ∧ IsBytes w a l cap ∧ ∀ x, a = some x → w0.heap.size ≤ x.block := by
  obtain ⟨a, cap, hv, hb⟩ := h.shape
  refine ⟨a, cap, hv, hb, fun x hx => ?_⟩
  subst hx
  obtain ⟨⟨h1, h2⟩, _⟩ := h
  rcases h2 with ⟨e, _⟩ | ⟨g, cap', cur, e, hg, _⟩
  · rw [hv] at e; injection e with e1; cases e1
  · rw [hv] at e; injection e with e1; cases e1; exact hg
/-- Bytes beyond block g + 1 stay as they are when the digest and the result are written. -/
theorem bytes_far {w : World} {a : Option Addr} {l : List UInt8} {cap B g : Nat} (h : IsBytes w a l cap) (hf : ∀ x, a = some x → B ≤ x.block) (hg : g + 1 < B) (i : Nat) (v : Value) (cs : Array Value) :
    IsBytes ((w.setCell ⟨g, i, none⟩ v).setRow (g + 1) cs) a l cap := by
  rcases h with h | ⟨x, h1, h2, h3, h4⟩
  · exact .inl h
  · refine .inr ⟨x, h1, h2, h3, fun j hj => ?_⟩
    have hb := hf x h1
    have hadd : (x.add j).block = x.block := by unfold Addr.add; split <;> rfl
    rw [cell_setRow_other _ _ _ _ (by rw [hadd]; omega), World.cell?_setCell_other]
    · exact h4 j hj
    · intro e; rw [← e] at hadd; simp at hadd; omega
def sliceLen : Value → Nat
  | .slice _ n _ => n
  | _ => 0

set_option maxRecDepth 100000 in
set_option maxHeartbeats 4000000 in
theorem write_core (a0 b0 c0 d0 e0 f0 g0 h0 : UInt32) (L l : List UInt8) (hL : stS L = ⟨a0, b0, c0, d0, e0, f0, g0, h0⟩) (ta ba : Option Addr) (tcap bcap : Nat) (w : World) (ht : IsBytes w ta (tailS L) tcap) (hb : IsBytes w ba l bcap)
    (hlen : L.length + l.length ≤ 140737488355328) (hk : RowAt w 1 kkV) :
    Calls Tryz.prog 40 #[.agg (digV (stS L) L.length (.slice ta (tailS L).length tcap)), .slice ba l.length bcap] w fun e w' => ∃ ta' tcap',
      e = .returned (.agg (digV (stS (L ++ l)) (L ++ l).length (.slice ta' (tailS (L ++ l)).length tcap'))) ∧ IsBytes w' ta' (tailS (L ++ l)) tcap' ∧ Below w.heap.size w w' ∧ ∀ x, ta' = some x → w.heap.size ≤ x.block := by
  have HT := Box.mk ht
  have HB := Box.mk hb
  have HK := Box.mk hk
  have HL := Box.mk hL
  clear ht hb hk hL
  have hz := (zero_of_info (P := Tryz.prog) zeroB64).1
  have hne := zeroBlk_ne
  rw [show stS L = _ from HL.out]
  unfold digV vW
  go_enter Tryz.func40, Tryz.ntmps40
  go_wp2_with fail
  obtain ⟨W, hW⟩ : ∃ W, W = (((w.alloc (.cells (digV ⟨a0, b0, c0, d0, e0, f0, g0, h0⟩ L.length (.slice ta (tailS L).length tcap)) 76)).alloc (.cells dzero 76)).alloc (.cells zeroBlk 104)).alloc (.cells #[.slice ta (tailS L).length tcap, .slice ba l.length bcap] 24) := ⟨_, rfl⟩
  have H0 := Box.mk (write_world w _ _ _ _ hW)
  change Code.wp _ _ _ _ ((((w.alloc (.cells (digV ⟨a0, b0, c0, d0, e0, f0, g0, h0⟩ L.length (.slice ta (tailS L).length tcap)) 76)).alloc (.cells dzero 76)).alloc (.cells zeroBlk 104)).alloc (.cells #[.slice ta (tailS L).length tcap, .slice ba l.length bcap] 24))
  rw [← hW]
  clear hW hz hne
  obtain ⟨g, HG⟩ : ∃ g, Box (w.heap.size = g) := ⟨_, ⟨rfl⟩⟩
  rw [show w.heap.size = g from HG.out] at H0 ⊢
  have hle : (tailS L).length < 64 := by rw [tailS_len]; omega
  have H1 : Box (WrP w W g L.length (.slice ta (tailS L).length tcap) (.slice ta (tailS L).length tcap) (.slice ba l.length bcap) (headS L) 0 ⟨a0, b0, c0, d0, e0, f0, g0, h0⟩ (List.replicate 64 0)) :=
    ⟨H0.out, by rw [(headS_st L).1]; exact HL.out.symm, by simp, by rw [headS_len]; omega, by rw [(headS_st L).2]; rfl, HK.out.keep (by rw [show w.heap.size = g from HG.out]; have := H0.out.below; rw [show w.heap.size = g from HG.out] at this; exact this)⟩
  go_loopw [6, 15] (fun fv kv wr => ∃ (k f : Nat) (s : St) (P blk : List UInt8), k ≤ 2 ∧ fv = .int .i64 f ∧ kv = .int .i64 k ∧ f < 64 ∧
    Box (WrP w wr g L.length (.slice ta (tailS L).length tcap) (.slice ta (tailS L).length tcap) (.slice ba l.length bcap) P f s blk ∧ (k = 0 → P = headS L) ∧ (k = 1 → P = L) ∧ (k = 2 → P = L ++ l))) (fun _ kv _ => 2 - (intOf kv).toNat)
  case atStart => exact ⟨0, 0, _, _, _, Nat.zero_le _, rfl, rfl, by decide, ⟨H1.out, fun _ => rfl, fun h => absurd h (by decide), fun h => absurd h (by decide)⟩⟩
  case round =>
    clear H1
    obtain ⟨k, f, s, P, blk, hk2, rfl, rfl, hf64, HP⟩ := hrel
    by_cases hlt : k < 2
    · obtain ⟨pa, pl, pc, hcell, hpl, HQ⟩ : ∃ (pa : Option Addr) (pl : List UInt8) (pc : Nat), wr.cell? ⟨g + 3, k, none⟩ = some (.slice pa pl.length pc) ∧ pl.length ≤ 140737488355328 ∧ Box (IsBytes w pa pl pc ∧ (k = 0 → P ++ pl = L) ∧ (k = 1 → P ++ pl = L ++ l)) := by
        match k, hlt with
        | 0, _ => exact ⟨ta, tailS L, tcap, by rw [cell_of_row _ _ _ _ _ _ HP.out.1.W.parts]; rfl, by omega, ⟨HT.out, fun _ => by rw [HP.out.2.1 rfl, headS_tail], fun h => absurd h (by decide)⟩⟩
        | 1, _ => exact ⟨ba, l, bcap, by rw [cell_of_row _ _ _ _ _ _ HP.out.1.W.parts]; rfl, by omega, ⟨HB.out, fun h => absurd h (by decide), fun _ => by rw [HP.out.2.2.1 rfl]⟩⟩
      change wr.cell? ⟨g + 1 + 1 + 1, k, none⟩ = _ at hcell
      go_wp2_with fail
      clear hcell
      rw [show decide ((k : Int) < 2) = true by rw [decide_eq_true_eq]; omega]
      have HLT := Box.mk hlt
      have HLE := Box.mk hle
      clear hlt hle
      go_loopw [6, 8] (fun fv pv wr => ∃ (f : Nat) (s : St) (P' blk rest : List UInt8) (pa : Option Addr) (pc : Nat), fv = .int .i64 f ∧ pv = .slice pa rest.length pc ∧ f < 64 ∧ rest.length ≤ 140737488355328 ∧
        Box (WrP w wr g L.length (.slice ta (tailS L).length tcap) (.slice ta (tailS L).length tcap) (.slice ba l.length bcap) P' f s blk ∧ P' ++ rest = P ++ pl ∧ IsBytes w pa rest pc)) (fun _ pv _ => sliceLen pv)
      case atStart => exact ⟨f, s, P, blk, pl, pa, pc, rfl, rfl, hf64, hpl, ⟨HP.out.1, rfl, HQ.out.1⟩⟩
      case round =>
        clear hf64 hpl
        obtain ⟨f, s, P', blk, rest, pa, pc, rfl, rfl, hf64, hpl, HR⟩ := hrel
        by_cases hr0 : 0 < rest.length
        · obtain ⟨x, rfl⟩ : ∃ x, pa = some x := by
            rcases HR.out.2.2 with ⟨_, h, _⟩ | ⟨x, h, _⟩
            · rw [h] at hr0; exact absurd hr0 (by decide)
            · exact ⟨x, h⟩
          obtain ⟨n, HN⟩ : ∃ n, Box (n = min (64 - f) rest.length) := ⟨_, ⟨rfl⟩⟩
          have hn1 : 0 < n ∧ n ≤ rest.length ∧ n ≤ 64 - f := by have := HN.out; omega
          have HTn := Box.mk (Turn.mk HR.out.1.len HR.out.1.hf HR.out.1.pre HN.out)
          have hsl := fun W => run_slice_from W (g + 1 + 1) f hf64
          have HC := Box.mk (copy_facts HTn.out HR.out.1 HR.out.2.2 hn1.2.1)
          go_wp2_with (refine wpList_copy_own rfl _ _ 24 24 rfl 5 Tryz.underlying24 u8_size (g + 2) f (64 - f) (64 - f) x rest.length pc rfl rfl (blkV blk) 104 HR.out.1.W.blk (bytesV (rest.take n)) HC.out.1 HC.out.2.1 HC.out.2.2.1 (bytesV_one _) ?_; rw [HC.out.2.2.2.1, HC.out.2.2.2.2])
          clear hsl
          obtain ⟨x', HX'⟩ : ∃ x', Box (x' = if pc = n then x else x.add n) := ⟨_, ⟨rfl⟩⟩
          have hpt := fun W => run_part W x rest.length pc n hn1.2.1
          rw [← HX'.out] at hpt
          have HRB : Box (IsBytes w (some x') (rest.drop n) (pc - n)) := ⟨by rw [HX'.out]; exact part_bytes HR.out.2.2 hn1.2.1⟩
          obtain ⟨fn, hwf, hfn, HFN⟩ : ∃ fn : Nat, IntKind.i64.wrap ((f : Int) + (n : Int)) = fn ∧ fn ≤ 64 ∧ Box (fn = f + n) := ⟨f + n, by simp only [IntKind.wrap, IntKind.bits, IntKind.signed]; simp; omega, by omega, ⟨rfl⟩⟩
          go_quiet (fail)
          clear hwf hpt
          have HW5 := Box.mk ((HR.out.1.W.setBlk (splB blk f (rest.take n))).drawn nq)
          have HK5 : Box (RowAt ((wr.setRow (g + 2) (blkV (splB blk f (rest.take n)))).drewN nq) 1 kkV) := ⟨fun j v hj => kk_setRow HR.out.1.kk HR.out.1.W HK.out (by omega) j v hj⟩
          generalize (wr.setRow (g + 2) (blkV (splB blk f (rest.take n)))).drewN nq = W5 at *
          by_cases h64 : fn = 64
          · have hb : ((fn : Int) == 64) = true := by rw [h64]; rfl
            have HTF := Box.mk (HTn.out.full (by have := HFN.out; omega))
            have hlb : (splB blk f (rest.take n)).length = 64 := by rw [splB_len (by rw [List.length_take, HR.out.1.len]; omega), HR.out.1.len]
            have HS := Box.mk HR.out.1.st
            have HPR := Box.mk HR.out.2.1
            clear HR HC h64
            generalize hB : splB blk f (rest.take n) = blk' at *
            have HBB := Box.mk hB
            clear hB
            go_wp2_with (first
              | (refine wpList_load_at rfl 74 _ rfl g rfl s.cells _ HW5.out.state Tryz.underlying74 rfl (cells_size8 s) ?_)
              | (refine wpList_load_row rfl 104 _ rfl (g + 2) rfl 104 (blkV blk') (0, 0) _ HW5.out.blk Tryz.underlying104 rfl (blk_size blk' hlb) ?_))
            refine (compress_any s blk' hlb W5 HK5.out).mono ?_
            rintro e W6 ⟨rfl, hb6⟩
            have HW6 := Box.mk (HW5.out.keep hb6)
            have HK6 := Box.mk (HK5.out.keep hb6)
            clear hb6 HW5 HK5
            obtain ⟨s', HS'⟩ : ∃ s', Box (blockS s blk' = s') := ⟨_, ⟨rfl⟩⟩
            rw [show blockS s blk' = s' from HS'.out]
            go_wp2_with (refine wpList_store_sub rfl 74 _ _ rfl g 0 s'.cells rfl rfl 76 _ (digV s' L.length (.slice ta (tailS L).length tcap)) HW6.out.st (cells_size8 s') (by show 0 + 8 ≤ 10; decide) (cells_one s') rfl ?_)
            go_roundw
            case rel =>
              refine ⟨0, s', P' ++ rest.take n, blk', rest.drop n, some x', pc - n, rfl, by rw [List.length_drop], by decide, by rw [List.length_drop]; omega, ⟨⟨HW6.out.setSt s', ?_, hlb, HTF.out.2.2.2.symm, ?_, ?_⟩, ?_, HRB.out⟩⟩
              · rw [HTF.out.2.1, ← HS'.out, HS.out]
              · rw [HTF.out.2.2.1]; rfl
              · exact kk_setRow HK6.out HW6.out HK.out (Nat.le_refl _)
              · rw [← HPR.out, List.append_assoc, List.take_append_drop]
            case measure => simp [sliceLen]; omega
          · have hb : ((fn : Int) == 64) = false := by rw [beq_eq_false_iff_ne]; omega
            have HTF := Box.mk (HTn.out.part (by have := HFN.out; omega))
            have hlb : (splB blk f (rest.take n)).length = 64 := by rw [splB_len (by rw [List.length_take, HR.out.1.len]; omega), HR.out.1.len]
            have HS := Box.mk HR.out.1.st
            have HPR := Box.mk HR.out.2.1
            clear HR HC
            go_wp2_with fail
            go_roundw
            case rel =>
              refine ⟨fn, s, P' ++ rest.take n, splB blk f (rest.take n), rest.drop n, some x', pc - n, rfl, by rw [List.length_drop], by omega, by rw [List.length_drop]; omega, ⟨⟨HW5.out, ?_, hlb, ?_, ?_, HK5.out⟩, ?_, HRB.out⟩⟩
              · rw [HTF.out.1, HS.out]
              · rw [HTF.out.2.2.1, HFN.out]
              · rw [HFN.out]; exact HTF.out.2.1
              · rw [← HPR.out, List.append_assoc, List.take_append_drop]
            case measure => simp [sliceLen]; omega
        · have HE := Box.mk (show rest = [] from List.eq_nil_of_length_eq_zero (by omega))
          go_wp2_with fail
          go_roundw
          case rel =>
            have hP : P' = P ++ pl := by rw [← HR.out.2.1, HE.out, List.append_nil]
            exact ⟨k + 1, f, s, P', blk, by have := HLT.out; omega, rfl, by go_num, hf64, ⟨HR.out.1, fun h => absurd h (by omega), fun h => by rw [hP]; exact HQ.out.2.1 (by omega), fun h => by rw [hP]; exact HQ.out.2.2 (by omega)⟩⟩
          case measure => have := HLT.out; simp [intOf]; omega
    · have HPE := Box.mk (show P = L ++ l from HP.out.2.2.2 (by omega))
      have h8 : wr.cell? ⟨g, 8, none⟩ = some (.int .i64 L.length) := by rw [cell_of_row _ _ _ _ _ _ HP.out.1.W.st]; rfl
      have f8 := frozen_of_row wr g 8 _ _ HP.out.1.W.st
      have hsl := fun W => run_slice_upto W (g + 1 + 1) f (by omega)
      have HW8 := Box.mk (HP.out.1.W.setLen ((L.length : Int) + (l.length : Int)))
      have hft : (tailS P).length = f := by rw [tailS_len, HP.out.1.hf]
      have HBY := Box.mk (blk_bytes HW8.out HP.out.1.len HP.out.1.pre hf64)
      clear hle
      go_wp2_with (at_builtin; refine wpList_append_accs _ rfl _ _ rfl rfl (AccB.start _) (by rw [hft]; rfl) HBY.out (by rw [hft, List.length_nil]; omega) ?c1)
      case c1 =>
        intro v1 w1 hacc
        obtain ⟨a1, c1, rfl, hb1, hbl⟩ := hacc.shape'
        have HB1 := Box.mk hb1
        have HBL := Box.mk hbl
        have HW1 := Box.mk (HW8.out.keep hacc.2)
        clear hacc hb1 hbl h8 f8 hsl
        have h9 : w1.cell? ⟨g, 9, none⟩ = some (.slice ta (tailS L).length tcap) := by rw [cell_of_row _ _ _ _ _ _ HW1.out.st]; rfl
        have f9 := frozen_of_row w1 g 9 _ _ HW1.out.st
        have HW2 := Box.mk (HW1.out.setTail (.slice a1 f c1))
        go_wp2_with (first
          | (refine wpList_load_row rfl 76 _ rfl g rfl 76 _ (0, 0) _ HW2.out.st Tryz.underlying76 rfl sizeDig ?_)
          | (refine wpList_store_row rfl 76 _ _ rfl (g + 1) _ rfl rfl 76 dzero HW2.out.res sizeDig rfl (digV_one _ _ _ _ _) ?_))
        refine ret_row (g := g + 1) (cs := digV s ((L.length : Int) + (l.length : Int)) (.slice a1 f c1)) rfl rfl rfl (setRow_heap _ _ dzero _ 76 (0, 0) HW2.out.res) Tryz.underlying76 rfl sizeDig ?_
        have hst := HP.out.1.st
        rw [HPE.out] at hst HB1 hft
        refine ⟨a1, c1, ?_, ?_, ?_, fun x hx => ?_⟩
        · rw [hst, ← hft, List.length_append, Int.natCast_add]; rfl
        · exact bytes_far HB1.out HBL.out (by rw [World.size_setCell]; have := lt_of_row' HP.out.1.W.res; exact this) _ _ _
        · exact below_setRow HW2.out.below (by have := HW2.out.base; omega) _
        · have h1 := HBL.out x hx
          have h2 := HW8.out.below.size
          omega

/-- v is the digest's state after the bytes L. -/
def DigAt (w : World) (v : Value) (L : List UInt8) : Prop := ∃ ta tcap, v = .agg (digV (stS L) L.length (.slice ta (tailS L).length tcap)) ∧ IsBytes w ta (tailS L) tcap
theorem DigAt.keep {w w' : World} {v : Value} {L : List UInt8} (h : DigAt w v L) (hb : Below w.heap.size w w') : DigAt w' v L := by
  obtain ⟨ta, tc, h1, h2⟩ := h
  exact ⟨ta, tc, h1, h2.keep hb⟩
theorem write_any (L l : List UInt8) (v : Value) (ba : Option Addr) (bcap : Nat) (w : World) (hv : DigAt w v L) (hb : IsBytes w ba l bcap) (hlen : L.length + l.length ≤ 140737488355328) (hk : RowAt w 1 kkV) :
    Calls Tryz.prog 40 #[v, .slice ba l.length bcap] w fun e w' => ∃ ta' tcap', e = .returned (.agg (digV (stS (L ++ l)) (L ++ l).length (.slice ta' (tailS (L ++ l)).length tcap'))) ∧ IsBytes w' ta' (tailS (L ++ l)) tcap' ∧ Below w.heap.size w w' ∧ ∀ x, ta' = some x → w.heap.size ≤ x.block := by
  obtain ⟨ta, tcap, rfl, ht⟩ := hv
  obtain ⟨a0, b0, c0, d0, e0, f0, g0, h0, hL⟩ : ∃ a0 b0 c0 d0 e0 f0 g0 h0, stS L = ⟨a0, b0, c0, d0, e0, f0, g0, h0⟩ := ⟨_, _, _, _, _, _, _, _, rfl⟩
  exact write_core a0 b0 c0 d0 e0 f0 g0 h0 L l hL ta ba tcap bcap w ht hb hlen hk
/-- A variable in block g that holds the digest's state after L. -/
def DigRow (w : World) (g : Nat) (L : List UInt8) : Prop :=
  ∃ ta tcap, w.heap[g]? = some (.cells (digV (stS L) L.length (.slice ta (tailS L).length tcap)) 76 (0, 0)) ∧ IsBytes w ta (tailS L) tcap ∧ ∀ x, ta = some x → x.block ≠ g
theorem bytes_setRow {w : World} {a : Option Addr} {l : List UInt8} {cap g : Nat} (h : IsBytes w a l cap) (hf : ∀ x, a = some x → x.block ≠ g) (cs : Array Value) : IsBytes (w.setRow g cs) a l cap := by
  rcases h with h | ⟨x, h1, h2, h3, h4⟩
  · exact .inl h
  · refine .inr ⟨x, h1, h2, h3, fun j hj => ?_⟩
    have hb := hf x h1
    have hadd : (x.add j).block = x.block := by unfold Addr.add; split <;> rfl
    rw [cell_setRow_other _ _ _ _ (by rw [hadd]; exact hb)]
    exact h4 j hj
theorem DigRow.keep {w w' : World} {g : Nat} {L : List UInt8} (h : DigRow w g L) (hb : Below w.heap.size w w') : DigRow w' g L := by
  obtain ⟨ta, tc, h1, h2, h3⟩ := h
  exact ⟨ta, tc, by rw [hb.block _ (lt_of_row' h1)]; exact h1, h2.keep hb, h3⟩
theorem DigRow.lt {w : World} {g : Nat} {L : List UInt8} (h : DigRow w g L) : g < w.heap.size := by
  obtain ⟨ta, tc, h1, _⟩ := h
  exact lt_of_row' h1
/-- What Write hands back, stored into the variable. -/
theorem DigRow.set {w : World} {g : Nat} {L0 L : List UInt8} (h : DigRow w g L0) {ta : Option Addr} {tc : Nat} (ht : IsBytes w ta (tailS L) tc) (hf : ∀ x, ta = some x → x.block ≠ g) :
    DigRow (w.setRow g (digV (stS L) L.length (.slice ta (tailS L).length tc))) g L := by
  obtain ⟨_, _, h1, _⟩ := h
  exact ⟨ta, tc, setRow_heap _ _ _ _ _ _ h1, bytes_setRow ht hf _, hf⟩
end Go.Proofs.YtgmbfiikkogenaaGreatDoor
namespace Go.Proofs.YtgmbfiikkogenaaGreatDoor
open Go.RowKit

theorem vU_byte8 (y : UInt32) : vU y % (256 : Int) = (((y.toUInt8).toNat : Nat) : Int) := by
  unfold vU
  rw [UInt32.toNat_toUInt8]; omega
theorem vU_shr24 (x : UInt32) : vU x / (16777216 : Int) = vU (x >>> 24) := vU_shr' x 24 (by decide)
theorem vU_shr16 (x : UInt32) : vU x / (65536 : Int) = vU (x >>> 16) := vU_shr' x 16 (by decide)
theorem vU_shr8 (x : UInt32) : vU x / (256 : Int) = vU (x >>> 8) := vU_shr' x 8 (by decide)
theorem bytes_new (w : World) (l : List UInt8) (cs : Array Value) (hc : cs = (bytesV l).toArray) (hl : l.length ≤ maxLen) (fr : Nat × Nat) : IsBytes (w.alloc (.cells cs 5 fr)) (some ⟨w.heap.size, 0, none⟩) l l.length := by
  subst hc
  refine .inr ⟨_, rfl, Nat.le_refl _, hl, fun j hj => ?_⟩
  rw [Addr.add_lit, Nat.zero_add, cell_of_row _ _ _ _ _ _ (heap_alloc_new _ _)]
  unfold bytesV
  rw [List.getElem?_toArray, List.getElem?_map, List.getElem?_eq_getElem hj]; rfl

set_option maxHeartbeats 1000000 in
theorem appendWord_any (x : UInt32) (w0 w : World) (v : Value) (l : List UInt8) (h : AccB w0 w v l) (hn : l.length + 4 ≤ 140737488355328) :
    Calls Tryz.prog 66 #[v, .int .u32 (vU x)] w fun e w' => ∃ v', e = .returned v' ∧ AccB w0 w' v' (l ++ be4 x) := by
  have s24 := vU_shr24
  have s16 := vU_shr16
  have s8 := vU_shr8
  have hb := vU_byte8
  have HA := Box.mk (h.keep ((Below.refl _ _).alloc (Nat.le_refl _) (.cells (bytesV (be4 x)).toArray 5)))
  have HB := Box.mk (bytes_new w (be4 x) _ rfl (show 4 ≤ maxLen by decide) (0, 0))
  clear h
  go_enter Tryz.func66, Tryz.ntmps66
  go_wp2_with (at_builtin; refine wpList_append_accs _ rfl _ _ rfl rfl HA.out rfl HB.out hn ?c1)
  case c1 =>
    intro v1 w1 hacc
    have H1 := Box.mk hacc
    clear hacc
    go_wp2_with fail
    go_ret
    exact ⟨_, rfl, H1.out⟩
end Go.Proofs.YtgmbfiikkogenaaGreatDoor
namespace Go.Proofs.YtgmbfiikkogenaaGreatDoor
open Go.RowKit

theorem u32_hi (n : Nat) (hn : n ≤ 140737488355328) : ((n : Int) * 8) / (4294967296 : Int) = vU (UInt32.ofNat (8 * n / 4294967296)) := by
  unfold vU
  rw [UInt32.toNat_ofNat']
  have : 8 * n / 4294967296 < 2 ^ 32 := by omega
  rw [Nat.mod_eq_of_lt this]
  omega
theorem u32_lo (n : Nat) : ((n : Int) * 8) % (4294967296 : Int) = vU (UInt32.ofNat (8 * n)) := by
  unfold vU
  rw [UInt32.toNat_ofNat', show (2 : Nat) ^ 32 = 4294967296 by decide]
  omega

theorem made_bytes {w w0 w1 : World} {k N : Nat} (h : w1.ownsRow w.heap.size 5 1 (.slice (some ⟨k, 0, none⟩) N N) N (madeCells #[.int .u8 0] N).toList) (hb : Below w.heap.size w w0) (hg : w0.grownBy w1 none) :
    AccB w w1 (.slice (some ⟨k, 0, none⟩) N N) (List.replicate N 0) := by
  refine ⟨?_, hb.grown hg hb.size fun k hk => by cases hk⟩
  have e : bytesV (List.replicate N 0) = (madeCells #[.int .u8 0] N).toList := by
    rw [toList_madeCells_one]
    unfold bytesV
    rw [List.map_replicate]; rfl
  rw [e, List.length_replicate]; exact h
/-- One byte of a slice of the call's own is written. -/
theorem AccB.store {w0 w : World} {k n cap : Nat} {l : List UInt8} (h : AccB w0 w (.slice (some ⟨k, 0, none⟩) n cap) l) (i : Nat) (hi : i < l.length) (c : UInt8) :
    (∃ u, w.cell? ⟨k, i, none⟩ = some u) ∧ w.frozen? ⟨k, i, none⟩ = false ∧ AccB w0 (w.setCell ⟨k, i, none⟩ (.int .u8 (c.toNat : Int))) (.slice (some ⟨k, 0, none⟩) n cap) (l.set i c) := by
  obtain ⟨⟨h1, h2⟩, hb⟩ := h
  rcases h2 with ⟨e, _⟩ | ⟨g, cap', cur, e, hg, hh, hn, hm, hs, ht⟩
  · cases e
  · injection e with e1 e2 e3
    injection e1 with e1
    injection e1 with e1
    subst e1 e2 e3
    have hlt : i < cur.size := by rw [hs]; omega
    refine ⟨⟨cur[i], by rw [cell_of_row _ _ _ _ _ _ hh]; simp [hlt]⟩, frozen_of_row _ _ _ _ _ hh, ⟨?_, ?_⟩, hb.setCell (p := ⟨k, i, none⟩) hg _⟩
    · simp [Go.Proofs.YtgmbfiikkogenaaGreatDoor.bytesV]
    · refine .inr ⟨k, cap, cur.setIfInBounds i (.int .u8 (c.toNat : Int)), by simp, hg, heap_setCell_same _ _ _ _ _ _ hh, by simpa using hn, hm, by simpa using hs, ?_⟩
      rw [Array.toList_setIfInBounds, List.length_set, List.take_set, ht]
      unfold Go.Proofs.YtgmbfiikkogenaaGreatDoor.bytesV
      rw [List.map_set]

theorem dig_len (w : World) (s : St) (n : Int) (t : Value) : (w.alloc (.cells (digV s n t) 76)).cell? ⟨w.heap.size, 8, none⟩ = some (.int .i64 n) := by
  rw [cell_of_row _ _ _ _ _ _ (heap_alloc_new _ _)]; rfl
theorem pad_eq (n t N : Nat) (ht : t = n % 64) (hN : N = 1 + (119 - t) % 64) : padL n = (List.replicate N 0).set 0 128 ++ be4 (UInt32.ofNat (8 * n / 4294967296)) ++ be4 (UInt32.ofNat (8 * n)) := by
  subst hN ht
  unfold padL
  rw [Nat.add_comm 1, List.replicate_succ, List.set_cons_zero, List.append_assoc]

set_option maxHeartbeats 600000 in
theorem padding_core (s : St) (L : List UInt8) (ta : Option Addr) (tcap : Nat) (w : World) (hL : L.length ≤ 140737488355328) :
    Calls Tryz.prog 65 #[.agg #[.int .u32 (vU s.a), .int .u32 (vU s.b), .int .u32 (vU s.c), .int .u32 (vU s.d), .int .u32 (vU s.e), .int .u32 (vU s.f), .int .u32 (vU s.g), .int .u32 (vU s.h), .int .i64 L.length, .slice ta (tailS L).length tcap]] w
      fun e w' => ∃ v', e = .returned v' ∧ AccB w w' v' (padL L.length) := by
  obtain ⟨t, ht, HT⟩ : ∃ t, t < 64 ∧ Box ((tailS L).length = t ∧ t = L.length % 64) := ⟨_, by rw [tailS_len]; omega, ⟨rfl, tailS_len L⟩⟩
  rw [show (tailS L).length = t from HT.out.1]
  obtain ⟨n, HN⟩ : ∃ n, Box (L.length = n) := ⟨_, ⟨rfl⟩⟩
  rw [show L.length = n from HN.out] at hL ⊢
  go_enter Tryz.func65, Tryz.ntmps65
  obtain ⟨i0, hi, hz0, hz1, hz2⟩ := info_parts Tryz.info5
  obtain ⟨N, HN2⟩ : ∃ N, Box (N = 1 + (119 - t) % 64) := ⟨_, ⟨rfl⟩⟩
  have hN64 : N ≤ 64 := by have := HN2.out; omega
  have HI := Box.mk (show i0.bytes * N ≤ 281474976710656 ∧ N ≤ maxLen by rw [hz2]; unfold maxLen; omega)
  have HZ := Box.mk (And.intro hi (And.intro hz0 hz1))
  clear hi hz0 hz1 hz2
  go_wp2_with (at_make; refine wpList_make_full _ rfl _ _ 24 rfl w.heap.size 5 i0 (.int .u8 0) 1 Tryz.underlying24 HZ.out.1 HZ.out.2.1 HZ.out.2.2 .i64 .i64 _ _ N rfl rfl (by have := HN2.out; omega) (by have := HN2.out; omega) HI.out.1 HI.out.2 (by simp) ?c1)
  case c1 =>
    intro w1 hown hgrow
    have HA := Box.mk (made_bytes hown (by exact (Below.refl _ _).alloc (Nat.le_refl _) _) hgrow)
    have h8 := below_cell ((Below.refl _ _).grown hgrow (Nat.le_refl _) fun k hk => by cases hk) (dig_len w s n (.slice ta t tcap))
    clear hown hgrow
    have hN0 : 0 < N := by have := HN2.out; omega
    obtain ⟨⟨u, hc⟩, hf, hset⟩ := HA.out.store 0 (by simpa using hN0) 128
    have HS : Box (AccB w (w1.setCell ⟨w.heap.size + 1, 0, none⟩ (.int .u8 128)) (.slice (some ⟨w.heap.size + 1, 0, none⟩) N N) ((List.replicate N 0).set 0 128)) := ⟨hset⟩
    clear hset
    have hhi := u32_hi n hL
    have hlo := u32_lo n
    have hpe := Box.mk (pad_eq n t N (by rw [← HN.out]; exact HT.out.2) HN2.out)
    generalize UInt32.ofNat (8 * n / 4294967296) = x1 at *
    generalize UInt32.ofNat (8 * n) = x2 at *
    go_wp2_with fail
    refine (appendWord_any x1 w _ _ _ HS.out (by simp; omega)).mono ?_
    rintro e w2 ⟨v2, rfl, h2⟩
    have H2 := Box.mk h2
    clear h2
    go_wp2_with fail
    refine (appendWord_any x2 w _ _ _ H2.out (by simp [be4]; omega)).mono ?_
    rintro e w3 ⟨v3, rfl, h3⟩
    have H3 := Box.mk h3
    clear h3
    go_wp2_with fail
    go_ret
    refine ⟨_, rfl, ?_⟩
    rw [hpe.out]
    exact H3.out
end Go.Proofs.YtgmbfiikkogenaaGreatDoor
namespace Go.Proofs.YtgmbfiikkogenaaGreatDoor
open Go.RowKit

/-- The ten cells of a digest. -/
def DigCells (w : World) (g : Nat) (s : St) (n : Int) (t : Value) : Prop :=
  w.cell? ⟨g, 0, none⟩ = some (.int .u32 (vU s.a)) ∧ w.cell? ⟨g, 1, none⟩ = some (.int .u32 (vU s.b)) ∧ w.cell? ⟨g, 2, none⟩ = some (.int .u32 (vU s.c)) ∧ w.cell? ⟨g, 3, none⟩ = some (.int .u32 (vU s.d)) ∧
  w.cell? ⟨g, 4, none⟩ = some (.int .u32 (vU s.e)) ∧ w.cell? ⟨g, 5, none⟩ = some (.int .u32 (vU s.f)) ∧ w.cell? ⟨g, 6, none⟩ = some (.int .u32 (vU s.g)) ∧ w.cell? ⟨g, 7, none⟩ = some (.int .u32 (vU s.h)) ∧
  w.cell? ⟨g, 8, none⟩ = some (.int .i64 n) ∧ w.cell? ⟨g, 9, none⟩ = some t
theorem digCells_new (w : World) (s : St) (n : Int) (t : Value) : DigCells (w.alloc (.cells (digV s n t) 76)) w.heap.size s n t := by
  unfold DigCells
  simp only [cell_of_row _ _ _ _ _ _ (heap_alloc_new w (.cells (digV s n t) 76))]
  exact ⟨rfl, rfl, rfl, rfl, rfl, rfl, rfl, rfl, rfl, rfl⟩

theorem padding_lit (s : St) (L : List UInt8) (hs : stS L = s) (ta : Option Addr) (tcap : Nat) (w : World) (_ht : IsBytes w ta (tailS L) tcap) (hL : L.length ≤ 140737488355328) :
    Calls Tryz.prog 65 #[.agg #[.int .u32 (vU s.a), .int .u32 (vU s.b), .int .u32 (vU s.c), .int .u32 (vU s.d), .int .u32 (vU s.e), .int .u32 (vU s.f), .int .u32 (vU s.g), .int .u32 (vU s.h), .int .i64 L.length, .slice ta (tailS L).length tcap]] w
      fun e w' => ∃ pa pc, e = .returned (.slice pa (padL L.length).length pc) ∧ IsBytes w' pa (padL L.length) pc ∧ Below w.heap.size w w' := by
  subst hs
  refine (padding_core (stS L) L ta tcap w hL).mono ?_
  rintro e w' ⟨v', rfl, h⟩
  obtain ⟨a, c, rfl, hb⟩ := h.shape
  exact ⟨a, c, rfl, hb, h.2⟩
theorem pad_le (n : Nat) : (padL n).length ≤ 128 := by
  unfold padL be4
  simp only [List.length_append, List.length_cons, List.length_replicate, List.length_nil]
  omega
theorem write_lit (s : St) (L l : List UInt8) (hs : stS L = s) (ta ba : Option Addr) (tcap bcap : Nat) (w : World) (ht : IsBytes w ta (tailS L) tcap) (hb : IsBytes w ba l bcap) (hlen : L.length + l.length ≤ 140737488355328) (hk : RowAt w 1 kkV) :
    Calls Tryz.prog 40 #[.agg #[.int .u32 (vU s.a), .int .u32 (vU s.b), .int .u32 (vU s.c), .int .u32 (vU s.d), .int .u32 (vU s.e), .int .u32 (vU s.f), .int .u32 (vU s.g), .int .u32 (vU s.h), .int .i64 L.length, .slice ta (tailS L).length tcap], .slice ba l.length bcap] w
      fun e w' => ∃ ta' tcap', e = .returned (.agg (digV (stS (L ++ l)) (L ++ l).length (.slice ta' (tailS (L ++ l)).length tcap'))) ∧ Below w.heap.size w w' := by
  subst hs
  refine (write_core _ _ _ _ _ _ _ _ L l rfl ta ba tcap bcap w ht hb hlen hk).mono ?_
  rintro e w' ⟨ta', tc', he, _, h2, _⟩
  exact ⟨ta', tc', he, h2⟩
theorem dig_part (W : World) (cs : Array Value) : (part 74 cs 0).run Tryz.prog W = .ok (.agg (cs.extract 0 (0 + 8))) W := by
  have ha : (isAgg 74).run Tryz.prog W = .ok true W := by
    unfold isAgg
    rw [Sem.run_bind, run_underlying Tryz.underlying74 W]; rfl
  have hs : (sizeOf 74).run Tryz.prog W = .ok 8 W := by
    have h := size8
    cases hq : Tryz.prog.info? 74 with
    | none => simp [hq] at h
    | some i => simp [hq] at h; simp [sizeOf, typeInfo, hq, h]
  unfold part
  simp only [Sem.run_bind, ha, Result.andThen_ok, if_true, hs, Sem.run_pure]
theorem run_field_state (W : World) (s : St) (n : Int) (t : Value) : (Instr.field 76 (.agg (digV s n t)) 0).run Tryz.prog W = .ok (.agg s.cells) W := by
  have hp := dig_part W (digV s n t)
  have hx : (digV s n t).extract 0 (0 + 8) = s.cells := rfl
  rw [hx] at hp
  unfold Instr.field
  simp only [Sem.run_bind, run_underlying Tryz.underlying76, Result.andThen_ok]
  exact hp

theorem flat_len : ∀ l : List UInt32, (l.flatMap be4).length = 4 * l.length
  | [] => rfl
  | x :: r => by rw [List.flatMap_cons, List.length_append, flat_len r]; simp [be4]; omega
theorem flat_snoc (l : List UInt32) (m : Nat) (h : m < l.length) : (l.take (m + 1)).flatMap be4 = (l.take m).flatMap be4 ++ be4 l[m] := by
  rw [List.take_succ_eq_append_getElem h, List.flatMap_append]; simp

set_option maxRecDepth 100000 in
set_option maxHeartbeats 2000000 in
theorem sum_core (s : St) (L : List UInt8) (hs : stS L = s) (ta : Option Addr) (tcap : Nat) (w : World) (ht : IsBytes w ta (tailS L) tcap) (hL : L.length ≤ 70368744177664) (hk : RowAt w 1 kkV) :
    Calls Tryz.prog 41 #[.agg #[.int .u32 (vU s.a), .int .u32 (vU s.b), .int .u32 (vU s.c), .int .u32 (vU s.d), .int .u32 (vU s.e), .int .u32 (vU s.f), .int .u32 (vU s.g), .int .u32 (vU s.h), .int .i64 L.length, .slice ta (tailS L).length tcap]] w
      fun e w' => ∃ v', e = .returned v' ∧ AccB w w' v' (sumS L) := by
  have HT := Box.mk ht
  have HK := Box.mk hk
  have HS := Box.mk hs
  clear ht hk hs
  go_enter Tryz.func41, Tryz.ntmps41
  go_wp2_with fail
  have HC := digCells_new w s L.length (.slice ta (tailS L).length tcap)
  have HB := (Below.refl w.heap.size w).alloc (Nat.le_refl _) (.cells (digV s L.length (.slice ta (tailS L).length tcap)) 76)
  change Code.wp _ _ _ _ (w.alloc (.cells (digV s L.length (.slice ta (tailS L).length tcap)) 76))
  generalize w.alloc (.cells (digV s L.length (.slice ta (tailS L).length tcap)) 76) = W at *
  obtain ⟨c0, c1, c2, c3, c4, c5, c6, c7, c8, c9⟩ := HC
  have hB0 := Below.refl W.heap.size W
  have hfd := run_field_state
  have hpl := pad_le L.length
  go_region_held3 (fun w' => w'.cell? ⟨w.heap.size, 0, none⟩ = some (.int .u32 (vU s.a)) ∧ w'.cell? ⟨w.heap.size, 1, none⟩ = some (.int .u32 (vU s.b)) ∧ w'.cell? ⟨w.heap.size, 2, none⟩ = some (.int .u32 (vU s.c)) ∧ w'.cell? ⟨w.heap.size, 3, none⟩ = some (.int .u32 (vU s.d)) ∧
      w'.cell? ⟨w.heap.size, 4, none⟩ = some (.int .u32 (vU s.e)) ∧ w'.cell? ⟨w.heap.size, 5, none⟩ = some (.int .u32 (vU s.f)) ∧ w'.cell? ⟨w.heap.size, 6, none⟩ = some (.int .u32 (vU s.g)) ∧ w'.cell? ⟨w.heap.size, 7, none⟩ = some (.int .u32 (vU s.h)) ∧
      w'.cell? ⟨w.heap.size, 8, none⟩ = some (.int .i64 L.length) ∧ w'.cell? ⟨w.heap.size, 9, none⟩ = some (.slice ta (tailS L).length tcap) ∧ Below W.heap.size W w')
    (first
      | exact ⟨c0, c1, c2, c3, c4, c5, c6, c7, c8, c9, hB0⟩
      | exact ⟨c0, c1, c2, c3, c4, c5, c6, c7, c8, c9, hB0.drew⟩
      | (go_split_ands
         exact ⟨by assumption, by assumption, by assumption, by assumption, by assumption, by assumption, by assumption, by assumption, by assumption, by assumption, by assumption⟩)
      | (go_split_ands
         exact ⟨below_cell (by assumption) c0, below_cell (by assumption) c1, below_cell (by assumption) c2, below_cell (by assumption) c3, below_cell (by assumption) c4, below_cell (by assumption) c5, below_cell (by assumption) c6, below_cell (by assumption) c7, below_cell (by assumption) c8, below_cell (by assumption) c9, by assumption⟩))
    (first
      | (go_at_call 65
         go_split_ands
         refine (padding_lit s L HS.out ta tcap _ (HT.out.keep (below_trans HB (by assumption))) (by omega)).mono ?_
         rintro e w8 ⟨pa, pc, rfl, hpb, hp⟩
         have hW8 : Below W.heap.size W w8 := below_trans (by assumption) hp)
      | (go_at_call 40
         go_split_ands
         refine (write_lit s L (padL L.length) HS.out ta _ tcap _ _ (HT.out.keep (below_trans HB (by assumption))) hpb (by omega) (HK.out.keep (below_trans HB (by assumption)))).mono ?_
         rintro e w9 ⟨ta9, tc9, rfl, hw⟩
         have hW9 : Below W.heap.size W w9 := below_trans (by assumption) hw))
  rename_i hheld
  have HB9 := Box.mk (below_trans HB hheld.2.2.2.2.2.2.2.2.2.2)
  clear hheld c0 c1 c2 c3 c4 c5 c6 c7 c8 c9 hB0 HB
  obtain ⟨S, HSS⟩ : ∃ S, Box (stS (L ++ padL L.length) = S) := ⟨_, ⟨rfl⟩⟩
  rw [show stS (L ++ padL L.length) = S from HSS.out]
  go_wp2_with fail
  go_loopw [3, 11] (fun sv iv wr => ∃ m : Nat, m ≤ 8 ∧ iv = .int .i64 m ∧ Box (AccB w wr sv ((S.list.take m).flatMap be4))) (fun _ iv _ => 8 - (intOf iv).toNat)
  case atStart => exact ⟨0, Nat.zero_le _, rfl, ⟨⟨World.ownsRow_nil _ _ _ _, HB9.out⟩⟩⟩
  case round =>
    obtain ⟨m, hm, rfl, HM⟩ := hrel
    by_cases hlt : m < 8
    · have hsl : S.list.length = 8 := rfl
      have hix := fun W => run_index_u32 W 74 8 (wordsV S.list) m _ Tryz.underlying74 hlt (wordsV_at' S.list m (by rw [hsl]; exact hlt))
      change ∀ W, (Instr.index 74 (.agg S.cells) _).run _ W = _ at hix
      have hfl := flat_len (S.list.take m)
      have hfl2 : (S.list.take m).length = m := by rw [List.length_take, hsl]; omega
      have HX := Box.mk (flat_snoc S.list m (by rw [hsl]; exact hlt))
      generalize S.list[m]'(by rw [hsl]; exact hlt) = x at *
      go_wp2_with fail
      refine (appendWord_any x w _ _ _ HM.out (by omega)).mono ?_
      rintro e w2 ⟨v2, rfl, h2⟩
      have H2 := Box.mk h2
      clear h2
      go_wp2_with fail
      go_roundw
      case rel => exact ⟨m + 1, by omega, by go_num, ⟨by rw [HX.out]; exact H2.out⟩⟩
      case measure => simp [intOf]; omega
    · have HE : Box (AccB w wr u3 (sumS L)) := ⟨by
        have h := HM.out
        rw [List.take_of_length_le (by show 8 ≤ m; omega)] at h
        unfold sumS outS
        rw [HSS.out]; exact h⟩
      go_wp2_with fail
      go_ret
      exact ⟨_, rfl, HE.out⟩
end Go.Proofs.YtgmbfiikkogenaaGreatDoor
namespace Go.Proofs.YtgmbfiikkogenaaGreatDoor
open Go.ChangeShapes Go.WideShapes Go.ChangeAt Go.RowKit

/-- The slice at a holds slices of bytes, which hold ls. -/
def SlcIn (w : World) (a : Option Addr) (ls : List (List UInt8)) : Prop :=
  ∀ j (hj : j < ls.length), ∃ x ba bc, a = some x ∧ w.cell? (x.add j) = some (.slice ba ls[j].length bc) ∧ IsBytes w ba ls[j] bc
theorem SlcIn.keep {w w' : World} {a : Option Addr} {ls : List (List UInt8)} (h : SlcIn w a ls) (hb : Below w.heap.size w w') : SlcIn w' a ls := fun j hj => by
  obtain ⟨x, ba, bc, h1, h2, h3⟩ := h j hj
  exact ⟨x, ba, bc, h1, below_cell hb h2, h3.keep hb⟩
theorem alloc_cell_new (w : World) (cs : Array Value) (t : TypeId) (fr : Nat × Nat) (j : Nat) : (w.alloc (.cells cs t fr)).cell? ⟨w.heap.size, j, none⟩ = cs[j]? :=
  cell_of_row _ _ _ _ _ _ (heap_alloc_new w (.cells cs t fr))
theorem below_one (w : World) (o : Obj) : Below w.heap.size w (w.alloc o) := (Below.refl _ _).alloc (Nat.le_refl _) _
theorem slcIn_build1 {w : World} {a : Option Addr} {l : List UInt8} {c : Nat} (h : IsBytes w a l c) (t : TypeId) (fr : Nat × Nat) :
    SlcIn (w.alloc (.cells #[.slice a l.length c] t fr)) (some ⟨w.heap.size, 0, none⟩) [l] := fun j hj => by
  obtain rfl : j = 0 := by simpa using hj
  refine ⟨_, a, c, rfl, ?_, h.keep (below_one _ _)⟩
  rw [Addr.add_lit, Nat.zero_add, alloc_cell_new]; rfl
def SlcV (w : World) (v : Value) (ls : List (List UInt8)) : Prop := ∃ a c, v = .slice a ls.length c ∧ SlcIn w a ls
theorem SlcV.keep {w w' : World} {v : Value} {ls : List (List UInt8)} (h : SlcV w v ls) (hb : Below w.heap.size w w') : SlcV w' v ls := by
  obtain ⟨a, c, h1, h2⟩ := h
  exact ⟨a, c, h1, h2.keep hb⟩
def Spec.slc (ls : List (List UInt8)) : Spec := ⟨fun v w => SlcV w v ls, fun _ _ _ h hb => h.keep hb⟩

section
variable {Q : Exit → Act → World → Prop} {a : Act} {w : World} {o : Oper} {s : Spec}
theorem Tryz.info24 : (Tryz.prog.info? 24).map (fun i => (i.zero, i.size, i.bytes)) = some (some (.slice none 0 0), 1, 24) := by kernel_rfl
theorem run_build_slices1 (W : World) (a : Option Addr) (n c : Nat) :
    (Instr.buildSlice 72 1 #[(0, .slice a n c)]).run Tryz.prog W = .ok (.slice (some ⟨W.heap.size, 0, none⟩) 1 1) (W.alloc (.cells #[.slice a n c] 24)) := by
  obtain ⟨i0, hi, hz0, hz1, hz2⟩ := info_parts Tryz.info24
  exact run_buildSlice W 72 24 1 _ _ i0 _ Tryz.underlying72 hi hz0 (by rw [hz1]; decide) (by rw [hz1]; decide) (by rw [hz1]; simp [Instr.fill, Value.cells, Array.range_succ, show Array.range 0 = #[] from rfl])
theorem loc_slices1 {x : Operand} (ho : o.op = .buildSlice 72 1 #[(0, x)]) {l : List UInt8} (hx : BytesV w (a.eval x) l) (hs : ∀ v w', SlcV w' v [l] → s.p v w') :
    o.wp Tryz.prog a w (fun a' w' => ∃ v, a' = a.put o.dst v ∧ Below w.heap.size w w' ∧ s.p v w') Q := by
  obtain ⟨xa, xc, hx1, hx2⟩ := hx
  have hrun := run_build_slices1 w xa l.length xc
  refine loc_run (v := .slice (some ⟨w.heap.size, 0, none⟩) 1 1) (w' := w.alloc (.cells #[.slice xa l.length xc] 24)) ?_ (below_one _ _) (hs _ _ ⟨_, 1, rfl, slcIn_build1 hx2 _ _⟩)
  unfold execOp
  simp only [ho, List.map_toArray, List.map_cons, List.map_nil, hx1]
  rw [Sem.run_bind, hrun]; rfl
end

end Go.Proofs.YtgmbfiikkogenaaGreatDoor
namespace Go.Proofs.YtgmbfiikkogenaaGreatDoor
open Go.RowKit

theorem digSum_any (L : List UInt8) (v : Value) (w : World) (hv : DigAt w v L) (hL : L.length ≤ 70368744177664) (hk : RowAt w 1 kkV) :
    Calls Tryz.prog 41 #[v] w fun e w' => ∃ v', e = .returned v' ∧ AccB w w' v' (sumS L) := by
  obtain ⟨ta, tcap, rfl, ht⟩ := hv
  exact sum_core (stS L) L rfl ta tcap w ht hL hk

theorem of_world {w w1 W : World} (hb : Below w.heap.size w w1) (hW : W = (w1.alloc (.cells dzero 76)).setRow w1.heap.size (digV initS 0 (.slice none 0 0))) : DigRow W w1.heap.size (([] : List (List UInt8)).flatten) ∧ Below w.heap.size w W := by
  subst hW
  have hB : Below w1.heap.size w1 ((w1.alloc (.cells dzero 76)).setRow w1.heap.size (digV initS 0 (.slice none 0 0))) := below_setRow ((Below.refl _ _).alloc (Nat.le_refl _) _) (Nat.le_refl _) _
  exact ⟨⟨none, 0, setRow_heap _ _ _ _ _ _ (heap_alloc_new _ _), .inl ⟨rfl, rfl, rfl⟩, fun x hx => by cases hx⟩, below_trans hb hB⟩
theorem flatten_snoc (ls : List (List UInt8)) (k : Nat) (h : k < ls.length) : (ls.take (k + 1)).flatten = (ls.take k).flatten ++ ls[k] := by
  rw [List.take_succ_eq_append_getElem h, List.flatten_append]; simp
theorem flatten_take_le (ls : List (List UInt8)) (k : Nat) (h : k < ls.length) {n : Nat} (hn : ls.flatten.length ≤ n) : (ls.take k).flatten.length + ls[k].length ≤ n := by
  have e : ls.flatten = (ls.take (k + 1)).flatten ++ (ls.drop (k + 1)).flatten := by rw [← List.flatten_append, List.take_append_drop]
  rw [e, List.length_append, flatten_snoc ls k h, List.length_append] at hn
  omega
theorem AccB.weaken {w w1 w' : World} {v : Value} {l : List UInt8} (h : AccB w1 w' v l) (hb : Below w.heap.size w w1) : AccB w w' v l := by
  obtain ⟨⟨h1, h2⟩, h3⟩ := h
  refine ⟨⟨h1, ?_⟩, hb.trans (h3.mono hb.size)⟩
  rcases h2 with h2 | ⟨g, cap, cur, hv, hg, r⟩
  · exact .inl h2
  · exact .inr ⟨g, cap, cur, hv, Nat.le_trans hb.size hg, r⟩

/-- What Write hands back, as cells that nobody looks into. -/
structure RowNew (w w' : World) (L : List UInt8) (cs : Array Value) : Prop where
  size : cs.size = 10
  one : cs.all (·.oneCell') = true
  val : ∃ ta tcap, cs = digV (stS L) L.length (.slice ta (tailS L).length tcap) ∧ IsBytes w' ta (tailS L) tcap ∧ ∀ x, ta = some x → w.heap.size ≤ x.block
  below : Below w.heap.size w w'
theorem digV_size (s : St) (n : Int) (t : Value) : (digV s n t).size = 10 := rfl
theorem write_row (L l : List UInt8) (v : Value) (ba : Option Addr) (bcap : Nat) (w : World) (hv : DigAt w v L) (hb : IsBytes w ba l bcap) (hlen : L.length + l.length ≤ 140737488355328) (hk : RowAt w 1 kkV) :
    Calls Tryz.prog 40 #[v, .slice ba l.length bcap] w fun e w' => ∃ cs, e = .returned (.agg cs) ∧ RowNew w w' (L ++ l) cs := by
  refine (write_any L l v ba bcap w hv hb hlen hk).mono ?_
  rintro e w' ⟨ta, tc, rfl, h1, h2, h3⟩
  exact ⟨_, rfl, digV_size _ _ _, digV_one _ _ _ _ _, ⟨ta, tc, rfl, h1, h3⟩, h2⟩
theorem size_row {cs : Array Value} (h : cs.size = 10) : (Tryz.prog.info? 76).map (·.size) = some cs.size := by rw [h]; exact sizeDig
theorem DigRow.cells {w : World} {g : Nat} {L : List UInt8} (h : DigRow w g L) : ∃ cs, w.heap[g]? = some (.cells cs 76 (0, 0)) ∧ cs.size = 10 ∧ DigAt w (.agg cs) L := by
  obtain ⟨ta, tc, h1, h2, _⟩ := h
  exact ⟨_, h1, digV_size _ _ _, ta, tc, rfl, h2⟩
theorem DigRow.setRow {w w' : World} {g : Nat} {L0 L : List UInt8} {cs : Array Value} (h : DigRow w g L0) (hn : RowNew w w' L cs) : DigRow (w'.setRow g cs) g L := by
  obtain ⟨ta, tc, rfl, h1, h2⟩ := hn.val
  exact (h.keep hn.below).set h1 fun x hx => by have := h2 x hx; have := h.lt; omega

set_option maxRecDepth 100000 in
set_option maxHeartbeats 2000000 in
theorem digOf_any (ls : List (List UInt8)) (a : Option Addr) (cap : Nat) (w : World) (ha : SlcIn w a ls) (hn : ls.length ≤ 140737488355328) (hL : ls.flatten.length ≤ 70368744177664) (hk : RowAt w 1 kkV) (hi : RowAt w 0 initS.cells) :
    Calls Tryz.prog 24 #[.slice a ls.length cap] w fun e w' => ∃ v', e = .returned v' ∧ AccB w w' v' (sumS ls.flatten) := by
  have HA := Box.mk ha
  have HK := Box.mk hk
  have HI := Box.mk hi
  clear ha hk hi
  go_enter Tryz.func24, Tryz.ntmps24
  go_wp2_with fail
  refine (digStart_any w HI.out).mono ?_
  rintro e w1 ⟨rfl, hb1⟩
  have HB1 := Box.mk hb1
  clear hb1
  go_wp2_with (refine wpList_store_row rfl 76 _ _ rfl w1.heap.size (digV initS 0 (.slice none 0 0)) rfl rfl 76 dzero (heap_alloc_new _ _) sizeDig rfl (digV_one _ _ _ _ _) ?_)
  obtain ⟨W, hW⟩ : ∃ W, W = (w1.alloc (.cells dzero 76)).setRow w1.heap.size (digV initS 0 (.slice none 0 0)) := ⟨_, rfl⟩
  have H0 := Box.mk (of_world HB1.out hW)
  change Code.wp _ _ _ _ ((w1.alloc (.cells dzero 76)).setRow w1.heap.size (digV initS 0 (.slice none 0 0)))
  rw [← hW]
  clear hW
  have HG0 := Box.mk HB1.out.size
  clear HB1
  generalize w1.heap.size = g at *
  go_loopw [9] (fun iv wr => ∃ k : Nat, k ≤ ls.length ∧ iv = .int .i64 k ∧ Box (DigRow wr g (ls.take k).flatten ∧ Below w.heap.size w wr)) (fun iv _ => ls.length - (intOf iv).toNat)
  case atStart => exact ⟨0, Nat.zero_le _, rfl, ⟨H0.out⟩⟩
  case round =>
    clear H0
    obtain ⟨k, hk, rfl, HM⟩ := hrel
    by_cases hlt : k < ls.length
    · obtain ⟨x, ba, bc, rfl, hc, hb⟩ := HA.out.keep HM.out.2 k hlt
      obtain ⟨cs0, hd1, hd2, hd3⟩ := HM.out.1.cells
      have HD := Box.mk (And.intro hd1 (And.intro (size_row hd2) hd3))
      have HZ := Box.mk hd2
      have HBy := Box.mk hb
      have HS := Box.mk (flatten_snoc ls k hlt)
      have HLe := Box.mk (flatten_take_le ls k hlt hL)
      clear hd1 hd2 hd3 hb
      generalize ls[k] = l at *
      generalize (ls.take k).flatten = L at *
      go_wp2_with (refine wpList_load_row rfl 76 _ rfl g rfl 76 cs0 (0, 0) _ HD.out.1 Tryz.underlying76 rfl HD.out.2.1 ?_)
      refine (write_row L l _ ba bc wr HD.out.2.2 HBy.out (by have := HLe.out; omega) (HK.out.keep HM.out.2)).mono ?_
      rintro e w2 ⟨cs, rfl, hr⟩
      have HR := Box.mk hr
      have HB2 := Box.mk (below_trans HM.out.2 hr.below)
      have HG := Box.mk (show w2.heap[g]? = some (.cells cs0 76 (0, 0)) by rw [hr.below.block _ HM.out.1.lt]; exact HD.out.1)
      have HE := Box.mk (show cs0.size = cs.size by rw [HZ.out, hr.size])
      clear hr
      go_wp2_with (refine wpList_store_row rfl 76 _ _ rfl g cs rfl rfl 76 cs0 HG.out (size_row HR.out.size) HE.out HR.out.one ?_)
      go_roundw
      case rel => exact ⟨k + 1, by omega, by go_num, ⟨by rw [HS.out]; exact HM.out.1.setRow HR.out, below_setRow HB2.out HG0.out _⟩⟩
      case measure => simp [intOf]; omega
    · obtain ⟨cs0, hd1, hd2, hd3⟩ := HM.out.1.cells
      rw [List.take_of_length_le (by omega)] at hd3
      obtain ⟨M, hM⟩ : ∃ M, M = ls.flatten := ⟨_, rfl⟩
      rw [← hM] at hd3 hL
      have HMM := Box.mk hM
      clear hM
      have HD := Box.mk (And.intro hd1 (And.intro (size_row hd2) hd3))
      clear hd1 hd2 hd3
      go_wp2_with (refine wpList_load_row rfl 76 _ rfl g rfl 76 cs0 (0, 0) _ HD.out.1 Tryz.underlying76 rfl HD.out.2.1 ?_)
      refine (digSum_any M _ wr HD.out.2.2 hL (HK.out.keep HM.out.2)).mono ?_
      rintro e w2 ⟨v2, rfl, h2⟩
      have H2 := Box.mk (h2.weaken HM.out.2)
      clear h2
      go_wp2_with fail
      go_ret
      refine ⟨_, rfl, ?_⟩
      rw [← HMM.out]
      exact H2.out
end Go.Proofs.YtgmbfiikkogenaaGreatDoor
