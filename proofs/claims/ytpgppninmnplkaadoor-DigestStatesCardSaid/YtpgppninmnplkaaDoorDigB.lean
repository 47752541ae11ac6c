/- The schedule of a block, as the code reckons it. -/
import Derived.Test.YtpgppninmnplkaaDoorDigA
import Derived.Test.YtpgppninmnplkaaDoorBytes
import Derived.StillTailTactics
namespace Go.Proofs.YtpgppninmnplkaaDoor
open Go.RowKit

def wordsV (l : List UInt32) : Array Value := (l.map vW).toArray
theorem wordsV_size (l : List UInt32) : (wordsV l).size = l.length := by unfold wordsV; simp
theorem wordsV_at (l : List UInt32) (j : Nat) (hj : j < l.length) : (wordsV l)[j]? = some (vW l[j]) := by unfold wordsV; simp [hj]
theorem wordsV_set (l : List UInt32) (j : Nat) (x : UInt32) : (wordsV l).setIfInBounds j (vW x) = wordsV (l.set j x) := by
  unfold wordsV
  apply Array.ext'
  simp [List.map_set]
theorem wordsV_zeros : zeros64 = wordsV (List.replicate 64 0) := by kernel_rfl
def blkV (b : List UInt8) : Array Value := (bytesV b).toArray

/-- The words ws lie in block g, a block made since w0. -/
def Words (w0 wr : World) (g : Nat) (ws : List UInt32) : Prop := wr.heap[g]? = some (.cells (wordsV ws) 56 (0, 0)) ∧ Below g w0 wr
theorem Words.cell {w0 wr : World} {g : Nat} {ws : List UInt32} (h : Words w0 wr g ws) (j : Nat) (hj : j < ws.length) : wr.cell? ⟨g, j, none⟩ = some (.int .u32 (vU ws[j])) := by
  rw [cell_of_row _ _ _ _ _ _ h.1, wordsV_at _ _ hj]; rfl
theorem Words.cell' {w0 wr : World} {g : Nat} {ws : List UInt32} (h : Words w0 wr g ws) (j : Nat) {x : UInt32} (hx : Hid (ws[j]? = some x)) : wr.cell? ⟨g, j, none⟩ = some (.int .u32 (vU x)) := by
  obtain ⟨hj, rfl⟩ := List.getElem?_eq_some_iff.1 hx.out
  exact h.cell j hj
theorem Words.drawn {w0 wr : World} {g : Nat} {ws : List UInt32} (h : Words w0 wr g ws) (n : Nat) : Words w0 (wr.drewN n) g ws :=
  ⟨h.1, h.2.os, h.2.tape, h.2.output, h.2.size, h.2.block⟩
theorem Words.drew1 {w0 wr : World} {g : Nat} {ws : List UInt32} (h : Words w0 wr g ws) : Words w0 { wr with drawn := wr.drawn + 1 } g ws := h.drawn 1
theorem Words.frozen {w0 wr : World} {g : Nat} {ws : List UInt32} (h : Words w0 wr g ws) (j : Nat) : wr.frozen? ⟨g, j, none⟩ = false := frozen_of_row _ _ _ _ _ h.1
theorem Words.set {w0 wr : World} {g : Nat} {ws : List UInt32} (h : Words w0 wr g ws) (j : Nat) (x : UInt32) : Words w0 (wr.setCell ⟨g, j, none⟩ (.int .u32 (vU x))) g (ws.set j x) :=
  ⟨by rw [heap_setCell_same _ _ _ _ _ _ h.1, ← wordsV_set]; rfl, h.2.setCell (p := ⟨g, j, none⟩) (Nat.le_refl _) _⟩
theorem Words.old {w0 wr : World} {g k : Nat} {ws : List UInt32} (h : Words w0 wr g ws) (hk : k < g) {j : Nat} {v : Value} (hc : w0.cell? ⟨k, j, none⟩ = some v) : wr.cell? ⟨k, j, none⟩ = some v := by
  rw [← hc]; simp only [World.cell?]; rw [h.2.block k hk]

theorem w4_snoc (l : List UInt8) (k : Nat) (hk : k < l.length) : w4 (l.take (k + 1)) = (w4 (l.take k) <<< 8) ||| l[k].toUInt32 := by
  unfold w4
  rw [List.take_succ_eq_append_getElem hk, List.foldl_append]; rfl
theorem vU_shl8 (x : UInt32) : vU x * (256 : Int) % (4294967296 : Int) = vU (x <<< 8) := vU_shl' x 8 (by decide)
theorem vU_byte (c : UInt8) : ((c.toNat : Nat) : Int) = vU c.toUInt32 := by unfold vU; simp

theorem getD_zeros (n j : Nat) : (List.replicate n (0 : UInt32)).getD j 0 = 0 := by
  rw [List.getD_eq_getElem?_getD, List.getElem?_replicate]; split <;> rfl
theorem sizeOf_u8 (W : World) : (sizeOf 5).run Tryd.prog W = .ok 1 W := by
  have h := Tryd.info5
  cases hq : Tryd.prog.info? 5 with
  | none => simp [hq] at h
  | some i => simp [hq] at h; simp [sizeOf, typeInfo, hq, h]
theorem run_slice_blk (W : World) (g l h : Nat) (zl zh : Int) (hzl : zl = l) (hzh : zh = h) (hlh : l < h) (hh : h ≤ 64) :
    (Instr.sliceAt 53 (.pointer (some ⟨g, 0, none⟩)) (some (.int .i64 zl)) (some (.int .i64 zh)) none).run Tryd.prog W = .ok (.slice (some ⟨g, l, none⟩) (h - l) (64 - l)) W := by
  subst hzl hzh
  have e64 : Tryd.prog.arrayLen 53 = 64 := by kernel_rfl
  have es : (sizeOf (Tryd.prog.elem 53)).run Tryd.prog W = .ok 1 W := by rw [show Tryd.prog.elem 53 = 5 by kernel_rfl]; exact sizeOf_u8 W
  rw [run_sliceAt_array_lh W 53 ⟨g, 0, none⟩ (by kernel_rfl) .i64 .i64 (l : Int) (h : Int) (by omega) (by omega) (by rw [e64]; omega), es, e64]
  simp only [Result.andThen, slicedAt, Int.toNat_natCast, Nat.mul_one]
  rw [if_neg (by omega), Addr.add_lit, Nat.zero_add]
theorem vU_or_byte (x : UInt32) (c : UInt8) : bits .or .u32 (vU x) ((c.toNat : Nat) : Int) = vU (x ||| c.toUInt32) := by rw [vU_byte, vU_or]
theorem vU_or_byte' (x : UInt32) (c : UInt8) : bits .or .u32 (vU x) (((c.toNat : Nat) : Int) % (4294967296 : Int)) = vU (x ||| c.toUInt32) := by
  have : ((c.toNat : Nat) : Int) % (4294967296 : Int) = (c.toNat : Nat) := by have := c.toNat_lt; omega
  rw [this, vU_or_byte]
theorem rotl_still (x : UInt32) (n : Nat) (z : Int) (hz : z = -(n : Int)) (h0 : 0 < n) (hn : n < 32) (w : World) :
    Calls Tryd.prog 33 #[.int .u32 (vU x), .int .i64 z] w fun e w' => e = .returned (.int .u32 (vU (rotr x n))) ∧ w' = w :=
  (rotl_any x n z hz h0 hn w).mono fun _ _ h => ⟨h.1, h.2.symm⟩
theorem vU_shr3 (x : UInt32) : vU x / (8 : Int) = vU (x >>> 3) := vU_shr' x 3 (by decide)
theorem vU_shr10 (x : UInt32) : vU x / (1024 : Int) = vU (x >>> 10) := vU_shr' x 10 (by decide)
theorem sched_len (b : List UInt8) : (sched b).length = 64 := by unfold sched; rw [schN_len, sch16_len]
theorem sched_size (b : List UInt8) : (Tryd.prog.info? 56).map (·.size) = some (wordsV (sched b)).size := by rw [wordsV_size, sched_len]; exact size64
theorem sched_size' (b : List UInt8) : zeros64.size = (wordsV (sched b)).size := by rw [wordsV_size, sched_len]; rfl
theorem wordsV_one (l : List UInt32) : (wordsV l).all (·.oneCell') = true := by
  unfold wordsV
  rw [Array.all_eq_true_iff_forall_mem]
  intro x hx
  simp at hx
  obtain ⟨y, _, rfl⟩ := hx
  rfl
theorem sched_idx (n : Nat) (hn : n < 48) : ∃ k k2 k15 k16 k7 : Nat, Hid (16 + n = k ∧ 14 + n = k2 ∧ 1 + n = k15 ∧ n = k16 ∧ 9 + n = k7) ∧ IntKind.i64.wrap ((k : Int) - 2) = k2 ∧ IntKind.i64.wrap ((k : Int) - 15) = k15 ∧
    IntKind.i64.wrap ((k : Int) - 16) = k16 ∧ IntKind.i64.wrap ((k : Int) - 7) = k7 ∧ (k : Int) < 64 ∧ (k2 : Int) < 64 ∧ (k15 : Int) < 64 ∧ (k16 : Int) < 64 ∧ (k7 : Int) < 64 := by
  refine ⟨16 + n, 14 + n, 1 + n, n, 9 + n, Lib.hid ⟨rfl, rfl, rfl, rfl, rfl⟩, ?_, ?_, ?_, ?_, by omega, by omega, by omega, by omega, by omega⟩
  all_goals (simp only [IntKind.wrap, IntKind.bits, IntKind.signed]; simp; omega)
theorem sched_next (ws l : List UInt32) (n k k2 k15 k16 k7 : Nat) (hn : n < 48) (hK : 16 + n = k ∧ 14 + n = k2 ∧ 1 + n = k15 ∧ n = k16 ∧ 9 + n = k7) (hl : ws.length = 64) (h1 : ws.take (16 + n) = schN l n)
    (h2 : k2 < ws.length) (h15 : k15 < ws.length) (h16 : k16 < ws.length) (h7 : k7 < ws.length) :
    ∀ y, y = ws[k16] + ws[k7] + sg0 ws[k15] + sg1 ws[k2] → (ws.set k y).take (k + 1) = schN l (n + 1) ∧ (ws.set k y).length = 64 := by
  rintro y rfl
  obtain ⟨rfl, rfl, rfl, rfl, rfl⟩ := hK
  refine ⟨?_, by simpa using hl⟩
  have hlen : (schN l n).length = 16 + n := by rw [← h1, List.length_take]; omega
  have hg : ∀ j (hj : j < 16 + n), (schN l n).getD j 0 = ws[j]'(by omega) := fun j hj => by
    rw [← h1, List.getD_eq_getElem?_getD, List.getElem?_take_of_lt hj, List.getElem?_eq_getElem (by omega), Option.getD_some]
  rw [List.take_succ_eq_append_getElem (by simp; omega), List.take_set_of_le (Nat.le_refl _), h1, schN]
  congr 1
  unfold nextW
  rw [hlen, hg _ (by omega), hg _ (by omega), hg _ (by omega), hg _ (by omega)]
  simp only [show 16 + n - 16 = n by omega, show 16 + n - 7 = 9 + n by omega, show 16 + n - 15 = 1 + n by omega, show 16 + n - 2 = 14 + n by omega]
  simp
theorem sch_take (b : List UInt8) (ws : List UInt32) (k : Nat) (hk : k < 16) (hl : ws.length = 64) (h1 : ws.take k = (sch16 b).take k) (h3 : ws.getD k 0 = w4 ((b.drop (4 * k)).take 4)) : ws.take (k + 1) = (sch16 b).take (k + 1) := by
  rw [List.take_succ_eq_append_getElem (by omega), List.take_succ_eq_append_getElem (by rw [sch16_len]; exact hk), h1]
  have e1 : ws.getD k 0 = ws[k] := by rw [List.getD_eq_getElem?_getD, List.getElem?_eq_getElem (by omega), Option.getD_some]
  have e2 : (sch16 b)[k]'(by rw [sch16_len]; exact hk) = w4 ((b.drop (4 * k)).take 4) := by unfold sch16; simp
  rw [e2, ← h3, e1]
theorem sch_inner (b : List UInt8) (ws l : List UInt32) (k m : Nat) (h : 4 * k + m < b.length) (hl : ws.length = 64) (h1 : ws.take k = l.take k) (h2 : ∀ j, k < j → ws.getD j 0 = 0) (h3 : ws.getD k 0 = w4 ((b.drop (4 * k)).take m)) (hk : k < ws.length := by omega) :
    ∀ y, y = ws[k] <<< 8 ||| b[4 * k + m].toUInt32 → (ws.set k y).take k = l.take k ∧ (∀ j, k < j → (ws.set k y).getD j 0 = 0) ∧ (ws.set k y).getD k 0 = w4 ((b.drop (4 * k)).take (m + 1)) ∧ (ws.set k y).length = 64 := by
  rintro y rfl
  refine ⟨by rw [List.take_set_of_le (Nat.le_refl _)]; exact h1, fun j hj => ?_, ?_, by simpa using hl⟩
  · have := h2 j hj
    rw [List.getD_eq_getElem?_getD] at this ⊢
    rw [List.getElem?_set_ne (by omega)]; exact this
  · rw [List.getD_eq_getElem?_getD, List.getElem?_set_self hk, Option.getD_some, w4_snoc _ _ (by simp; omega), ← h3, List.getD_eq_getElem?_getD, List.getElem?_eq_getElem hk]
    simp
/-- What is known of the world when the schedule begins. -/
theorem schedule_world (w : World) (b : List UInt8) (W : World) (hW : W = ((w.alloc (.cells (blkV b) 53)).alloc (.cells zeros64 56)).alloc (.cells zeros64 56)) :
    Words W W (w.heap.size + 2) (List.replicate 64 0) ∧ (∀ j (hj : j < b.length), W.cell? ⟨w.heap.size, j, none⟩ = some (.int .u8 b[j].toNat)) ∧ Below w.heap.size w W ∧ W.heap[w.heap.size + 1]? = some (.cells zeros64 56 (0, 0)) := by
  subst hW
  refine ⟨⟨?_, Below.refl _ _⟩, fun j hj => ?_, ?_, ?_⟩
  · rw [← wordsV_zeros]
    have := heap_alloc_new ((w.alloc (.cells (blkV b) 53)).alloc (.cells zeros64 56)) (.cells zeros64 56)
    simpa using this
  · have h1 : (w.alloc (.cells (blkV b) 53)).cell? ⟨w.heap.size, j, none⟩ = some (.int .u8 b[j].toNat) := by
      rw [cell_of_row _ _ _ _ _ _ (heap_alloc_new _ _)]
      unfold blkV bytesV
      simp [hj]
    exact below_cell ((Below.refl _ _).alloc (Nat.le_refl _) _) (below_cell ((Below.refl _ _).alloc (Nat.le_refl _) _) h1)
  · exact (((Below.refl _ _).alloc (Nat.le_refl _) _).alloc (by simp) _).alloc (by rw [World.size_alloc, World.size_alloc]; omega) _
  · rw [(Below.alloc (Below.refl _ _) (Nat.le_refl _) _).block (w.heap.size + 1) (by simp)]
    have := heap_alloc_new (w.alloc (.cells (blkV b) 53)) (.cells zeros64 56)
    simpa using this

set_option maxRecDepth 100000 in
set_option maxHeartbeats 2000000 in
theorem schedule_any (b : List UInt8) (hb : b.length = 64) (w : World) :
    Calls Tryd.prog 30 #[.agg (blkV b)] w fun e w' => e = .returned (.agg (wordsV (sched b))) ∧ Below w.heap.size w w' := by
  have hz := (zero_of_info (P := Tryd.prog) zero64).1
  have hne := zeros64_ne
  go_enter Tryd.func30, Tryd.ntmps30
  go_wp2_with fail
  obtain ⟨W, hWe⟩ : ∃ W, W = ((w.alloc (.cells (blkV b) 53)).alloc (.cells zeros64 56)).alloc (.cells zeros64 56) := ⟨_, rfl⟩
  have HF := Lib.hid (schedule_world w b W hWe)
  rw [← hWe]
  clear hWe hz hne
  go_loopw [10] (fun i wr => ∃ (k : Nat) (ws : List UInt32), k ≤ 16 ∧ i = .int .i64 k ∧ ws.length = 64 ∧ Hid (ws.take k = (sch16 b).take k ∧ (∀ j, k ≤ j → ws.getD j 0 = 0) ∧ Words W wr (w.heap.size + 2) ws)) (fun i _ => 16 - (intOf i).toNat)
  case atStart => exact ⟨0, List.replicate 64 0, Nat.zero_le _, rfl, by simp, Lib.hid ⟨by simp, fun j _ => getD_zeros _ _, HF.out.1⟩⟩
  case round =>
    obtain ⟨k, ws, hk, rfl, hl, HP⟩ := hrel
    by_cases hlt : k < 16
    · have hsl := fun W => run_slice_blk W w.heap.size (4 * k) (4 * k + 4) (4 * (k : Int)) (4 * (k : Int) + 4) (by omega) (by omega) (by omega) (by omega)
      rw [show 4 * k + 4 - 4 * k = 4 by omega] at hsl
      go_wp2_with fail
      clear hsl
      go_loopw [20] (fun i wr => ∃ (m : Nat) (ws : List UInt32), m ≤ 4 ∧ i = .int .i64 m ∧ ws.length = 64 ∧ Hid (ws.take k = (sch16 b).take k ∧ (∀ j, k < j → ws.getD j 0 = 0) ∧ ws.getD k 0 = w4 ((b.drop (4 * k)).take m) ∧ Words W wr (w.heap.size + 2) ws)) (fun i _ => 4 - (intOf i).toNat)
      case atStart => exact ⟨0, ws, Nat.zero_le _, rfl, hl, Lib.hid ⟨HP.out.1, fun j hj => HP.out.2.1 j (by omega), by rw [HP.out.2.1 k (Nat.le_refl _), List.take_zero]; rfl, HP.out.2.2⟩⟩
      case round =>
        clear hl
        obtain ⟨m, ws, hm, rfl, hl, HM⟩ := hrel
        by_cases hmt : m < 4
        · have hkl : 4 * k + m < b.length := by omega
          have hcb := HM.out.2.2.2.old (show w.heap.size < w.heap.size + 2 by omega) (HF.out.2.1 (4 * k + m) hkl)
          have hcx := HM.out.2.2.2.cell k (by omega)
          have hcf := HM.out.2.2.2.frozen k
          have HC := Lib.hid (sch_inner b ws (sch16 b) k m hkl hl HM.out.1 HM.out.2.1 HM.out.2.2.1)
          have HS := Lib.hid (fun x => HM.out.2.2.2.set k x)
          generalize ws[k] = x at *
          generalize b[4 * k + m] = c at *
          have ho := vU_or_byte'
          have hs := vU_shl8
          go_wp2_with fail
          go_roundw
          case rel =>
            obtain ⟨q1, q2, q3, q4⟩ := HC.out _ rfl
            exact ⟨m + 1, ws.set k (x <<< 8 ||| c.toUInt32), by omega, by go_num, q4, Lib.hid ⟨q1, q2, q3, HS.out _⟩⟩
          case measure => simp [intOf]; omega
        · have hm4 : m = 4 := by omega
          subst hm4
          go_wp2_with fail
          go_roundw
          case rel => exact ⟨k + 1, ws, by omega, by go_num, hl, Lib.hid ⟨sch_take b ws k hlt hl HM.out.1 HM.out.2.2.1, fun j hj => HM.out.2.1 j (by omega), HM.out.2.2.2⟩⟩
          case measure => simp [intOf]; omega
    · have HW0 := Lib.hid HP.out.2.2
      have HT0 : Hid (ws.take 16 = sch16 b) := Lib.hid (by have := HP.out.1; rw [show k = 16 by omega] at this; rw [this, List.take_of_length_le (Nat.le_of_eq (sch16_len b))])
      clear HP
      go_wp2_with fail
      go_loopw [7] (fun i wr => ∃ (n : Nat) (ws : List UInt32), n ≤ 48 ∧ i = .int .i64 ((16 + n : Nat) : Int) ∧ ws.length = 64 ∧ Hid (ws.take (16 + n) = schN (sch16 b) n ∧ Words W wr (w.heap.size + 2) ws)) (fun i _ => 64 - (intOf i).toNat)
      case atStart => exact ⟨0, ws, Nat.zero_le _, rfl, hl, Lib.hid ⟨HT0.out, HW0.out⟩⟩
      case round =>
        clear HT0 HW0 hl
        obtain ⟨n, ws, hn, rfl, hl, HM⟩ := hrel
        by_cases hnt : n < 48
        · obtain ⟨i, k2, k15, k16, k7, HK, hw2, hw15, hw16, hw7, hb, hb2, hb15, hb16, hb7⟩ := sched_idx n hnt
          have hc2 := HM.out.2.cell k2 (by omega)
          have hc15 := HM.out.2.cell k15 (by omega)
          have hc16 := HM.out.2.cell k16 (by omega)
          have hc7 := HM.out.2.cell k7 (by omega)
          have hc := HM.out.2.cell i (by omega)
          have hcf := HM.out.2.frozen i
          have HS := Lib.hid (fun x => HM.out.2.set i x)
          have HX := Lib.hid (sched_next ws (sch16 b) n i k2 k15 k16 k7 hnt HK.out hl HM.out.1 (by omega) (by omega) (by omega) (by omega))
          rw [show 16 + n = i from HK.out.1]
          have e16 : Hid (ws[k16]? = some ws[k16]) := Lib.hid (List.getElem?_eq_getElem _)
          have e7 : Hid (ws[k7]? = some ws[k7]) := Lib.hid (List.getElem?_eq_getElem _)
          generalize ws[k2] = x2 at *
          generalize ws[k15] = x15 at *
          generalize ws[k16] = x16 at *
          generalize ws[k7] = x7 at *
          have ha := vU_add'
          have ha' := vU_add
          have hx := vU_xor
          have hs3 := vU_shr3
          have hs10 := vU_shr10
          go_wp2_with fail
          go_quiet (fail)
          go_wp2_with fail
          have HW1 := Lib.hid (HM.out.2.drawn nq)
          clear hc2 hc15 hc16 hc7 hc hcf HS
          generalize wr.drewN nq = W1 at *
          have HW2 := Lib.hid (HW1.out.drew1)
          refine wp_region_still_tail 29 (by kernel_rfl) (by kernel_rfl) ?_
          simp only [List.take_succ_cons, List.take_zero, List.drop_succ_cons, List.drop_zero]
          generalize ({ W1 with drawn := W1.drawn + 1 } : World) = W2 at *
          have hc16 := HW2.out.cell' k16 e16
          have hc7 := HW2.out.cell' k7 e7
          have hc := HW2.out.cell i (by omega)
          have hcf := HW2.out.frozen i
          have HS := Lib.hid (fun x => HW2.out.set i x)
          repeat still_step
          still_call (rotl_still x15 7 (-7) rfl (by decide) (by decide) _)
          repeat still_step
          still_call (rotl_still x15 18 (-18) rfl (by decide) (by decide) _)
          repeat still_step
          still_call (rotl_still x2 17 (-17) rfl (by decide) (by decide) _)
          repeat still_step
          still_call (rotl_still x2 19 (-19) rfl (by decide) (by decide) _)
          repeat still_step
          refine wpStill_nil ?_
          go_wp2_with fail
          go_roundw
          case rel =>
            obtain ⟨q1, q2⟩ := HX.out _ rfl
            exact ⟨n + 1, ws.set i (x16 + x7 + sg0 x15 + sg1 x2), by omega, by rw [← HK.out.1]; go_num, q2, Lib.hid ⟨by rw [← q1, ← HK.out.1]; rfl, HS.out _⟩⟩
          case measure => simp [intOf]; omega
        · have hn48 : n = 48 := by omega
          have HV := Lib.hid (show ws = sched b by have := HM.out.1; rw [hn48, List.take_of_length_le (by omega)] at this; exact this)
          have HW3 := HM.out.2
          rw [HV.out] at HW3
          have HW4 := Lib.hid HW3
          clear HW3 HV
          go_wp2_with (first
            | (refine wpList_load_row rfl 56 _ rfl _ rfl 56 (wordsV (sched b)) (0, 0) _ HW4.out.1 Tryd.underlying56 rfl (sched_size b) ?_)
            | (refine wpList_store_row rfl 56 _ _ rfl (w.heap.size + 1) (wordsV (sched b)) rfl rfl 56 zeros64 ((HW4.out.2.block _ (by omega)).trans HF.out.2.2.2) (sched_size b) (sched_size' b) (wordsV_one _) ?_))
          refine ret_row rfl rfl rfl (setRow_heap _ _ _ _ _ _ ((HW4.out.2.block _ (by omega)).trans HF.out.2.2.2)) Tryd.underlying56 rfl (sched_size b) ⟨rfl, ?_⟩
          exact below_setRow ((HF.out.2.2.1).trans (HW4.out.2.mono (by omega))) (by omega) _
end Go.Proofs.YtpgppninmnplkaaDoor
