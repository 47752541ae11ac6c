/- Write: a text that comes in pieces. -/
import Derived.Test.YtpgppninmnplkaaDoorDigC
import Derived.Test.YtpgppninmnplkaaDoorDigSpec
import Derived.Test.YtpgppninmnplkaaDoorHashD
namespace Go.Proofs.YtpgppninmnplkaaDoor
open Go.RowKit

theorem lt_of_row' {w : World} {p : Nat} {o : Obj} (h : w.heap[p]? = some o) : p < w.heap.size := (Array.getElem?_eq_some_iff.1 h).1
/-- The world of Write: the state in block g, the result in g + 1, the block in g + 2, the two parts in g + 3. -/
structure WrW (w wr : World) (g : Nat) (s : St) (n : Int) (dt tv bv : Value) (blk : List UInt8) : Prop where
  st : wr.heap[g]? = some (.cells (digV s n dt) 34 (0, 0))
  res : wr.heap[g + 1]? = some (.cells dzero 34 (0, 0))
  blk : wr.heap[g + 2]? = some (.cells (blkV blk) 53 (0, 0))
  parts : wr.heap[g + 3]? = some (.cells #[tv, bv] 22 (0, 0))
  below : Below w.heap.size w wr
  base : w.heap.size = g
theorem blkV_zeros : zeroBlk = blkV (List.replicate 64 0) := by kernel_rfl
theorem write_world (w : World) (s : St) (n : Int) (tv bv : Value) {W : World} (hW : W = (((w.alloc (.cells (digV s n tv) 34)).alloc (.cells dzero 34)).alloc (.cells zeroBlk 53)).alloc (.cells #[tv, bv] 22)) :
    WrW w W w.heap.size s n tv tv bv (List.replicate 64 0) := by
  subst hW
  have b4 := fun X : World => (Below.alloc (Below.refl X.heap.size X) (Nat.le_refl _) (.cells #[tv, bv] 22)).block
  have b3 := fun X : World => (Below.alloc (Below.refl X.heap.size X) (Nat.le_refl _) (.cells zeroBlk 53)).block
  have b2 := fun X : World => (Below.alloc (Below.refl X.heap.size X) (Nat.le_refl _) (.cells dzero 34)).block
  refine ⟨?_, ?_, ?_, ?_, ?_, rfl⟩
  · rw [b4 _ _ (by simp; omega), b3 _ _ (by simp; omega), b2 _ _ (by simp)]
    exact heap_alloc_new _ _
  · rw [b4 _ _ (by simp), b3 _ _ (by simp)]
    have := heap_alloc_new (w.alloc (.cells (digV s n tv) 34)) (.cells dzero 34)
    simpa using this
  · rw [b4 _ _ (by simp), ← blkV_zeros]
    have := heap_alloc_new ((w.alloc (.cells (digV s n tv) 34)).alloc (.cells dzero 34)) (.cells zeroBlk 53)
    simpa using this
  · have := heap_alloc_new (((w.alloc (.cells (digV s n tv) 34)).alloc (.cells dzero 34)).alloc (.cells zeroBlk 53)) (.cells #[tv, bv] 22)
    simpa using this
  · exact ((((Below.refl _ _).alloc (Nat.le_refl _) _).alloc (by simp) _).alloc (by simp; omega) _).alloc (by simp; omega) _
section
variable {w wr : World} {g : Nat} {s : St} {n : Int} {dt tv bv : Value} {blk : List UInt8}
theorem WrW.keep (h : WrW w wr g s n dt tv bv blk) {w' : World} (hb : Below wr.heap.size wr w') : WrW w w' g s n dt tv bv blk :=
  ⟨by rw [hb.block _ (lt_of_row' h.st)]; exact h.st, by rw [hb.block _ (lt_of_row' h.res)]; exact h.res, by rw [hb.block _ (lt_of_row' h.blk)]; exact h.blk, by rw [hb.block _ (lt_of_row' h.parts)]; exact h.parts,
    h.below.trans (hb.mono h.below.size), h.base⟩
theorem WrW.drawn (h : WrW w wr g s n dt tv bv blk) (k : Nat) : WrW w (wr.drewN k) g s n dt tv bv blk := h.keep ⟨rfl, rfl, rfl, Nat.le_refl _, fun _ _ => rfl⟩
theorem WrW.setBlk (h : WrW w wr g s n dt tv bv blk) (blk' : List UInt8) : WrW w (wr.setRow (g + 2) (blkV blk')) g s n dt tv bv blk' :=
  ⟨by rw [setRow_other _ _ _ _ (by omega)]; exact h.st, by rw [setRow_other _ _ _ _ (by omega)]; exact h.res, setRow_heap _ _ _ _ _ _ h.blk, by rw [setRow_other _ _ _ _ (by omega)]; exact h.parts,
    below_setRow h.below (by have := h.base; omega) _, h.base⟩
theorem WrW.setSt (h : WrW w wr g s n dt tv bv blk) (s' : St) : WrW w (wr.setRow g (digV s' n dt)) g s' n dt tv bv blk :=
  ⟨setRow_heap _ _ _ _ _ _ h.st, by rw [setRow_other _ _ _ _ (by omega)]; exact h.res, by rw [setRow_other _ _ _ _ (by omega)]; exact h.blk, by rw [setRow_other _ _ _ _ (by omega)]; exact h.parts,
    below_setRow h.below (by have := h.base; omega) _, h.base⟩
theorem WrW.setLen (h : WrW w wr g s n dt tv bv blk) (n' : Int) : WrW w (wr.setCell ⟨g, 8, none⟩ (.int .i64 n')) g s n' dt tv bv blk :=
  ⟨by rw [heap_setCell_same _ _ _ _ _ _ h.st]; rfl, by rw [heap_setCell_other _ _ _ _ (by show g + 1 ≠ g; omega)]; exact h.res, by rw [heap_setCell_other _ _ _ _ (by show g + 2 ≠ g; omega)]; exact h.blk,
    by rw [heap_setCell_other _ _ _ _ (by show g + 3 ≠ g; omega)]; exact h.parts, h.below.setCell (p := ⟨g, 8, none⟩) (by have := h.base; show w.heap.size ≤ g; omega) _, h.base⟩
theorem WrW.setTail (h : WrW w wr g s n dt tv bv blk) (t' : Value) : WrW w (wr.setCell ⟨g, 9, none⟩ t') g s n t' tv bv blk :=
  ⟨by rw [heap_setCell_same _ _ _ _ _ _ h.st]; rfl, by rw [heap_setCell_other _ _ _ _ (by show g + 1 ≠ g; omega)]; exact h.res, by rw [heap_setCell_other _ _ _ _ (by show g + 2 ≠ g; omega)]; exact h.blk,
    by rw [heap_setCell_other _ _ _ _ (by show g + 3 ≠ g; omega)]; exact h.parts, h.below.setCell (p := ⟨g, 9, none⟩) (by have := h.base; show w.heap.size ≤ g; omega) _, h.base⟩
theorem WrW.state (h : WrW w wr g s n dt tv bv blk) : RowAt wr g s.cells := fun j v hj => by
  rw [cell_of_row _ _ _ _ _ _ h.st]
  have hlt : j < 8 := (List.getElem?_eq_some_iff.1 hj).1
  match j, hlt with
  | 0, _ => exact hj
  | 1, _ => exact hj
  | 2, _ => exact hj
  | 3, _ => exact hj
  | 4, _ => exact hj
  | 5, _ => exact hj
  | 6, _ => exact hj
  | 7, _ => exact hj
end
section
variable {P : Program} {ops : Array Oper} {rest : List Oper} {o : Oper} {a : Act} {w : World} {Q : Exit → Act → World → Prop}
/-- A whole array, stored into the cells of a greater variable. -/
theorem wpList_store_sub (hgd : o.guard = none) (ty : TypeId) (x y : Operand) (ho : o.op = .store ty x y)
    (g off : Nat) (cells : Array Value) (hx : a.eval x = .pointer (some ⟨g, off, none⟩)) (hy : a.eval y = .agg cells)
    (t : TypeId) (cur new : Array Value) (hg : w.heap[g]? = some (.cells cur t (0, 0))) (hi : (P.info? ty).map (·.size) = some cells.size)
    (hfit : off + cells.size ≤ cur.size) (h1 : cells.all (·.oneCell') = true) (hn : (cur.toList.take off ++ cells.toList ++ cur.toList.drop (off + cells.size)).toArray = new)
    (h : wpList P ops Q rest (a.put o.dst undef) (w.setRow g new)) : wpList P ops Q (o :: rest) a w :=
  wpList_plain hgd fun K hK => by
    have hst := run_storeCells_at P g off t cells.toList 0 cur w hg (by simpa using hfit) (fun v hv => (Array.all_eq_true_iff_forall_mem.1 h1) v (by simpa using hv))
    have hsv : (storeVar ty ⟨g, off, none⟩ (.agg cells)).run P w = .ok () (w.setRow g new) := by
      cases hq : P.info? ty with
      | none => simp [hq] at hi
      | some i =>
        have hs : cells.size = i.size := by simp [hq] at hi; omega
        rw [← hn]
        simpa [storeVar, sizeOf, typeInfo, hq, Value.cells, hs] using hst
    unfold Oper.wp execOp
    simp only [ho, hx, hy, Instr.storeAt, Instr.sureAddr, Sem.run_bind, Sem.run_pure, Result.andThen_ok, hsv]
    exact hK _ _ h
end
theorem cells_size8 (s : St) : (Tryd.prog.info? 32).map (·.size) = some s.cells.size := size8' s
theorem cells_one (s : St) : s.cells.all (·.oneCell') = true := wordsV_one s.list
theorem run_slice_from (W : World) (g l : Nat) (hl : l < 64) :
    (Instr.sliceAt 53 (.pointer (some ⟨g, 0, none⟩)) (some (.int .i64 (l : Int))) none none).run Tryd.prog W = .ok (.slice (some ⟨g, l, none⟩) (64 - l) (64 - l)) W := by
  have e64 : Tryd.prog.arrayLen 53 = 64 := by kernel_rfl
  have es : (sizeOf (Tryd.prog.elem 53)).run Tryd.prog W = .ok 1 W := by rw [show Tryd.prog.elem 53 = 5 by kernel_rfl]; exact sizeOf_u8 W
  rw [run_sliceAt_array_l W 53 ⟨g, 0, none⟩ (by kernel_rfl) .i64 (l : Int) (by omega) (by rw [e64]; omega), es, e64]
  simp only [Result.andThen, slicedAt, Int.toNat_natCast, Nat.mul_one]
  rw [if_neg (by omega), Addr.add_lit, Nat.zero_add]
theorem run_slice_upto (W : World) (g h : Nat) (hh : h ≤ 64) :
    (Instr.sliceAt 53 (.pointer (some ⟨g, 0, none⟩)) none (some (.int .i64 (h : Int))) none).run Tryd.prog W = .ok (.slice (some ⟨g, 0, none⟩) h 64) W := by
  have e64 : Tryd.prog.arrayLen 53 = 64 := by kernel_rfl
  have es : (sizeOf (Tryd.prog.elem 53)).run Tryd.prog W = .ok 1 W := by rw [show Tryd.prog.elem 53 = 5 by kernel_rfl]; exact sizeOf_u8 W
  rw [run_sliceAt_array_h W 53 ⟨g, 0, none⟩ (by kernel_rfl) .i64 (h : Int) (by omega) (by rw [e64]; omega), es, e64]
  simp only [Result.andThen, slicedAt, Int.toNat_natCast, Nat.zero_mul, Nat.sub_zero]
  rw [if_neg (by omega)]
  congr 4

theorem run_part (W : World) (x : Addr) (len cap n : Nat) (hn : n ≤ len) :
    (Instr.sliceAt 22 (.slice (some x) len cap) (some (.int .i64 (n : Int))) none none).run Tryd.prog W = .ok (.slice (some (if cap = n then x else x.add n)) (len - n) (cap - n)) W := by
  have es : (sizeOf (Tryd.prog.elem 22)).run Tryd.prog W = .ok 1 W := by rw [show Tryd.prog.elem 22 = 5 by kernel_rfl]; exact sizeOf_u8 W
  rw [run_sliceAt_slice W 22 _ _ _ _ (by kernel_rfl), run_slice_l W 22 _ _ _ (by kernel_rfl) .i64 (n : Int) (by omega) (by omega), es]
  simp only [Result.andThen, sliced, Int.toNat_natCast, Nat.mul_one]
  split <;> rfl
theorem part_bytes {w : World} {x : Addr} {l : List UInt8} {cap n : Nat} (h : IsBytes w (some x) l cap) (hn : n ≤ l.length) : IsBytes w (some (if cap = n then x else x.add n)) (l.drop n) (cap - n) := by
  rcases h with ⟨h, _⟩ | ⟨y, hy, h1, h2, h3⟩
  · cases h
  · obtain rfl := Option.some.inj hy
    refine .inr ⟨_, rfl, by simp; omega, by omega, fun j hj => ?_⟩
    have hj' : j < l.length - n := by simpa using hj
    rw [if_neg (by omega), List.getElem_drop, ← h3 (n + j) (by omega)]
    congr 1
    unfold Addr.add
    by_cases h0 : n = 0
    · subst h0; simp
    · by_cases hj0 : j = 0
      · subst hj0; simp [h0]
      · simp [h0, hj0, Nat.add_assoc]
/-- What holds between two turns: P has been taken in, f of its bytes stand in the block. -/
structure WrP (w wr : World) (g : Nat) (n : Int) (dt tv bv : Value) (P : List UInt8) (f : Nat) (s : St) (blk : List UInt8) : Prop where
  W : WrW w wr g s n dt tv bv blk
  st : s = stS P
  len : blk.length = 64
  hf : f = P.length % 64
  pre : blk.take f = tailS P
  kk : RowAt wr 1 kkV
theorem WrP.drawn {w wr : World} {g : Nat} {n : Int} {dt tv bv : Value} {P : List UInt8} {f : Nat} {s : St} {blk : List UInt8} (h : WrP w wr g n dt tv bv P f s blk) (k : Nat) : WrP w (wr.drewN k) g n dt tv bv P f s blk :=
  ⟨h.W.drawn k, h.st, h.len, h.hf, h.pre, fun j v hj => h.kk j v hj⟩
theorem kk_setRow {w wr : World} {g b : Nat} {cs : Array Value} {s : St} {n : Int} {dt tv bv : Value} {blk : List UInt8} (h : RowAt wr 1 kkV) (hW : WrW w wr g s n dt tv bv blk) (hk : RowAt w 1 kkV) (hb : g ≤ b) : RowAt (wr.setRow b cs) 1 kkV := fun j v hj => by
  have hlt : 1 < w.heap.size := World.block_lt_of_cell? w _ (hk j v hj)
  rw [cell_setRow_other _ _ _ _ (by show 1 ≠ b; have := hW.base; omega)]
  exact h j v hj
theorem u8_size : (Tryd.prog.info? 5).map (·.size) = some 1 := by kernel_rfl
theorem bytesV_one (l : List UInt8) : ∀ v ∈ bytesV l, v.oneCell' = true := by
  intro v hv
  unfold bytesV at hv
  obtain ⟨c, _, rfl⟩ := List.mem_map.1 hv
  rfl
theorem copy_facts {P rest blk : List UInt8} {f n : Nat} (h : Turn P rest blk f n) {w wr : World} {g : Nat} {k : Int} {dt tv bv : Value} {s : St} (hp : WrP w wr g k dt tv bv P f s blk) {x : Addr} {pc : Nat} (hr : IsBytes w (some x) rest pc) (hn : n ≤ rest.length) :
    (bytesV (rest.take n)).length = Nat.min rest.length (64 - f) ∧ (∀ j v, (bytesV (rest.take n))[j]? = some v → wr.cell? (x.add j) = some v) ∧ f + (bytesV (rest.take n)).length ≤ (blkV blk).size ∧ (bytesV (rest.take n)).length = n ∧
      ((blkV blk).toList.take f ++ (bytesV (rest.take n) ++ (blkV blk).toList.drop (f + n))).toArray = blkV (splB blk f (rest.take n)) := by
  have h1 := h.hn
  have hl : (bytesV (rest.take n)).length = n := by rw [bytesV_len, List.length_take]; omega
  have hx : (rest.take n).length = n := by rw [List.length_take]; omega
  refine ⟨by rw [hl, h1]; exact Nat.min_comm _ _, fun j v hj => ?_, ?_, hl, ?_⟩
  · rcases hr with ⟨h, _⟩ | ⟨y, hy, _, _, h3⟩
    · cases h
    · obtain rfl := Option.some.inj hy
      unfold bytesV at hj
      rw [List.getElem?_map] at hj
      obtain ⟨c, hc, rfl⟩ := Option.map_eq_some_iff.1 hj
      obtain ⟨hlt, rfl⟩ := List.getElem?_eq_some_iff.1 hc
      have h5 := below_cell hp.W.below (h3 j (by omega))
      rw [h5, List.getElem_take]
  · have := h.lt
    rw [hl, show (blkV blk).size = 64 by unfold blkV bytesV; simpa using h.len]; omega
  · unfold splB blkV bytesV
    rw [hx]
    simp [List.map_take, List.map_drop]
theorem blk_bytes {w wr : World} {g : Nat} {n : Int} {dt tv bv : Value} {P : List UInt8} {f : Nat} {s : St} {blk : List UInt8} (h : WrW w wr g s n dt tv bv blk) (hl : blk.length = 64) (hp : blk.take f = tailS P) (hf : f < 64) :
    IsBytes wr (some ⟨g + 1 + 1, 0, none⟩) (tailS P) 64 := by
  refine .inr ⟨_, rfl, by rw [← hp, List.length_take]; omega, by decide, fun j hj => ?_⟩
  have hj' : j < f := by rw [← hp, List.length_take] at hj; omega
  rw [Addr.add_lit, Nat.zero_add, cell_of_row _ _ _ _ _ _ h.blk]
  have e : (tailS P)[j] = blk[j]'(by omega) := by simp only [← hp, List.getElem_take]
  rw [e]
  unfold blkV bytesV
  rw [List.getElem?_toArray, List.getElem?_map, List.getElem?_eq_getElem (by omega)]; rfl
theorem AccB.shape' {w0 w : World} {v : Value} {l : List UInt8} (h : AccB w0 w v l) : ∃ a cap, v = .slice a l.length cap ∧ IsBytes w a l cap ∧ ∀ x, a = some x → w0.heap.size ≤ x.block := by
  obtain ⟨a, cap, hv, hb⟩ := h.shape
  refine ⟨a, cap, hv, hb, fun x hx => ?_⟩
  subst hx
  obtain ⟨⟨h1, h2⟩, _⟩ := h
  rcases h2 with ⟨e, _⟩ | ⟨g, cap', cur, e, hg, _⟩
  · rw [hv] at e; injection e with e1; cases e1
  · rw [hv] at e; injection e with e1; cases e1; exact hg
/-- Bytes beyond block g + 1 stay as they are when the digest and the result are written. -/
theorem bytes_far {w : World} {a : Option Addr} {l : List UInt8} {cap B g : Nat} (h : IsBytes w a l cap) (hf : ∀ x, a = some x → B ≤ x.block) (hg : g + 1 < B) (i : Nat) (v : Value) (cs : Array Value) :
    IsBytes ((w.setCell ⟨g, i, none⟩ v).setRow (g + 1) cs) a l cap := by
  rcases h with h | ⟨x, h1, h2, h3, h4⟩
  · exact .inl h
  · refine .inr ⟨x, h1, h2, h3, fun j hj => ?_⟩
    have hb := hf x h1
    have hadd : (x.add j).block = x.block := by unfold Addr.add; split <;> rfl
    rw [cell_setRow_other _ _ _ _ (by rw [hadd]; omega), World.cell?_setCell_other]
    · exact h4 j hj
    · intro e; rw [← e] at hadd; simp at hadd; omega
def sliceLen : Value → Nat
  | .slice _ n _ => n
  | _ => 0

set_option maxRecDepth 100000 in
set_option maxHeartbeats 4000000 in
theorem write_core (a0 b0 c0 d0 e0 f0 g0 h0 : UInt32) (L l : List UInt8) (hL : stS L = ⟨a0, b0, c0, d0, e0, f0, g0, h0⟩) (ta ba : Option Addr) (tcap bcap : Nat) (w : World) (ht : IsBytes w ta (tailS L) tcap) (hb : IsBytes w ba l bcap)
    (hlen : L.length + l.length ≤ 140737488355328) (hk : RowAt w 1 kkV) :
    Calls Tryd.prog 16 #[.agg (digV (stS L) L.length (.slice ta (tailS L).length tcap)), .slice ba l.length bcap] w fun e w' => ∃ ta' tcap',
      e = .returned (.agg (digV (stS (L ++ l)) (L ++ l).length (.slice ta' (tailS (L ++ l)).length tcap'))) ∧ IsBytes w' ta' (tailS (L ++ l)) tcap' ∧ Below w.heap.size w w' ∧ ∀ x, ta' = some x → w.heap.size ≤ x.block := by
  have HT := Box.mk ht
  have HB := Box.mk hb
  have HK := Box.mk hk
  have HL := Box.mk hL
  clear ht hb hk hL
  have hz := (zero_of_info (P := Tryd.prog) zeroB64).1
  have hne := zeroBlk_ne
  rw [show stS L = _ from HL.out]
  unfold digV vW
  go_enter Tryd.func16, Tryd.ntmps16
  go_wp2_with fail
  obtain ⟨W, hW⟩ : ∃ W, W = (((w.alloc (.cells (digV ⟨a0, b0, c0, d0, e0, f0, g0, h0⟩ L.length (.slice ta (tailS L).length tcap)) 34)).alloc (.cells dzero 34)).alloc (.cells zeroBlk 53)).alloc (.cells #[.slice ta (tailS L).length tcap, .slice ba l.length bcap] 22) := ⟨_, rfl⟩
  have H0 := Box.mk (write_world w _ _ _ _ hW)
  change Code.wp _ _ _ _ ((((w.alloc (.cells (digV ⟨a0, b0, c0, d0, e0, f0, g0, h0⟩ L.length (.slice ta (tailS L).length tcap)) 34)).alloc (.cells dzero 34)).alloc (.cells zeroBlk 53)).alloc (.cells #[.slice ta (tailS L).length tcap, .slice ba l.length bcap] 22))
  rw [← hW]
  clear hW hz hne
  obtain ⟨g, HG⟩ : ∃ g, Box (w.heap.size = g) := ⟨_, ⟨rfl⟩⟩
  rw [show w.heap.size = g from HG.out] at H0 ⊢
  have hle : (tailS L).length < 64 := by rw [tailS_len]; omega
  have H1 : Box (WrP w W g L.length (.slice ta (tailS L).length tcap) (.slice ta (tailS L).length tcap) (.slice ba l.length bcap) (headS L) 0 ⟨a0, b0, c0, d0, e0, f0, g0, h0⟩ (List.replicate 64 0)) :=
    ⟨H0.out, by rw [(headS_st L).1]; exact HL.out.symm, by simp, by rw [headS_len]; omega, by rw [(headS_st L).2]; rfl, HK.out.keep (by rw [show w.heap.size = g from HG.out]; have := H0.out.below; rw [show w.heap.size = g from HG.out] at this; exact this)⟩
  go_loopw [6, 15] (fun fv kv wr => ∃ (k f : Nat) (s : St) (P blk : List UInt8), k ≤ 2 ∧ fv = .int .i64 f ∧ kv = .int .i64 k ∧ f < 64 ∧
    Box (WrP w wr g L.length (.slice ta (tailS L).length tcap) (.slice ta (tailS L).length tcap) (.slice ba l.length bcap) P f s blk ∧ (k = 0 → P = headS L) ∧ (k = 1 → P = L) ∧ (k = 2 → P = L ++ l))) (fun _ kv _ => 2 - (intOf kv).toNat)
  case atStart => exact ⟨0, 0, _, _, _, Nat.zero_le _, rfl, rfl, by decide, ⟨H1.out, fun _ => rfl, fun h => absurd h (by decide), fun h => absurd h (by decide)⟩⟩
  case round =>
    clear H1
    obtain ⟨k, f, s, P, blk, hk2, rfl, rfl, hf64, HP⟩ := hrel
    by_cases hlt : k < 2
    · obtain ⟨pa, pl, pc, hcell, hpl, HQ⟩ : ∃ (pa : Option Addr) (pl : List UInt8) (pc : Nat), wr.cell? ⟨g + 3, k, none⟩ = some (.slice pa pl.length pc) ∧ pl.length ≤ 140737488355328 ∧ Box (IsBytes w pa pl pc ∧ (k = 0 → P ++ pl = L) ∧ (k = 1 → P ++ pl = L ++ l)) := by
        match k, hlt with
        | 0, _ => exact ⟨ta, tailS L, tcap, by rw [cell_of_row _ _ _ _ _ _ HP.out.1.W.parts]; rfl, by omega, ⟨HT.out, fun _ => by rw [HP.out.2.1 rfl, headS_tail], fun h => absurd h (by decide)⟩⟩
        | 1, _ => exact ⟨ba, l, bcap, by rw [cell_of_row _ _ _ _ _ _ HP.out.1.W.parts]; rfl, by omega, ⟨HB.out, fun h => absurd h (by decide), fun _ => by rw [HP.out.2.2.1 rfl]⟩⟩
      change wr.cell? ⟨g + 1 + 1 + 1, k, none⟩ = _ at hcell
      go_wp2_with fail
      clear hcell
      rw [show decide ((k : Int) < 2) = true by rw [decide_eq_true_eq]; omega]
      have HLT := Box.mk hlt
      have HLE := Box.mk hle
      clear hlt hle
      go_loopw [6, 8] (fun fv pv wr => ∃ (f : Nat) (s : St) (P' blk rest : List UInt8) (pa : Option Addr) (pc : Nat), fv = .int .i64 f ∧ pv = .slice pa rest.length pc ∧ f < 64 ∧ rest.length ≤ 140737488355328 ∧
        Box (WrP w wr g L.length (.slice ta (tailS L).length tcap) (.slice ta (tailS L).length tcap) (.slice ba l.length bcap) P' f s blk ∧ P' ++ rest = P ++ pl ∧ IsBytes w pa rest pc)) (fun _ pv _ => sliceLen pv)
      case atStart => exact ⟨f, s, P, blk, pl, pa, pc, rfl, rfl, hf64, hpl, ⟨HP.out.1, rfl, HQ.out.1⟩⟩
      case round =>
        clear hf64 hpl
        obtain ⟨f, s, P', blk, rest, pa, pc, rfl, rfl, hf64, hpl, HR⟩ := hrel
        by_cases hr0 : 0 < rest.length
        · obtain ⟨x, rfl⟩ : ∃ x, pa = some x := by
            rcases HR.out.2.2 with ⟨_, h, _⟩ | ⟨x, h, _⟩
            · rw [h] at hr0; exact absurd hr0 (by decide)
            · exact ⟨x, h⟩
          obtain ⟨n, HN⟩ : ∃ n, Box (n = min (64 - f) rest.length) := ⟨_, ⟨rfl⟩⟩
          have hn1 : 0 < n ∧ n ≤ rest.length ∧ n ≤ 64 - f := by have := HN.out; omega
          have HTn := Box.mk (Turn.mk HR.out.1.len HR.out.1.hf HR.out.1.pre HN.out)
          have hsl := fun W => run_slice_from W (g + 1 + 1) f hf64
          have HC := Box.mk (copy_facts HTn.out HR.out.1 HR.out.2.2 hn1.2.1)
          go_wp2_with (refine wpList_copy_own rfl _ _ 22 22 rfl 5 Tryd.underlying22 u8_size (g + 2) f (64 - f) (64 - f) x rest.length pc rfl rfl (blkV blk) 53 HR.out.1.W.blk (bytesV (rest.take n)) HC.out.1 HC.out.2.1 HC.out.2.2.1 (bytesV_one _) ?_; rw [HC.out.2.2.2.1, HC.out.2.2.2.2])
          clear hsl
          obtain ⟨x', HX'⟩ : ∃ x', Box (x' = if pc = n then x else x.add n) := ⟨_, ⟨rfl⟩⟩
          have hpt := fun W => run_part W x rest.length pc n hn1.2.1
          rw [← HX'.out] at hpt
          have HRB : Box (IsBytes w (some x') (rest.drop n) (pc - n)) := ⟨by rw [HX'.out]; exact part_bytes HR.out.2.2 hn1.2.1⟩
          obtain ⟨fn, hwf, hfn, HFN⟩ : ∃ fn : Nat, IntKind.i64.wrap ((f : Int) + (n : Int)) = fn ∧ fn ≤ 64 ∧ Box (fn = f + n) := ⟨f + n, by simp only [IntKind.wrap, IntKind.bits, IntKind.signed]; simp; omega, by omega, ⟨rfl⟩⟩
          go_quiet (fail)
          clear hwf hpt
          have HW5 := Box.mk ((HR.out.1.W.setBlk (splB blk f (rest.take n))).drawn nq)
          have HK5 : Box (RowAt ((wr.setRow (g + 2) (blkV (splB blk f (rest.take n)))).drewN nq) 1 kkV) := ⟨fun j v hj => kk_setRow HR.out.1.kk HR.out.1.W HK.out (by omega) j v hj⟩
          generalize (wr.setRow (g + 2) (blkV (splB blk f (rest.take n)))).drewN nq = W5 at *
          by_cases h64 : fn = 64
          · have hb : ((fn : Int) == 64) = true := by rw [h64]; rfl
            have HTF := Box.mk (HTn.out.full (by have := HFN.out; omega))
            have hlb : (splB blk f (rest.take n)).length = 64 := by rw [splB_len (by rw [List.length_take, HR.out.1.len]; omega), HR.out.1.len]
            have HS := Box.mk HR.out.1.st
            have HPR := Box.mk HR.out.2.1
            clear HR HC h64
            generalize hB : splB blk f (rest.take n) = blk' at *
            have HBB := Box.mk hB
            clear hB
            go_wp2_with (first
              | (refine wpList_load_at rfl 32 _ rfl g rfl s.cells _ HW5.out.state Tryd.underlying32 rfl (cells_size8 s) ?_)
              | (refine wpList_load_row rfl 53 _ rfl (g + 2) rfl 53 (blkV blk') (0, 0) _ HW5.out.blk Tryd.underlying53 rfl (blk_size blk' hlb) ?_))
            refine (compress_any s blk' hlb W5 HK5.out).mono ?_
            rintro e W6 ⟨rfl, hb6⟩
            have HW6 := Box.mk (HW5.out.keep hb6)
            have HK6 := Box.mk (HK5.out.keep hb6)
            clear hb6 HW5 HK5
            obtain ⟨s', HS'⟩ : ∃ s', Box (blockS s blk' = s') := ⟨_, ⟨rfl⟩⟩
            rw [show blockS s blk' = s' from HS'.out]
            go_wp2_with (refine wpList_store_sub rfl 32 _ _ rfl g 0 s'.cells rfl rfl 34 _ (digV s' L.length (.slice ta (tailS L).length tcap)) HW6.out.st (cells_size8 s') (by show 0 + 8 ≤ 10; decide) (cells_one s') rfl ?_)
            go_roundw
            case rel =>
              refine ⟨0, s', P' ++ rest.take n, blk', rest.drop n, some x', pc - n, rfl, by rw [List.length_drop], by decide, by rw [List.length_drop]; omega, ⟨⟨HW6.out.setSt s', ?_, hlb, HTF.out.2.2.2.symm, ?_, ?_⟩, ?_, HRB.out⟩⟩
              · rw [HTF.out.2.1, ← HS'.out, HS.out]
              · rw [HTF.out.2.2.1]; rfl
              · exact kk_setRow HK6.out HW6.out HK.out (Nat.le_refl _)
              · rw [← HPR.out, List.append_assoc, List.take_append_drop]
            case measure => simp [sliceLen]; omega
          · have hb : ((fn : Int) == 64) = false := by rw [beq_eq_false_iff_ne]; omega
            have HTF := Box.mk (HTn.out.part (by have := HFN.out; omega))
            have hlb : (splB blk f (rest.take n)).length = 64 := by rw [splB_len (by rw [List.length_take, HR.out.1.len]; omega), HR.out.1.len]
            have HS := Box.mk HR.out.1.st
            have HPR := Box.mk HR.out.2.1
            clear HR HC
            go_wp2_with fail
            go_roundw
            case rel =>
              refine ⟨fn, s, P' ++ rest.take n, splB blk f (rest.take n), rest.drop n, some x', pc - n, rfl, by rw [List.length_drop], by omega, by rw [List.length_drop]; omega, ⟨⟨HW5.out, ?_, hlb, ?_, ?_, HK5.out⟩, ?_, HRB.out⟩⟩
              · rw [HTF.out.1, HS.out]
              · rw [HTF.out.2.2.1, HFN.out]
              · rw [HFN.out]; exact HTF.out.2.1
              · rw [← HPR.out, List.append_assoc, List.take_append_drop]
            case measure => simp [sliceLen]; omega
        · have HE := Box.mk (show rest = [] from List.eq_nil_of_length_eq_zero (by omega))
          go_wp2_with fail
          go_roundw
          case rel =>
            have hP : P' = P ++ pl := by rw [← HR.out.2.1, HE.out, List.append_nil]
            exact ⟨k + 1, f, s, P', blk, by have := HLT.out; omega, rfl, by go_num, hf64, ⟨HR.out.1, fun h => absurd h (by omega), fun h => by rw [hP]; exact HQ.out.2.1 (by omega), fun h => by rw [hP]; exact HQ.out.2.2 (by omega)⟩⟩
          case measure => have := HLT.out; simp [intOf]; omega
    · have HPE := Box.mk (show P = L ++ l from HP.out.2.2.2 (by omega))
      have h8 : wr.cell? ⟨g, 8, none⟩ = some (.int .i64 L.length) := by rw [cell_of_row _ _ _ _ _ _ HP.out.1.W.st]; rfl
      have f8 := frozen_of_row wr g 8 _ _ HP.out.1.W.st
      have hsl := fun W => run_slice_upto W (g + 1 + 1) f (by omega)
      have HW8 := Box.mk (HP.out.1.W.setLen ((L.length : Int) + (l.length : Int)))
      have hft : (tailS P).length = f := by rw [tailS_len, HP.out.1.hf]
      have HBY := Box.mk (blk_bytes HW8.out HP.out.1.len HP.out.1.pre hf64)
      clear hle
      go_wp2_with (at_builtin; refine wpList_append_accs _ rfl _ _ rfl rfl (AccB.start _) (by rw [hft]; rfl) HBY.out (by rw [hft, List.length_nil]; omega) ?c1)
      case c1 =>
        intro v1 w1 hacc
        obtain ⟨a1, c1, rfl, hb1, hbl⟩ := hacc.shape'
        have HB1 := Box.mk hb1
        have HBL := Box.mk hbl
        have HW1 := Box.mk (HW8.out.keep hacc.2)
        clear hacc hb1 hbl h8 f8 hsl
        have h9 : w1.cell? ⟨g, 9, none⟩ = some (.slice ta (tailS L).length tcap) := by rw [cell_of_row _ _ _ _ _ _ HW1.out.st]; rfl
        have f9 := frozen_of_row w1 g 9 _ _ HW1.out.st
        have HW2 := Box.mk (HW1.out.setTail (.slice a1 f c1))
        go_wp2_with (first
          | (refine wpList_load_row rfl 34 _ rfl g rfl 34 _ (0, 0) _ HW2.out.st Tryd.underlying34 rfl sizeDig ?_)
          | (refine wpList_store_row rfl 34 _ _ rfl (g + 1) _ rfl rfl 34 dzero HW2.out.res sizeDig rfl (digV_one _ _ _ _ _) ?_))
        refine ret_row (g := g + 1) (cs := digV s ((L.length : Int) + (l.length : Int)) (.slice a1 f c1)) rfl rfl rfl (setRow_heap _ _ dzero _ 34 (0, 0) HW2.out.res) Tryd.underlying34 rfl sizeDig ?_
        have hst := HP.out.1.st
        rw [HPE.out] at hst HB1 hft
        refine ⟨a1, c1, ?_, ?_, ?_, fun x hx => ?_⟩
        · rw [hst, ← hft, List.length_append, Int.natCast_add]; rfl
        · exact bytes_far HB1.out HBL.out (by rw [World.size_setCell]; have := lt_of_row' HP.out.1.W.res; exact this) _ _ _
        · exact below_setRow HW2.out.below (by have := HW2.out.base; omega) _
        · have h1 := HBL.out x hx
          have h2 := HW8.out.below.size
          omega

/-- v is the digest's state after the bytes L. -/
def DigAt (w : World) (v : Value) (L : List UInt8) : Prop := ∃ ta tcap, v = .agg (digV (stS L) L.length (.slice ta (tailS L).length tcap)) ∧ IsBytes w ta (tailS L) tcap
theorem DigAt.keep {w w' : World} {v : Value} {L : List UInt8} (h : DigAt w v L) (hb : Below w.heap.size w w') : DigAt w' v L := by
  obtain ⟨ta, tc, h1, h2⟩ := h
  exact ⟨ta, tc, h1, h2.keep hb⟩
theorem write_any (L l : List UInt8) (v : Value) (ba : Option Addr) (bcap : Nat) (w : World) (hv : DigAt w v L) (hb : IsBytes w ba l bcap) (hlen : L.length + l.length ≤ 140737488355328) (hk : RowAt w 1 kkV) :
    Calls Tryd.prog 16 #[v, .slice ba l.length bcap] w fun e w' => ∃ ta' tcap', e = .returned (.agg (digV (stS (L ++ l)) (L ++ l).length (.slice ta' (tailS (L ++ l)).length tcap'))) ∧ IsBytes w' ta' (tailS (L ++ l)) tcap' ∧ Below w.heap.size w w' ∧ ∀ x, ta' = some x → w.heap.size ≤ x.block := by
  obtain ⟨ta, tcap, rfl, ht⟩ := hv
  obtain ⟨a0, b0, c0, d0, e0, f0, g0, h0, hL⟩ : ∃ a0 b0 c0 d0 e0 f0 g0 h0, stS L = ⟨a0, b0, c0, d0, e0, f0, g0, h0⟩ := ⟨_, _, _, _, _, _, _, _, rfl⟩
  exact write_core a0 b0 c0 d0 e0 f0 g0 h0 L l hL ta ba tcap bcap w ht hb hlen hk
theorem digAt_start (w : World) : DigAt w (.agg (digV initS 0 (.slice none 0 0))) [] := ⟨none, 0, rfl, .inl ⟨rfl, rfl, rfl⟩⟩
/-- A variable in block g that holds the digest's state after L. -/
def DigRow (w : World) (g : Nat) (L : List UInt8) : Prop :=
  ∃ ta tcap, w.heap[g]? = some (.cells (digV (stS L) L.length (.slice ta (tailS L).length tcap)) 34 (0, 0)) ∧ IsBytes w ta (tailS L) tcap ∧ ∀ x, ta = some x → x.block ≠ g
theorem bytes_setRow {w : World} {a : Option Addr} {l : List UInt8} {cap g : Nat} (h : IsBytes w a l cap) (hf : ∀ x, a = some x → x.block ≠ g) (cs : Array Value) : IsBytes (w.setRow g cs) a l cap := by
  rcases h with h | ⟨x, h1, h2, h3, h4⟩
  · exact .inl h
  · refine .inr ⟨x, h1, h2, h3, fun j hj => ?_⟩
    have hb := hf x h1
    have hadd : (x.add j).block = x.block := by unfold Addr.add; split <;> rfl
    rw [cell_setRow_other _ _ _ _ (by rw [hadd]; exact hb)]
    exact h4 j hj
theorem DigRow.keep {w w' : World} {g : Nat} {L : List UInt8} (h : DigRow w g L) (hb : Below w.heap.size w w') : DigRow w' g L := by
  obtain ⟨ta, tc, h1, h2, h3⟩ := h
  exact ⟨ta, tc, by rw [hb.block _ (lt_of_row' h1)]; exact h1, h2.keep hb, h3⟩
theorem DigRow.lt {w : World} {g : Nat} {L : List UInt8} (h : DigRow w g L) : g < w.heap.size := by
  obtain ⟨ta, tc, h1, _⟩ := h
  exact lt_of_row' h1
/-- What Write hands back, stored into the variable. -/
theorem DigRow.set {w : World} {g : Nat} {L0 L : List UInt8} (h : DigRow w g L0) {ta : Option Addr} {tc : Nat} (ht : IsBytes w ta (tailS L) tc) (hf : ∀ x, ta = some x → x.block ≠ g) :
    DigRow (w.setRow g (digV (stS L) L.length (.slice ta (tailS L).length tc))) g L := by
  obtain ⟨_, _, h1, _⟩ := h
  exact ⟨ta, tc, setRow_heap _ _ _ _ _ _ h1, bytes_setRow ht hf _, hf⟩
end Go.Proofs.YtpgppninmnplkaaDoor
