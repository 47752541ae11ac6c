/- The state in the reference; the small functions of the laws. -/
import Derived.Test.YtpgppninmnplkaaDoorDigV
namespace Go.Proofs.YtpgppninmnplkaaDoor
open Go.RowKit

set_option maxHeartbeats 400000 in
theorem short_any (l : List UInt8) (a : Option Addr) (cap n : Nat) (w : World) (h : IsBytes w a l cap) (hn : n ≤ 1000) :
    Calls Tryd.prog 8 #[.slice a l.length cap, .int .i64 n] w fun e w' => ∃ cap', e = .returned (.slice a (l.take n).length cap') ∧ IsBytes w a (l.take n) cap' ∧ w = w' := by
  have H0 := Box.mk h
  clear h
  by_cases hlt : n < l.length
  · have hb : IsBytes w a (l.take n) cap := by
      rcases H0.out with ⟨h1, h2, _⟩ | ⟨x, h1, h2, h3, h4⟩
      · rw [h2] at hlt; exact absurd hlt (by simp)
      · exact .inr ⟨x, h1, by rw [List.length_take]; omega, h3, fun j hj => by
          rw [List.getElem_take]; exact h4 j (by rw [List.length_take] at hj; omega)⟩
    have hle : l.length ≤ cap := by
      rcases H0.out with ⟨h1, h2, _⟩ | ⟨x, h1, h2, _⟩
      · rw [h2] at hlt; exact absurd hlt (by simp)
      · exact h2
    have HB := Box.mk hb
    clear hb
    have hl : (l.take n).length = n := by rw [List.length_take]; omega
    rw [hl]
    go_enter Tryd.func8, Tryd.ntmps8
    go_wp2
    go_ret
    exact ⟨_, rfl, HB.out, rfl⟩
  · rw [List.take_of_length_le (by omega)]
    go_enter Tryd.func8, Tryd.ntmps8
    go_wp2
    go_ret
    exact ⟨_, rfl, H0.out, rfl⟩

theorem part_all {w : World} {a : Option Addr} {l : List UInt8} {cap i : Nat} (h : IsBytes w a l cap) (hi : i ≤ l.length) :
    ∃ a' c', (∀ W, (Instr.sliceAt 22 (.slice a l.length cap) (some (.int .i64 (i : Int))) none none).run Tryd.prog W = .ok (.slice a' (l.length - i) c') W) ∧ IsBytes w a' (l.drop i) c' := by
  cases a with
  | some x => exact ⟨_, _, fun W => run_part W x l.length cap i hi, part_bytes h hi⟩
  | none =>
    rcases h with ⟨_, rfl, rfl⟩ | ⟨x, h, _⟩
    · have h0 : i = 0 := by simpa using hi
      subst h0
      refine ⟨none, 0, fun W => ?_, .inl ⟨rfl, rfl, rfl⟩⟩
      have es : (sizeOf (Tryd.prog.elem 22)).run Tryd.prog W = .ok 1 W := by rw [show Tryd.prog.elem 22 = 5 by kernel_rfl]; exact sizeOf_u8 W
      rw [run_sliceAt_slice W 22 _ _ _ _ (by kernel_rfl), run_slice_l W 22 _ _ _ (by kernel_rfl) .i64 ((0 : Nat) : Int) (by omega) (by simp), es]
      rfl
    · cases h
theorem bytes_setCell {w : World} {a : Option Addr} {l : List UInt8} {cap g : Nat} (h : IsBytes w a l cap) (hf : ∀ x, a = some x → x.block ≠ g) (i : Nat) (v : Value) : IsBytes (w.setCell ⟨g, i, none⟩ v) a l cap := by
  rcases h with h | ⟨x, h1, h2, h3, h4⟩
  · exact .inl h
  · refine .inr ⟨x, h1, h2, h3, fun j hj => ?_⟩
    have hb := hf x h1
    have hadd : (x.add j).block = x.block := by unfold Addr.add; split <;> rfl
    rw [World.cell?_setCell_other]
    · exact h4 j hj
    · intro e; rw [← e] at hadd; simp at hadd; omega
/-- The result in block g, the digest in block gd. -/
def SW (w wr : World) (g gd : Nat) (s : St) (n : Nat) : Prop :=
  wr.heap[g]? = some (.cells dzero 34 (0, 0)) ∧ wr.heap[gd]? = some (.cells (digV s n (.slice none 0 0)) 34 (0, 0)) ∧ Below w.heap.size w wr ∧ w.heap.size = g ∧ g < gd
theorem SW.keep {w wr w' : World} {g gd : Nat} {s : St} {n : Nat} (h : SW w wr g gd s n) (hb : Below wr.heap.size wr w') : SW w w' g gd s n :=
  ⟨(hb.block _ (lt_of_row' h.1)).trans h.1, (hb.block _ (lt_of_row' h.2.1)).trans h.2.1, below_trans h.2.2.1 hb, h.2.2.2⟩
theorem SW.setRow {w wr : World} {g gd : Nat} {s : St} {n : Nat} (h : SW w wr g gd s n) (s' : St) : SW w (wr.setRow gd (digV s' n (.slice none 0 0))) g gd s' n :=
  ⟨(setRow_other _ _ _ _ (by have := h.2.2.2.2; omega)).trans h.1, setRow_heap _ _ _ _ _ _ h.2.1, below_setRow h.2.2.1 (by have := h.2.2.2; omega) _, h.2.2.2⟩
theorem SW.cells {w wr : World} {g gd : Nat} {s : St} {n : Nat} (h : SW w wr g gd s n) : DigCells wr gd s n (.slice none 0 0) := by
  unfold DigCells
  simp only [cell_of_row _ _ _ _ _ _ h.2.1]
  exact ⟨rfl, rfl, rfl, rfl, rfl, rfl, rfl, rfl, rfl, rfl⟩
theorem sw_world (w : World) (n : Nat) {w1 W : World} (hb : Below (w.alloc (.cells dzero 34)).heap.size (w.alloc (.cells dzero 34)) w1) (hW : W = (w1.alloc (.cells dzero 34)).setRow w1.heap.size (digV initS n (.slice none 0 0))) :
    SW w W w.heap.size w1.heap.size (fullB initS [] 0) n := by
  subst hW
  have hs := hb.size
  rw [World.size_alloc] at hs
  have hB : Below w1.heap.size w1 ((w1.alloc (.cells dzero 34)).setRow w1.heap.size (digV initS n (.slice none 0 0))) := below_setRow ((Below.refl _ _).alloc (Nat.le_refl _) _) (Nat.le_refl _) _
  have hB0 : Below w.heap.size w w1 := ((Below.refl _ _).alloc (Nat.le_refl _) _).trans (hb.mono (by rw [World.size_alloc]; omega))
  refine ⟨?_, setRow_heap _ _ _ _ _ _ (heap_alloc_new _ _), below_trans hB0 hB, rfl, by omega⟩
  rw [hB.block _ (by omega), hb.block _ (by rw [World.size_alloc]; omega)]
  exact heap_alloc_new _ _

set_option maxRecDepth 100000 in
set_option maxHeartbeats 4000000 in
theorem refState_any (l : List UInt8) (a : Option Addr) (cap : Nat) (w : World) (h : IsBytes w a l cap) (hl : l.length ≤ 70368744177664) :
    Calls Tryd.prog 19 #[.slice a l.length cap] w fun e w' => ∃ ta tc, e = .returned (.agg (digV (stS l) l.length (.slice ta (tailS l).length tc))) ∧ IsBytes w' ta (tailS l) tc ∧ Below w.heap.size w w' := by
  have H0 := Box.mk h
  clear h
  go_enter Tryd.func19, Tryd.ntmps19
  go_wp2_with fail
  refine (initial_any _).mono ?_
  rintro e w1 ⟨rfl, hb1⟩
  have HB1 := Box.mk hb1
  clear hb1
  obtain ⟨n, HN⟩ : ∃ n, Box (l.length = n) := ⟨_, ⟨rfl⟩⟩
  rw [show l.length = n from HN.out] at hl ⊢
  go_wp2_with (first
    | (refine wpList_build_to (cells := digV initS n (.slice none 0 0)) rfl 34 _ rfl (by kernel_rfl) ?_)
    | (refine wpList_store_row rfl 34 _ _ rfl w1.heap.size (digV initS n (.slice none 0 0)) rfl rfl 34 dzero (heap_alloc_new _ _) sizeDig rfl (digV_one _ _ _ _ _) ?_))
  obtain ⟨W, hW⟩ : ∃ W, W = (w1.alloc (.cells dzero 34)).setRow w1.heap.size (digV initS n (.slice none 0 0)) := ⟨_, rfl⟩
  have HS0 := Box.mk (sw_world w n HB1.out hW)
  change Code.wp _ _ _ _ ((w1.alloc (.cells dzero 34)).setRow w1.heap.size (digV initS n (.slice none 0 0)))
  rw [← hW]
  clear hW HB1
  generalize w1.heap.size = gd at *
  generalize hg : w.heap.size = g at *
  have HG := Box.mk hg
  clear hg
  go_loopw [4] (fun iv wr => ∃ q : Nat, 64 * q ≤ n ∧ iv = .int .i64 ((64 * q : Nat) : Int) ∧ Box (SW w wr g gd (fullB initS l q) n)) (fun iv _ => n - (intOf iv).toNat)
  case atStart => exact ⟨0, Nat.zero_le _, rfl, HS0⟩
  case round =>
    clear HS0
    obtain ⟨q, hq, rfl, HR⟩ := hrel
    obtain ⟨s, HS⟩ : ∃ s, Box (fullB initS l q = s) := ⟨_, ⟨rfl⟩⟩
    rw [show fullB initS l q = s from HS.out] at HR
    obtain ⟨i, HI⟩ : ∃ i, Box (64 * q = i) := ⟨_, ⟨rfl⟩⟩
    rw [show 64 * q = i from HI.out] at hq ⊢
    by_cases hqt : i + 64 ≤ n
    · obtain ⟨x, rfl, hxb, hcap⟩ : ∃ x, a = some x ∧ (∀ t (ht : t < l.length), w.cell? (x.add t) = some (.int .u8 l[t].toNat)) ∧ n ≤ cap := by
        rcases H0.out with ⟨_, h, _⟩ | ⟨x, h1, h2, _, h4⟩
        · have := HN.out; rw [h] at this; simp at this; omega
        · exact ⟨x, h1, h4, by have := HN.out; omega⟩
      obtain ⟨j, hwi, hjn, HJ⟩ : ∃ j : Nat, IntKind.i64.wrap ((i : Int) + 64) = j ∧ j ≤ n ∧ Box (j = i + 64) := ⟨i + 64, by
        simp only [IntKind.wrap, IntKind.bits, IntKind.signed]; simp; omega, hqt, ⟨rfl⟩⟩
      have hsl := fun W => run_slice_mid W x n cap i j (by have := HJ.out; omega) hjn hcap
      rw [show j - i = 64 by have := HJ.out; omega] at hsl
      obtain ⟨blk, HBK⟩ : ∃ blk, Box (blk = (l.drop i).take 64) := ⟨_, ⟨rfl⟩⟩
      have hbl : blk.length = 64 := by rw [HBK.out, List.length_take, List.length_drop, HN.out]; omega
      have HBC : Box (∀ t (ht : t < blk.length), wr.cell? ((x.add i).add t) = some (.int .u8 blk[t].toNat)) := ⟨fun t ht => by
        have e : blk[t] = l[i + t]'(by rw [HN.out]; omega) := by simp only [HBK.out, List.getElem_take, List.getElem_drop]
        rw [e]
        have h5 := below_cell HR.out.2.2.1 (hxb (i + t) (by rw [HN.out]; omega))
        rw [← h5]
        congr 1
        exact (addr_add_add x i t).symm⟩
      clear hxb
      have hcd := HR.out.cells
      have hc0 := fun b : BelowOf wr => below_cell b.prop hcd.1
      have hc1 := fun b : BelowOf wr => below_cell b.prop hcd.2.1
      have hc2 := fun b : BelowOf wr => below_cell b.prop hcd.2.2.1
      have hc3 := fun b : BelowOf wr => below_cell b.prop hcd.2.2.2.1
      have hc4 := fun b : BelowOf wr => below_cell b.prop hcd.2.2.2.2.1
      have hc5 := fun b : BelowOf wr => below_cell b.prop hcd.2.2.2.2.2.1
      have hc6 := fun b : BelowOf wr => below_cell b.prop hcd.2.2.2.2.2.2.1
      have hc7 := fun b : BelowOf wr => below_cell b.prop hcd.2.2.2.2.2.2.2.1
      clear hcd
      have hcond : (i : Int) + 64 ≤ n := by omega
      have HWI := Box.mk hwi
      clear hwi
      go_wp2_with fail
      have hwi := HWI.out
      refine wp_region_below_tail 9 (by kernel_rfl) (by kernel_rfl) (by kernel_rfl) (by kernel_rfl) (by kernel_rfl) ?_
      simp only [List.take_succ_cons, List.take_zero, List.drop_succ_cons, List.drop_zero]
      repeat (quiet_step (fail))
      quiet_step (exact refBlock_q s blk hbl (x.add i) (cap - i) HBC.out _)
      repeat (quiet_step (fail))
      refine wpQuiet_nil ?_
      rintro _ ⟨b, rfl⟩
      clear hc0 hc1 hc2 hc3 hc4 hc5 hc6 hc7 hwi hsl
      have HRB := Box.mk (HR.out.keep b.prop)
      generalize b.val = W5 at *
      obtain ⟨s', HS'⟩ : ∃ s', Box (blockS s blk = s') := ⟨_, ⟨rfl⟩⟩
      rw [show blockS s blk = s' from HS'.out]
      go_wp2_with (refine wpList_store_sub rfl 32 _ _ rfl gd 0 s'.cells rfl rfl 34 (digV s n (.slice none 0 0)) (digV s' n (.slice none 0 0)) HRB.out.2.1 (cells_size8 s') (by show 0 + 8 ≤ 10; decide) (cells_one s') rfl ?_)
      go_roundw
      case rel =>
        refine ⟨q + 1, by have := HI.out; omega, by have := HI.out; congr 1; omega, ⟨?_⟩⟩
        rw [show fullB initS l (q + 1) = s' by rw [fullB, HS.out, HI.out, ← HBK.out, HS'.out]]
        exact HRB.out.setRow s'
      case measure => simp [intOf]; omega
    · have HSE := Box.mk (show s = stS l ∧ tailS l = l.drop i by
        have h1 : n / 64 = q := by have := HI.out; omega
        constructor
        · unfold stS; rw [HN.out, h1, HS.out]
        · unfold tailS; rw [HN.out, h1, HI.out])
      have hcond : ¬ (i : Int) + 64 ≤ n := by omega
      obtain ⟨a', c', hpt, hby⟩ := part_all H0.out (show i ≤ l.length by rw [HN.out]; exact hq)
      rw [HN.out] at hpt
      have hdl : (l.drop i).length = n - i := by rw [List.length_drop, HN.out]
      have HE := Box.mk (AccB.empty wr)
      have HBY := Box.mk ((hby.keep HR.out.2.2.1).keep ((Below.refl _ _).alloc (Nat.le_refl _) (.cells #[] 5)))
      have HDL := Box.mk hdl
      clear hby hdl
      go_wp2_with (at_builtin; refine wpList_append_accs _ rfl _ _ rfl rfl HE.out (by rw [HDL.out]; rfl) HBY.out (by rw [HDL.out, List.length_nil]; omega) ?c1)
      case c1 =>
        intro v1 w2 hacc
        obtain ⟨a1, c1, rfl, hb1, hbl⟩ := hacc.shape'
        have HB1 : Box (IsBytes w2 a1 (l.drop i) c1) := ⟨hb1⟩
        have HBL := Box.mk hbl
        have HW2 := Box.mk (HR.out.keep hacc.2)
        have HLT := Box.mk (show gd < wr.heap.size from lt_of_row' HR.out.2.1)
        clear hacc hb1 hbl hpt
        have h9 : w2.cell? ⟨gd, 9, none⟩ = some (.slice none 0 0) := by rw [cell_of_row _ _ _ _ _ _ HW2.out.2.1]; rfl
        have f9 := frozen_of_row w2 gd 9 _ _ HW2.out.2.1
        have HD : Box ((w2.setCell ⟨gd, 9, none⟩ (.slice a1 (l.length - i) c1)).heap[gd]? = some (.cells (digV s n (.slice a1 (l.length - i) c1)) 34 (0, 0))) := ⟨by rw [heap_setCell_same _ _ _ _ _ _ HW2.out.2.1]; rfl⟩
        have HRR : Box ((w2.setCell ⟨gd, 9, none⟩ (.slice a1 (l.length - i) c1)).heap[g]? = some (.cells dzero 34 (0, 0))) := ⟨by rw [heap_setCell_other _ _ _ _ (by show g ≠ gd; have := HW2.out.2.2.2.2; omega)]; exact HW2.out.1⟩
        go_wp2_with (first
          | (refine wpList_load_row rfl 34 _ rfl gd rfl 34 _ (0, 0) _ HD.out Tryd.underlying34 rfl sizeDig ?_)
          | (refine wpList_store_row rfl 34 _ _ rfl g _ rfl rfl 34 dzero HRR.out sizeDig rfl (digV_one _ _ _ _ _) ?_))
        refine ret_row (g := g) (cs := digV s n (.slice a1 (l.length - i) c1)) rfl rfl rfl (setRow_heap _ _ dzero _ 34 (0, 0) HRR.out) Tryd.underlying34 rfl sizeDig ?_
        refine ⟨a1, c1, ?_, ?_, ?_⟩
        · rw [HSE.out.1, HSE.out.2, List.length_drop, HN.out]
        · rw [HSE.out.2]
          refine bytes_setRow (bytes_setCell HB1.out (fun x hx => ?_) _ _) (fun x hx => ?_) _
          · have := HBL.out x hx; have := HLT.out; omega
          · have := HBL.out x hx; have := HLT.out; have := HW2.out.2.2.2.2; omega
        · have h1 := HW2.out.2.2.2
          exact below_setRow (HW2.out.2.2.1.setCell (p := ⟨gd, 9, none⟩) (by show w.heap.size ≤ gd; omega) _) (by omega) _

theorem within_val (z : Int) (n : Nat) (h0 : 0 < n) (hn : n ≤ 1000) : ∃ k : Nat, k < n ∧ (wrap64 (z.tmod n + n)).tmod n = (k : Int) := by
  have h1 : z.tmod n < n := Int.tmod_lt_of_pos z (by omega)
  have h2 : -(n : Int) < z.tmod n := Int.lt_tmod_of_pos z (by omega)
  generalize z.tmod n = y at *
  have e : wrap64 (y + n) = y + n := by simp only [wrap64]; omega
  rw [e, Int.tmod_eq_emod_of_nonneg (by omega)]
  exact ⟨((y + n) % n).toNat, by have := Int.emod_lt_of_pos (y + n) (show (0 : Int) < n by omega); have := Int.emod_nonneg (y + n) (show (n : Int) ≠ 0 by omega); omega, by have := Int.emod_nonneg (y + n) (show (n : Int) ≠ 0 by omega); omega⟩
set_option maxHeartbeats 400000 in
theorem within_any (z : Int) (n : Nat) (w : World) (h0 : 0 < n) (hn : n ≤ 1000) :
    Calls Tryd.prog 9 #[.int .i64 z, .int .i64 n] w fun e w' => ∃ k : Nat, k < n ∧ e = .returned (.int .i64 k) ∧ w = w' := by
  obtain ⟨k, hk, he⟩ := within_val z n h0 hn
  go_enter Tryd.func9, Tryd.ntmps9
  go_wp2
  go_ret
  exact ⟨k, hk, rfl, rfl⟩

set_option maxHeartbeats 1000000 in
theorem eq8 (W : World) (a b c d e f g h : UInt32) :
    (Op.equalIn 10000 32 (.agg #[.int .u32 (vU a), .int .u32 (vU b), .int .u32 (vU c), .int .u32 (vU d), .int .u32 (vU e), .int .u32 (vU f), .int .u32 (vU g), .int .u32 (vU h)])
      (.agg #[.int .u32 (vU a), .int .u32 (vU b), .int .u32 (vU c), .int .u32 (vU d), .int .u32 (vU e), .int .u32 (vU f), .int .u32 (vU g), .int .u32 (vU h)])).run Tryd.prog W = .ok true W := by
  have hq := fun (d : Nat) (x : UInt32) => run_equalIn_int (P := Tryd.prog) (w := W) d 31 .u32 .u32 (vU x) (vU x) Tryd.underlying31
  rw [show (10000 : Nat) = 9998 + 1 + 1 from rfl]
  unfold Op.equalIn
  simp [run_underlying Tryd.underlying32, part, hq, Std.Legacy.Range.forIn_eq_forIn_range', List.range']

theorem below2 (w : World) (o1 o2 : Obj) : Below w.heap.size w ((w.alloc o1).alloc o2) := ((Below.refl _ _).alloc (Nat.le_refl _) _).alloc (by rw [World.size_alloc]; omega) _
set_option maxHeartbeats 1000000 in
theorem sameDigest_any (s : St) (n : Int) (ta tb : Option Addr) (l : List UInt8) (ca cb : Nat) (w : World) (ha : IsBytes w ta l ca) (hb : IsBytes w tb l cb) :
    Calls Tryd.prog 18 #[.agg (digV s n (.slice ta l.length ca)), .agg (digV s n (.slice tb l.length cb))] w fun e w' => e = .returned (.bool true) ∧ Below w.heap.size w w' := by
  have HA := Box.mk (fun o1 o2 => conv_bytes (ha.keep (below2 w o1 o2)))
  have HB := Box.mk (fun o1 o2 => conv_bytes (hb.keep (below2 w o1 o2)))
  clear ha hb
  have he := fun W => eq8 W s.a s.b s.c s.d s.e s.f s.g s.h
  have c1 := HA.out (.cells (digV s n (.slice ta l.length ca)) 34) (.cells (digV s n (.slice tb l.length cb)) 34)
  have c2 := HB.out (.cells (digV s n (.slice ta l.length ca)) 34) (.cells (digV s n (.slice tb l.length cb)) 34)
  unfold digV vW at c1 c2 ⊢
  go_enter Tryd.func18, Tryd.ntmps18
  go_wp2_with fail
  go_ret
  exact ⟨rfl, below2 w _ _⟩
end Go.Proofs.YtpgppninmnplkaaDoor
