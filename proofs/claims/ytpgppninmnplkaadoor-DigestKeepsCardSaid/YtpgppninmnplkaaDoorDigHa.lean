/- Sum and Of. -/
import Derived.Test.YtpgppninmnplkaaDoorDigG
namespace Go.Proofs.YtpgppninmnplkaaDoor
open Go.RowKit

/-- The ten cells of a digest. -/
def DigCells (w : World) (g : Nat) (s : St) (n : Int) (t : Value) : Prop :=
  w.cell? ⟨g, 0, none⟩ = some (.int .u32 (vU s.a)) ∧ w.cell? ⟨g, 1, none⟩ = some (.int .u32 (vU s.b)) ∧ w.cell? ⟨g, 2, none⟩ = some (.int .u32 (vU s.c)) ∧ w.cell? ⟨g, 3, none⟩ = some (.int .u32 (vU s.d)) ∧
  w.cell? ⟨g, 4, none⟩ = some (.int .u32 (vU s.e)) ∧ w.cell? ⟨g, 5, none⟩ = some (.int .u32 (vU s.f)) ∧ w.cell? ⟨g, 6, none⟩ = some (.int .u32 (vU s.g)) ∧ w.cell? ⟨g, 7, none⟩ = some (.int .u32 (vU s.h)) ∧
  w.cell? ⟨g, 8, none⟩ = some (.int .i64 n) ∧ w.cell? ⟨g, 9, none⟩ = some t
theorem digCells_new (w : World) (s : St) (n : Int) (t : Value) : DigCells (w.alloc (.cells (digV s n t) 34)) w.heap.size s n t := by
  unfold DigCells
  simp only [cell_of_row _ _ _ _ _ _ (heap_alloc_new w (.cells (digV s n t) 34))]
  exact ⟨rfl, rfl, rfl, rfl, rfl, rfl, rfl, rfl, rfl, rfl⟩

theorem padding_lit (s : St) (L : List UInt8) (hs : stS L = s) (ta : Option Addr) (tcap : Nat) (w : World) (_ht : IsBytes w ta (tailS L) tcap) (hL : L.length ≤ 140737488355328) :
    Calls Tryd.prog 25 #[.agg #[.int .u32 (vU s.a), .int .u32 (vU s.b), .int .u32 (vU s.c), .int .u32 (vU s.d), .int .u32 (vU s.e), .int .u32 (vU s.f), .int .u32 (vU s.g), .int .u32 (vU s.h), .int .i64 L.length, .slice ta (tailS L).length tcap]] w
      fun e w' => ∃ pa pc, e = .returned (.slice pa (padL L.length).length pc) ∧ IsBytes w' pa (padL L.length) pc ∧ Below w.heap.size w w' := by
  subst hs
  refine (padding_core (stS L) L ta tcap w hL).mono ?_
  rintro e w' ⟨v', rfl, h⟩
  obtain ⟨a, c, rfl, hb⟩ := h.shape
  exact ⟨a, c, rfl, hb, h.2⟩
theorem pad_le (n : Nat) : (padL n).length ≤ 128 := by
  unfold padL be4
  simp only [List.length_append, List.length_cons, List.length_replicate, List.length_nil]
  omega
theorem write_lit (s : St) (L l : List UInt8) (hs : stS L = s) (ta ba : Option Addr) (tcap bcap : Nat) (w : World) (ht : IsBytes w ta (tailS L) tcap) (hb : IsBytes w ba l bcap) (hlen : L.length + l.length ≤ 140737488355328) (hk : RowAt w 1 kkV) :
    Calls Tryd.prog 16 #[.agg #[.int .u32 (vU s.a), .int .u32 (vU s.b), .int .u32 (vU s.c), .int .u32 (vU s.d), .int .u32 (vU s.e), .int .u32 (vU s.f), .int .u32 (vU s.g), .int .u32 (vU s.h), .int .i64 L.length, .slice ta (tailS L).length tcap], .slice ba l.length bcap] w
      fun e w' => ∃ ta' tcap', e = .returned (.agg (digV (stS (L ++ l)) (L ++ l).length (.slice ta' (tailS (L ++ l)).length tcap'))) ∧ Below w.heap.size w w' := by
  subst hs
  refine (write_core _ _ _ _ _ _ _ _ L l rfl ta ba tcap bcap w ht hb hlen hk).mono ?_
  rintro e w' ⟨ta', tc', he, _, h2, _⟩
  exact ⟨ta', tc', he, h2⟩
theorem dig_part (W : World) (cs : Array Value) : (part 32 cs 0).run Tryd.prog W = .ok (.agg (cs.extract 0 (0 + 8))) W := by
  have ha : (isAgg 32).run Tryd.prog W = .ok true W := by
    unfold isAgg
    rw [Sem.run_bind, run_underlying Tryd.underlying32 W]; rfl
  have hs : (sizeOf 32).run Tryd.prog W = .ok 8 W := by
    have h := size8
    cases hq : Tryd.prog.info? 32 with
    | none => simp [hq] at h
    | some i => simp [hq] at h; simp [sizeOf, typeInfo, hq, h]
  unfold part
  simp only [Sem.run_bind, ha, Result.andThen_ok, if_true, hs, Sem.run_pure]
theorem run_field_state (W : World) (s : St) (n : Int) (t : Value) : (Instr.field 34 (.agg (digV s n t)) 0).run Tryd.prog W = .ok (.agg s.cells) W := by
  have hp := dig_part W (digV s n t)
  have hx : (digV s n t).extract 0 (0 + 8) = s.cells := rfl
  rw [hx] at hp
  unfold Instr.field
  simp only [Sem.run_bind, run_underlying Tryd.underlying34, Result.andThen_ok]
  exact hp

theorem flat_len : ∀ l : List UInt32, (l.flatMap be4).length = 4 * l.length
  | [] => rfl
  | x :: r => by rw [List.flatMap_cons, List.length_append, flat_len r]; simp [be4]; omega
theorem flat_snoc (l : List UInt32) (m : Nat) (h : m < l.length) : (l.take (m + 1)).flatMap be4 = (l.take m).flatMap be4 ++ be4 l[m] := by
  rw [List.take_succ_eq_append_getElem h, List.flatMap_append]; simp

set_option maxRecDepth 100000 in
set_option maxHeartbeats 2000000 in
theorem sum_core (s : St) (L : List UInt8) (hs : stS L = s) (ta : Option Addr) (tcap : Nat) (w : World) (ht : IsBytes w ta (tailS L) tcap) (hL : L.length ≤ 70368744177664) (hk : RowAt w 1 kkV) :
    Calls Tryd.prog 17 #[.agg #[.int .u32 (vU s.a), .int .u32 (vU s.b), .int .u32 (vU s.c), .int .u32 (vU s.d), .int .u32 (vU s.e), .int .u32 (vU s.f), .int .u32 (vU s.g), .int .u32 (vU s.h), .int .i64 L.length, .slice ta (tailS L).length tcap]] w
      fun e w' => ∃ v', e = .returned v' ∧ AccB w w' v' (sumS L) := by
  have HT := Box.mk ht
  have HK := Box.mk hk
  have HS := Box.mk hs
  clear ht hk hs
  go_enter Tryd.func17, Tryd.ntmps17
  go_wp2_with fail
  have HC := digCells_new w s L.length (.slice ta (tailS L).length tcap)
  have HB := (Below.refl w.heap.size w).alloc (Nat.le_refl _) (.cells (digV s L.length (.slice ta (tailS L).length tcap)) 34)
  change Code.wp _ _ _ _ (w.alloc (.cells (digV s L.length (.slice ta (tailS L).length tcap)) 34))
  generalize w.alloc (.cells (digV s L.length (.slice ta (tailS L).length tcap)) 34) = W at *
  obtain ⟨c0, c1, c2, c3, c4, c5, c6, c7, c8, c9⟩ := HC
  have hB0 := Below.refl W.heap.size W
  have hfd := run_field_state
  have hpl := pad_le L.length
  go_region_held3 (fun w' => w'.cell? ⟨w.heap.size, 0, none⟩ = some (.int .u32 (vU s.a)) ∧ w'.cell? ⟨w.heap.size, 1, none⟩ = some (.int .u32 (vU s.b)) ∧ w'.cell? ⟨w.heap.size, 2, none⟩ = some (.int .u32 (vU s.c)) ∧ w'.cell? ⟨w.heap.size, 3, none⟩ = some (.int .u32 (vU s.d)) ∧
      w'.cell? ⟨w.heap.size, 4, none⟩ = some (.int .u32 (vU s.e)) ∧ w'.cell? ⟨w.heap.size, 5, none⟩ = some (.int .u32 (vU s.f)) ∧ w'.cell? ⟨w.heap.size, 6, none⟩ = some (.int .u32 (vU s.g)) ∧ w'.cell? ⟨w.heap.size, 7, none⟩ = some (.int .u32 (vU s.h)) ∧
      w'.cell? ⟨w.heap.size, 8, none⟩ = some (.int .i64 L.length) ∧ w'.cell? ⟨w.heap.size, 9, none⟩ = some (.slice ta (tailS L).length tcap) ∧ Below W.heap.size W w')
    (first
      | exact ⟨c0, c1, c2, c3, c4, c5, c6, c7, c8, c9, hB0⟩
      | exact ⟨c0, c1, c2, c3, c4, c5, c6, c7, c8, c9, hB0.drew⟩
      | (go_split_ands
         exact ⟨by assumption, by assumption, by assumption, by assumption, by assumption, by assumption, by assumption, by assumption, by assumption, by assumption, by assumption⟩)
      | (go_split_ands
         exact ⟨below_cell (by assumption) c0, below_cell (by assumption) c1, below_cell (by assumption) c2, below_cell (by assumption) c3, below_cell (by assumption) c4, below_cell (by assumption) c5, below_cell (by assumption) c6, below_cell (by assumption) c7, below_cell (by assumption) c8, below_cell (by assumption) c9, by assumption⟩))
    (first
      | (go_at_call 25
         go_split_ands
         refine (padding_lit s L HS.out ta tcap _ (HT.out.keep (below_trans HB (by assumption))) (by omega)).mono ?_
         rintro e w8 ⟨pa, pc, rfl, hpb, hp⟩
         have hW8 : Below W.heap.size W w8 := below_trans (by assumption) hp)
      | (go_at_call 16
         go_split_ands
         refine (write_lit s L (padL L.length) HS.out ta _ tcap _ _ (HT.out.keep (below_trans HB (by assumption))) hpb (by omega) (HK.out.keep (below_trans HB (by assumption)))).mono ?_
         rintro e w9 ⟨ta9, tc9, rfl, hw⟩
         have hW9 : Below W.heap.size W w9 := below_trans (by assumption) hw))
  rename_i hheld
  have HB9 := Box.mk (below_trans HB hheld.2.2.2.2.2.2.2.2.2.2)
  clear hheld c0 c1 c2 c3 c4 c5 c6 c7 c8 c9 hB0 HB
  obtain ⟨S, HSS⟩ : ∃ S, Box (stS (L ++ padL L.length) = S) := ⟨_, ⟨rfl⟩⟩
  rw [show stS (L ++ padL L.length) = S from HSS.out]
  go_wp2_with fail
  go_loopw [3, 11] (fun sv iv wr => ∃ m : Nat, m ≤ 8 ∧ iv = .int .i64 m ∧ Box (AccB w wr sv ((S.list.take m).flatMap be4))) (fun _ iv _ => 8 - (intOf iv).toNat)
  case atStart => exact ⟨0, Nat.zero_le _, rfl, ⟨⟨World.ownsRow_nil _ _ _ _, HB9.out⟩⟩⟩
  case round =>
    obtain ⟨m, hm, rfl, HM⟩ := hrel
    by_cases hlt : m < 8
    · have hsl : S.list.length = 8 := rfl
      have hix := fun W => run_index_u32 W 32 8 (wordsV S.list) m _ Tryd.underlying32 hlt (wordsV_at' S.list m (by rw [hsl]; exact hlt))
      change ∀ W, (Instr.index 32 (.agg S.cells) _).run _ W = _ at hix
      have hfl := flat_len (S.list.take m)
      have hfl2 : (S.list.take m).length = m := by rw [List.length_take, hsl]; omega
      have HX := Box.mk (flat_snoc S.list m (by rw [hsl]; exact hlt))
      generalize S.list[m]'(by rw [hsl]; exact hlt) = x at *
      go_wp2_with fail
      refine (appendWord_any x w _ _ _ HM.out (by omega)).mono ?_
      rintro e w2 ⟨v2, rfl, h2⟩
      have H2 := Box.mk h2
      clear h2
      go_wp2_with fail
      go_roundw
      case rel => exact ⟨m + 1, by omega, by go_num, ⟨by rw [HX.out]; exact H2.out⟩⟩
      case measure => simp [intOf]; omega
    · have HE : Box (AccB w wr u3 (sumS L)) := ⟨by
        have h := HM.out
        rw [List.take_of_length_le (by show 8 ≤ m; omega)] at h
        unfold sumS outS
        rw [HSS.out]; exact h⟩
      go_wp2_with fail
      go_ret
      exact ⟨_, rfl, HE.out⟩
end Go.Proofs.YtpgppninmnplkaaDoor
