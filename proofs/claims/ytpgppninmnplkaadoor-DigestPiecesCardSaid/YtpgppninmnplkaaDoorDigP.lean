/- The law that it does not matter how the bytes are divided. -/
import Derived.Test.YtpgppninmnplkaaDoorDigW
import Derived.Test.YtpgppninmnplkaaDoorOwn
namespace Go.Proofs.YtpgppninmnplkaaDoor
open Go.RowKit

/-- What holds between two turns: M has been written to the state in block g, and stands in the slice av. -/
def PI (w wr : World) (g : Nat) (av : Value) (M : List UInt8) : Prop :=
  Below w.heap.size w wr ∧ w.heap.size ≤ g ∧ Own (g + 1) wr av M ∧ ∃ cs, wr.heap[g]? = some (.cells cs 34 (0, 0)) ∧ cs.size = 10 ∧
    ∃ ta tc, cs = digV (stS M) M.length (.slice ta (tailS M).length tc) ∧ IsBytes wr ta (tailS M) tc ∧ ∀ x, ta = some x → tailS M ≠ [] → x.block ≠ g ∧ av.ownBlock ≠ some x.block
theorem PI.row {w wr : World} {g : Nat} {av : Value} {M : List UInt8} (h : PI w wr g av M) : ∃ cs, wr.heap[g]? = some (.cells cs 34 (0, 0)) ∧ cs.size = 10 ∧ DigAt wr (.agg cs) M := by
  obtain ⟨_, _, _, cs, h1, h2, ta, tc, h3, h4, _⟩ := h
  exact ⟨cs, h1, h2, ta, tc, by rw [h3], h4⟩
theorem PI.start {w w1 W : World} (hb : Below w.heap.size w w1) (hW : W = (w1.alloc (.cells dzero 34)).setRow w1.heap.size (digV initS 0 (.slice none 0 0))) : PI w W w1.heap.size (.slice none 0 0) [] := by
  subst hW
  have hB : Below w1.heap.size w1 ((w1.alloc (.cells dzero 34)).setRow w1.heap.size (digV initS 0 (.slice none 0 0))) := below_setRow ((Below.refl _ _).alloc (Nat.le_refl _) _) (Nat.le_refl _) _
  exact ⟨below_trans hb hB, hb.size, Own.start _ _, _, setRow_heap _ _ _ _ _ _ (heap_alloc_new _ _), digV_size _ _ _, none, 0, rfl, .inl ⟨rfl, rfl, rfl⟩, fun x hx => by cases hx⟩
/-- The state after a Write, stored. -/
theorem PI.stored {w wr w2 : World} {g : Nat} {av : Value} {M l : List UInt8} {cs : Array Value} (h : PI w wr g av M) (hn : RowNew wr w2 (M ++ l) cs) :
    Below w.heap.size w (w2.setRow g cs) ∧ w2.heap.size = (w2.setRow g cs).heap.size ∧ Own (g + 1) (w2.setRow g cs) av M := by
  obtain ⟨h1, h2, h3, _⟩ := h
  refine ⟨below_setRow (below_trans h1 hn.below) h2 _, by simp [World.setRow], (h3.keep hn.below).same fun k hk => ?_⟩
  exact setRow_other _ _ _ _ (by have := (h3.lt hk).1; omega)
theorem PI.step {w wr w2 w4 : World} {g : Nat} {av av' : Value} {M l : List UInt8} {cs : Array Value} (h : PI w wr g av M) (hn : RowNew wr w2 (M ++ l) cs)
    (ho : Own (g + 1) w4 av' (M ++ l)) (hg : (w2.setRow g cs).grownBy w4 av.ownBlock) (hv : av'.ownBlock = av.ownBlock ∨ av'.ownBlock = some (w2.setRow g cs).heap.size) : PI w w4 g av' (M ++ l) := by
  obtain ⟨hb, hs, hO⟩ := h.stored hn
  obtain ⟨h1, h2, h3, cs0, h4, _⟩ := h
  have hgl : g < wr.heap.size := lt_of_row' h4
  have hsz := hn.below.size
  have hg2 : w2.heap[g]? = some (.cells cs0 34 (0, 0)) := by rw [hn.below.block _ hgl]; exact h4
  obtain ⟨ta, tc, hcs, hby, hta⟩ := hn.val
  have hown : ∀ k, av.ownBlock = some k → g + 1 ≤ k ∧ k < wr.heap.size := fun k hk => h3.lt hk
  refine ⟨hb.grown hg hb.size fun k hk => by have := hown k hk; omega, h2, ho, cs, ?_, hn.size, ta, tc, hcs, hby.same fun x hx hl => ?_, fun x hx hl => ?_⟩
  · rw [hg.block g (by omega) (fun e => by have := hown g e.symm; omega)]
    exact setRow_heap _ _ _ _ _ _ hg2
  · subst hx
    have hlt := hby.lt hl
    have hge := hta x rfl
    rw [hg.block x.block (by omega) (fun e => by have := hown _ e.symm; omega), setRow_other _ _ _ _ (by omega)]
  · subst hx
    have hlt := hby.lt hl
    have hge := hta x rfl
    refine ⟨by omega, fun e => ?_⟩
    rcases hv with hv | hv
    · rw [hv] at e; have := hown _ e; omega
    · rw [hv] at e; injection e with e; omega

set_option maxRecDepth 100000 in
set_option maxHeartbeats 2000000 in
theorem digestPieces_any (ls : List (List UInt8)) (a : Option Addr) (cap : Nat) (w : World) (ha : SlcIn w a ls) (ht : DTabs w) :
    Calls Tryd.prog 4 #[.slice a ls.length cap] w fun e w' => e = .returned (.bool true) ∧ Below w.heap.size w w' := by
  have HA := Box.mk ha
  have HT := Box.mk ht
  clear ha ht
  go_enter Tryd.func4, Tryd.ntmps4
  go_wp2_with fail
  refine (digStart_any w HT.out.i).mono ?_
  rintro e w1 ⟨rfl, hb1⟩
  have HB1 := Box.mk hb1
  clear hb1
  go_wp2_with (refine wpList_store_row rfl 34 _ _ rfl w1.heap.size (digV initS 0 (.slice none 0 0)) rfl rfl 34 dzero (heap_alloc_new _ _) sizeDig rfl (digV_one _ _ _ _ _) ?_)
  obtain ⟨W, hW⟩ : ∃ W, W = (w1.alloc (.cells dzero 34)).setRow w1.heap.size (digV initS 0 (.slice none 0 0)) := ⟨_, rfl⟩
  have H0 := Box.mk (PI.start HB1.out hW)
  change Code.wp _ _ _ _ ((w1.alloc (.cells dzero 34)).setRow w1.heap.size (digV initS 0 (.slice none 0 0)))
  rw [← hW]
  clear hW HB1
  generalize w1.heap.size = g at *
  go_loopw [4, 5] (fun sv iv wr => ∃ (k : Nat) (M : List UInt8), k ≤ ls.length ∧ k ≤ 20 ∧ iv = .int .i64 k ∧ M.length ≤ 150 * k ∧ Box (PI w wr g sv M)) (fun _ iv _ => 20 - (intOf iv).toNat)
  case atStart => exact ⟨0, [], Nat.zero_le _, by omega, rfl, Nat.zero_le _, H0⟩
  case round =>
    clear H0
    obtain ⟨k, M, hk, hk20, rfl, hM, HM⟩ := hrel
    by_cases hlt : k < ls.length ∧ k < 20
    · obtain ⟨hlt, hlt20⟩ := hlt
      obtain ⟨x, ba, bc, rfl, hc, hb⟩ := HA.out k hlt
      have hc' := below_cell HM.out.1 hc
      have HBy := Box.mk hb
      clear hc hb
      generalize ls[k] = l at *
      obtain ⟨cs0, hd1, hd2, hd3⟩ := HM.out.row
      have HD := Box.mk (And.intro hd1 (And.intro (size_row hd2) hd3))
      have HZ := Box.mk hd2
      clear hd1 hd2 hd3
      go_wp2_with fail
      refine (short_any l ba bc 150 wr (HBy.out.keep HM.out.1) (by decide)).mono ?_
      rintro e w2 ⟨c2, rfl, hsb, rfl⟩
      have HS := Box.mk (hsb.back HBy.out)
      have hsl : (l.take 150).length ≤ 150 := by rw [List.length_take]; omega
      clear hsb HBy hc'
      generalize l.take 150 = b at *
      go_wp2_with (refine wpList_load_row rfl 34 _ rfl g rfl 34 cs0 (0, 0) _ HD.out.1 Tryd.underlying34 rfl HD.out.2.1 ?_)
      refine (write_row M b _ ba c2 wr HD.out.2.2 (HS.out.keep HM.out.1) (by omega) (HT.out.k.keep HM.out.1)).mono ?_
      rintro e w2 ⟨cs, rfl, hr⟩
      have HR := Box.mk hr
      have HG := Box.mk (show w2.heap[g]? = some (.cells cs0 34 (0, 0)) by rw [hr.below.block _ (lt_of_row' HD.out.1)]; exact HD.out.1)
      have HE := Box.mk (show cs0.size = cs.size by rw [HZ.out, hr.size])
      have HST := Box.mk (HM.out.stored hr)
      have HGS : Box (g + 1 ≤ (w2.setRow g cs).heap.size) := ⟨by have := lt_of_row' HD.out.1; have := hr.below.size; have := HST.out.2.1; omega⟩
      clear hr
      go_wp2_with (first
        | (refine wpList_store_row rfl 34 _ _ rfl g cs rfl rfl 34 cs0 HG.out (size_row HR.out.size) HE.out HR.out.one ?_)
        | (at_builtin; refine wpList_append_ownb _ rfl _ _ rfl rfl HST.out.2.2 rfl (HS.out.keep HST.out.1) (by omega) HGS.out ?c1))
      case c1 =>
        intro v' w4 h1 h2 h3
        have HN := Box.mk (HM.out.step HR.out h1 h2 (by have e := HST.out.2.1; rw [← e]; exact h3))
        clear h1 h2 h3 HM HD HZ HR HG HE HST HGS
        go_wp2_with fail
        go_roundw
        case rel => exact ⟨k + 1, M ++ b, by omega, by omega, by go_num, by rw [List.length_append]; omega, HN⟩
        case measure => simp [intOf]; omega
    · have HV : Box (DigVar wr g M) := ⟨HM.out.row⟩
      have HY := Box.mk HM.out.2.2.1.val
      have HW := Box.mk HM.out.1
      have HT9 := Box.mk (HT.out.keep HW.out)
      have hML : M.length ≤ 3000 := by omega
      clear HM
      by_cases hl : k < ls.length
      · have hk2 : ¬ k < 20 := fun h => hlt ⟨hl, h⟩
        clear hlt
        go_wp2_with fail
        rename_i K hK
        refine wp_region_local (S := [.dig M, .bytes (sumS M), .val (.string ⟨(sumS M).toArray⟩), .val u4, .bytes (sumS M), .val (.string ⟨(sumS M).toArray⟩), .val (.bool true), .val (.bool true),
          .val u4, .slc [M], .bytes (sumS M), .val (.string ⟨(sumS M).toArray⟩), .dig M, .bytes (sumS M), .val (.string ⟨(sumS M).toArray⟩), .val (.bool true), .val (.bool true), .val (.bool true), .val (.bool true), .val (.bool true), .val (.bool true)])
          (by kernel_rfl) (by kernel_rfl) (by kernel_rfl) ?_ ?_
        · refine ⟨?_, ?_, ?_, ?_, ?_, ?_, ?_, ?_, ?_, ?_, ?_, ?_, ?_, ?_, ?_, ?_, ?_, ?_, ?_, ?_, ?_, trivial⟩ <;> intro a w hb hf hd
          · exact ⟨wanted_none rfl, loc_dig rfl (hf.base 3 rfl) (HV.out.keep hb) fun v h => h⟩
          · exact ⟨wanted_none rfl, loc_call rfl (by kernel_rfl) (sum_v M _ w (hd 0 rfl) (by omega) (HT9.out.keep hb))⟩
          · exact ⟨wanted_none rfl, loc_string rfl (hd 1 rfl) rfl⟩
          · exact ⟨wanted_none rfl, loc_move rfl (hf.base 4 rfl)⟩
          · exact ⟨wanted_none rfl, loc_call rfl (by kernel_rfl) (refOf_v M _ w (by rw [show a.eval (.tmp 32) = u4 from hd 3 rfl]; exact HY.out.keep hb) (by omega))⟩
          · exact ⟨wanted_none rfl, loc_string rfl (hd 4 rfl) rfl⟩
          · exact ⟨wanted_none rfl, loc_eql_str rfl (hd 2 rfl) (hd 5 rfl) rfl⟩
          · exact ⟨wanted_none rfl, loc_move rfl (hd 6 rfl)⟩
          · exact ⟨wanted_true rfl rfl (hd 7 rfl), loc_move rfl (hf.base 4 rfl)⟩
          · exact ⟨wanted_true rfl rfl (hd 7 rfl), loc_slices1 rfl (by rw [show a.eval (.tmp 37) = u4 from hd 8 rfl]; exact HY.out.keep hb) fun v w' h => h⟩
          · exact ⟨wanted_true rfl rfl (hd 7 rfl), loc_call rfl (by kernel_rfl) (of_v [M] M _ w (hd 9 rfl) (show 1 ≤ 2 by decide) (by simp) (by omega) (HT9.out.keep hb))⟩
          · exact ⟨wanted_true rfl rfl (hd 7 rfl), loc_string rfl (hd 10 rfl) rfl⟩
          · exact ⟨wanted_true rfl rfl (hd 7 rfl), loc_dig rfl (hf.base 3 rfl) (HV.out.keep hb) fun v h => h⟩
          · exact ⟨wanted_true rfl rfl (hd 7 rfl), loc_call rfl (by kernel_rfl) (sum_v M _ w (hd 12 rfl) (by omega) (HT9.out.keep hb))⟩
          · exact ⟨wanted_true rfl rfl (hd 7 rfl), loc_string rfl (hd 13 rfl) rfl⟩
          · exact ⟨wanted_true rfl rfl (hd 7 rfl), loc_eql_str rfl (hd 11 rfl) (hd 14 rfl) rfl⟩
          · exact ⟨wanted_none rfl, loc_pick rfl (hd 7 rfl) (hd 15 rfl)⟩
          · exact ⟨wanted_none rfl, loc_move rfl (hd 16 rfl)⟩
          · exact ⟨wanted_true rfl rfl (hd 17 rfl), loc_call rfl (by kernel_rfl) (awake_v w (HT9.out.keep hb))⟩
          · exact ⟨wanted_none rfl, loc_pick rfl (hd 17 rfl) (hd 18 rfl)⟩
          · exact ⟨wanted_none rfl, loc_assign rfl (hd 19 rfl)⟩
        · intro a w hb hf hh
          refine hK a w ?_
          go_wp2_with fail
          exact local_ret rfl hf.defers (show a.eval (.tmp 2) = .bool true from hh 20 (by decide)) ⟨rfl, below_trans HW.out hb⟩
      · clear hlt
        go_wp2_with fail
        rename_i K hK
        refine wp_region_local (S := [.dig M, .bytes (sumS M), .val (.string ⟨(sumS M).toArray⟩), .val u4, .bytes (sumS M), .val (.string ⟨(sumS M).toArray⟩), .val (.bool true), .val (.bool true),
          .val u4, .slc [M], .bytes (sumS M), .val (.string ⟨(sumS M).toArray⟩), .dig M, .bytes (sumS M), .val (.string ⟨(sumS M).toArray⟩), .val (.bool true), .val (.bool true), .val (.bool true), .val (.bool true), .val (.bool true), .val (.bool true)])
          (by kernel_rfl) (by kernel_rfl) (by kernel_rfl) ?_ ?_
        · refine ⟨?_, ?_, ?_, ?_, ?_, ?_, ?_, ?_, ?_, ?_, ?_, ?_, ?_, ?_, ?_, ?_, ?_, ?_, ?_, ?_, ?_, trivial⟩ <;> intro a w hb hf hd
          · exact ⟨wanted_none rfl, loc_dig rfl (hf.base 3 rfl) (HV.out.keep hb) fun v h => h⟩
          · exact ⟨wanted_none rfl, loc_call rfl (by kernel_rfl) (sum_v M _ w (hd 0 rfl) (by omega) (HT9.out.keep hb))⟩
          · exact ⟨wanted_none rfl, loc_string rfl (hd 1 rfl) rfl⟩
          · exact ⟨wanted_none rfl, loc_move rfl (hf.base 4 rfl)⟩
          · exact ⟨wanted_none rfl, loc_call rfl (by kernel_rfl) (refOf_v M _ w (by rw [show a.eval (.tmp 32) = u4 from hd 3 rfl]; exact HY.out.keep hb) (by omega))⟩
          · exact ⟨wanted_none rfl, loc_string rfl (hd 4 rfl) rfl⟩
          · exact ⟨wanted_none rfl, loc_eql_str rfl (hd 2 rfl) (hd 5 rfl) rfl⟩
          · exact ⟨wanted_none rfl, loc_move rfl (hd 6 rfl)⟩
          · exact ⟨wanted_true rfl rfl (hd 7 rfl), loc_move rfl (hf.base 4 rfl)⟩
          · exact ⟨wanted_true rfl rfl (hd 7 rfl), loc_slices1 rfl (by rw [show a.eval (.tmp 37) = u4 from hd 8 rfl]; exact HY.out.keep hb) fun v w' h => h⟩
          · exact ⟨wanted_true rfl rfl (hd 7 rfl), loc_call rfl (by kernel_rfl) (of_v [M] M _ w (hd 9 rfl) (show 1 ≤ 2 by decide) (by simp) (by omega) (HT9.out.keep hb))⟩
          · exact ⟨wanted_true rfl rfl (hd 7 rfl), loc_string rfl (hd 10 rfl) rfl⟩
          · exact ⟨wanted_true rfl rfl (hd 7 rfl), loc_dig rfl (hf.base 3 rfl) (HV.out.keep hb) fun v h => h⟩
          · exact ⟨wanted_true rfl rfl (hd 7 rfl), loc_call rfl (by kernel_rfl) (sum_v M _ w (hd 12 rfl) (by omega) (HT9.out.keep hb))⟩
          · exact ⟨wanted_true rfl rfl (hd 7 rfl), loc_string rfl (hd 13 rfl) rfl⟩
          · exact ⟨wanted_true rfl rfl (hd 7 rfl), loc_eql_str rfl (hd 11 rfl) (hd 14 rfl) rfl⟩
          · exact ⟨wanted_none rfl, loc_pick rfl (hd 7 rfl) (hd 15 rfl)⟩
          · exact ⟨wanted_none rfl, loc_move rfl (hd 16 rfl)⟩
          · exact ⟨wanted_true rfl rfl (hd 17 rfl), loc_call rfl (by kernel_rfl) (awake_v w (HT9.out.keep hb))⟩
          · exact ⟨wanted_none rfl, loc_pick rfl (hd 17 rfl) (hd 18 rfl)⟩
          · exact ⟨wanted_none rfl, loc_assign rfl (hd 19 rfl)⟩
        · intro a w hb hf hh
          refine hK a w ?_
          go_wp2_with fail
          exact local_ret rfl hf.defers (show a.eval (.tmp 2) = .bool true from hh 20 (by decide)) ⟨rfl, below_trans HW.out hb⟩
end Go.Proofs.YtpgppninmnplkaaDoor
