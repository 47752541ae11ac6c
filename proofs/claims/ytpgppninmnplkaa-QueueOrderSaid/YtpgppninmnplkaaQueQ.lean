/- The law of the order. -/
import Derived.Test.YtpgppninmnplkaaQueP
namespace Go.Proofs.Ytpgppninmnplkaa
open Go.RowKit

set_option maxRecDepth 100000 in
set_option maxHeartbeats 16000000 in
theorem queueOrder_any (most : Int) (ls : List (List UInt8)) (al at' : Option Addr) (cl nt ct : Nat) (w : World) (ha : SlcIn w al ls) (ht : IntsQ w at' nt) :
    Calls Try.prog 5 #[.int .i64 most, .slice al ls.length cl, .slice at' nt ct] w fun e w' => e = .returned (.bool true) ∧ Below w.heap.size w w' := by
  have HA := Box.mk ha
  have HT := Box.mk ht
  clear ha ht
  go_enter Try.func5, Try.ntmps5
  go_wp2_with fail
  refine (withinQ most 60 w (by decide) (by decide)).mono ?_
  rintro e w1 ⟨z, hz, rfl, rfl⟩
  go_wp2_with fail
  refine (new_k w z (by omega)).mono ?_
  rintro e w1 ⟨rfl, hb⟩
  have HW1 := Box.mk hb
  clear hb
  go_wp2_with fail
  obtain ⟨W, hW⟩ : ∃ W, W = w1.alloc (.cells #[.int .i64 z, .slice none 0 0] 24) := ⟨_, rfl⟩
  have HI0 := Box.mk (show QI w W w1.heap.size (w1.heap.size + 1) (.slice none 0 0) (.slice none 0 0) [] [] z [] from
    ⟨by rw [hW]; exact below_oneQ HW1.out _, HW1.out.size, Nat.lt_succ_self _, by rw [hW]; simp, Own.start _ _, Own.start _ _, fun b hb => (by cases hb), none, 0, by rw [hW]; exact heap_alloc_new _ _, .inl ⟨rfl, rfl, rfl⟩⟩)
  change Code.wp _ _ _ _ (w1.alloc (.cells #[.int .i64 z, .slice none 0 0] 24))
  rw [← hW]
  clear hW HW1
  generalize hB : w1.heap.size + 1 = B at HI0
  generalize w1.heap.size = g at *
  clear hB
  go_loopw [8, 9, 10] (fun v8 v9 iv wr => ∃ (k : Nat) (I O D : List UInt8), k ≤ ls.length ∧ k ≤ 30 ∧ iv = .int .i64 k ∧ D.length ≤ z ∧ O.length + D.length ≤ 60 * k ∧ Box (I = O ++ D) ∧ Box (QI w wr g B v8 v9 I O z D)) (fun _ _ iv _ => 30 - (intOf iv).toNat)
  case atStart => exact ⟨0, [], [], [], Nat.zero_le _, by omega, rfl, Nat.zero_le _, Nat.zero_le _, ⟨rfl⟩, HI0⟩
  case round =>
    clear HI0
    obtain ⟨k, I, O, D, hk, hk30, rfl, hDz, hOD, HIO, HI⟩ := hrel
    by_cases hlt : k < ls.length ∧ k < 30
    · obtain ⟨hlt, hlt30⟩ := hlt
      obtain ⟨x, ba, bc, rfl, hc, hb⟩ := HA.out k hlt
      have HC := Box.mk hc
      have HBy := Box.mk hb
      clear hc hb
      generalize ls[k] = b at *
      obtain ⟨d0, f0, hq0, hd0⟩ := HI.out.q
      have HQ0 := Box.mk hq0
      have HD0 := Box.mk hd0
      clear hq0 hd0
      obtain ⟨T, HT1⟩ : ∃ T, Box (b.take (z - D.length) = T) := ⟨_, ⟨rfl⟩⟩
      have hTb : T.length ≤ b.length := by rw [← HT1.out, List.length_take]; omega
      have hTz : D.length + T.length ≤ z := by rw [← HT1.out, List.length_take]; omega
      have HTB := Box.mk (show b.take T.length = T by
        rw [← HT1.out, List.length_take]
        rcases Nat.le_total (z - D.length) b.length with h | h
        · rw [Nat.min_eq_left h]
        · rw [Nat.min_eq_right h, List.take_of_length_le (Nat.le_refl _), List.take_of_length_le h])
      obtain ⟨L, HL⟩ : ∃ L, Box (D ++ T = L) := ⟨_, ⟨rfl⟩⟩
      have HLl := Box.mk (show L.length = D.length + T.length by rw [← HL.out, List.length_append])
      have hLz : L.length ≤ z := by rw [HLl.out]; exact hTz
      have HPL := Box.mk (show putL z D.length b.length = T.length by unfold putL; rw [roomN_of (by omega) hDz, ← HT1.out, List.length_take])
      go_wp2_with fail
      rename_i K hK
      refine wp_region_phases [11] (fun p => match p with | 0 => [0, 1, 2, 3, 4, 5, 6, 7, 8, 9, 10] | _ => [9, 12])
        (fun p => match p with
          | 0 => [.val (.agg #[.int .i64 z, .slice d0 D.length f0]), .val (.slice (some x) ls.length cl), .val (.int .i64 k), .val (.pointer (some (x.add k))), .val (.slice ba b.length bc), .slc [b], .tupQ wr.heap.size z L T.length, .tupQ wr.heap.size z L T.length, .qf wr.heap.size z L, .val (.int .i64 T.length), .zrow wr.heap.size, .any, .val (.int .i64 T.length)]
          | _ => [.any, .any, .any, .any, .any, .any, .any, .tupW T.length, .any, .val (.int .i64 T.length), .qfrow wr.heap.size z L, .any, .val (.int .i64 T.length)])
        (fun _ => fun w' => Below wr.heap.size wr w')
        (by kernel_rfl) (by kernel_rfl) (by kernel_rfl) (by kernel_rfl) (by kernel_rfl) (by kernel_rfl) (fun _ _ _ h1 h2 => below_trans h1 h2) (Below.refl _ _) ?_ ?_ ?_
      · intro p hp
        match p, hp with
        | 0, _ =>
          refine ⟨?_, ?_, ?_, ?_, ?_, ?_, ?_, ?_, ?_, ?_, ?_, trivial⟩ <;> intro a w2 hb hf hd
          · exact ⟨wanted_none rfl, loc_load_q rfl (hf.base 7 rfl) (HQ0.out.keep hb) rfl⟩
          · exact ⟨wanted_none rfl, loc_move rfl (hf.base 1 rfl)⟩
          · exact ⟨wanted_none rfl, loc_move rfl (hf.base 10 rfl)⟩
          · exact ⟨wanted_none rfl, loc_index_sl rfl (hd 1 rfl) (hd 2 rfl) hlt rfl⟩
          · exact ⟨wanted_none rfl, loc_load_slice rfl (hd 3 rfl) (below_cell (below_trans HI.out.below hb) HC.out) rfl⟩
          · exact ⟨wanted_none rfl, loc_slices1 rfl (by rw [show a.eval (.tmp 33) = .slice ba b.length bc from hd 4 rfl]; exact ⟨ba, bc, rfl, HBy.out.keep (below_trans HI.out.below hb)⟩) fun v w' h => h⟩
          · refine ⟨wanted_none rfl, loc_call rfl (by kernel_rfl) ((put_f (z := z) (l := D) (B := b) (k := T.length) (L := L) ⟨d0, f0, hd 0 rfl, HD0.out.keep hb⟩ (hd 5 rfl) (by omega) HPL.out (by rw [HTB.out]; exact HL.out)).mono ?_)⟩
            rintro e w' ⟨v', he, hb', d, f, h1, h2, h3⟩
            exact ⟨v', he, hb', _, h1, d, f, rfl, h2, fun x hx => Nat.le_trans hb.size (h3 x hx)⟩
          · exact ⟨wanted_none rfl, loc_move rfl (hd 6 rfl)⟩
          · obtain ⟨u, e1, e2⟩ := hd 7 rfl
            exact ⟨wanted_none rfl, loc_extract0 rfl e1 e2⟩
          · obtain ⟨u, e1, e2⟩ := hd 7 rfl
            exact ⟨wanted_none rfl, loc_extract1 rfl e1 rfl⟩
          · exact ⟨wanted_none rfl, loc_alloc_q rfl hb.size fun v w' h => h⟩
        | 1, _ =>
          refine ⟨?_, ?_, trivial⟩ <;> intro a w2 hb hf hd
          · obtain ⟨u, e1⟩ := hd 7 rfl
            exact ⟨wanted_none rfl, loc_extract1 rfl e1 rfl⟩
          · exact ⟨wanted_none rfl, loc_assign rfl (hd 9 rfl)⟩
      · intro p hp
        match p, hp with
        | 0, _ =>
          intro a2 w2 hb hf hd
          refine ⟨wanted_none rfl, ?_⟩
          obtain ⟨d1, f1, e1, e2, e6⟩ := hd 8 rfl
          obtain ⟨g1, e3, e4, e5⟩ := hd 10 rfl
          exact wp_store_row 24 _ _ rfl g1 #[.int .i64 z, .slice d1 L.length f1] e3 e1 24 _ e5 sizeQ rfl (oneQ _ _ _ _) ⟨undef, rfl, below_setRow hb e4 _, trivial, ⟨.inr fun _ _ _ => trivial, .inr fun _ _ _ => trivial, .inr fun _ _ _ => trivial, .inr fun _ _ _ => trivial, .inr fun _ _ _ => trivial, .inr fun _ _ _ => trivial, .inr fun _ _ _ => trivial, .inr fun v _ h => (fun ⟨u, h1, _⟩ => ⟨u, h1⟩ : (∃ u, v = _ ∧ _) → _) h, .inr fun _ _ _ => trivial, .inr fun _ _ h => h, .inr fun v hv _ => ⟨g1, d1, f1, (hv _ _ rfl rfl).trans e3, e4, setRow_heap _ _ _ _ _ _ e5, e5.store e2 _, e6⟩, .inl rfl, .inr fun _ _ h => h, trivial⟩⟩
      · intro a2 w6 hinv hf hh
        obtain ⟨g11, d6, f6, e11, hg11, hq11, hy6, hf6⟩ := hh 10 (by decide)
        have e12 : a2.eval (.tmp 12) = .int .i64 T.length := hh 12 (by decide)
        have e11' : a2.eval (.tmp 11) = .pointer (some ⟨g11, 0, none⟩) := e11
        have H6 := Box.mk (show Below wr.heap.size wr w6 from hinv)
        have HQ11 := Box.mk hq11
        have HY6 := Box.mk hy6
        have HF6 := Box.mk hf6
        clear hq11 hy6 hf6 e11 hinv hg11
        refine hK a2 w6 ?_
        rw [fr_putAll hf]
        simp only [putAll, e11', e12]
        clear hf hh
        generalize a2.eval (.tmp 29) = u29
        generalize a2.eval (.tmp 30) = u30
        generalize a2.eval (.tmp 31) = u31
        generalize a2.eval (.tmp 32) = u32
        generalize a2.eval (.tmp 33) = u33
        generalize a2.eval (.tmp 34) = u34
        generalize a2.eval (.tmp 35) = u35
        generalize a2.eval (.tmp 28) = u28
        generalize a2.eval (.tmp 36) = u36
        generalize a2.eval (.tmp 37) = u37
        clear e11' e12
        clear a2
        simp only [Act.put, List.setIfInBounds_toArray, List.set_cons_succ, List.set_cons_zero]
        have HBW6 := Box.mk (below_trans HI.out.below H6.out)
        have hc6 := below_cell HBW6.out HC.out
        have j1 : (T.length : Int) ≤ b.length := by omega
        by_cases hnf : T.length < b.length
        · have HR0 := Box.mk (show roomN z L.length = 0 by
            rw [roomN_of (by omega) hLz, HLl.out]
            have h := congrArg List.length HT1.out
            rw [List.length_take] at h
            omega)
          go_wp2_with (refine wpList_unguard rfl ?_; refine wpList_load_row rfl 24 _ rfl g11 rfl 24 _ (0, 0) _ HQ11.out Try.underlying24 rfl sizeQ ?_)
          refine (room_k (z := z) (l := L) (r := 0) ⟨d6, f6, rfl, HY6.out⟩ HR0.out).mono ?_
          rintro e w7 ⟨v7, rfl, hb7, rfl⟩
          have H7 := Box.mk (below_trans H6.out hb7)
          have HQ7 := Box.mk (HQ11.out.keep hb7)
          have HY7 := Box.mk (HY6.out.keep hb7)
          have hc7 := below_cell hb7 hc6
          clear hb7 hc6 H6 HQ11 HY6 HBW6 HR0
          have HI7 := Box.mk (HI.out.keep H7.out)
          have HTB7 := Box.mk (show IsBytes w7 ba T bc by
            have h := (HBy.out.takeQ T.length).keep (below_trans HI.out.below H7.out)
            rw [HTB.out] at h; exact h)
          have hIl : I.length ≤ 1800 := by rw [HIO.out, List.length_append]; omega
          have hcap : b.length ≤ bc := by
            rcases HBy.out with ⟨_, h, h'⟩ | ⟨_, _, h, _⟩
            · rw [h, h']; exact Nat.le_refl _
            · exact h
          go_wp2_with (at_builtin; refine wpList_append_ownb _ rfl _ _ rfl rfl HI7.out.inn rfl HTB7.out (by omega) HI7.out.hsz ?c1)
          case c1 =>
            intro v8' w9 h1 h2 h3
            have HIA := Box.mk (HI.out.step H7.out HY7.out HF6.out h1 h2 h3)
            have HQ9 := Box.mk (grown_row HQ7.out h2 HI7.out.inn)
            have HG9 := Box.mk (grown_row (HQ0.out.keep H7.out) h2 HI7.out.inn)
            clear h1 h2 h3 HI7 HTB7 HY7 HQ7 H7 hc7
            by_cases ht0 : k < nt
            · skip
              obtain ⟨y, zk, hy0, hck⟩ := HT.out k ht0
              have HCK := Box.mk hck
              clear hck
              subst hy0
              obtain ⟨j, hj, hjw⟩ := within_valE zk 20 (by decide) (by decide)
              have HJW := Box.mk hjw
              clear hjw
              go_wp2_with (first
                | (refine wpList_load_row rfl 24 _ rfl g11 rfl 24 _ (0, 0) _ HQ9.out Try.underlying24 rfl sizeQ ?_)
                | (refine wpList_store_row rfl 24 _ _ rfl g #[.int .i64 z, .slice d6 L.length f6] rfl rfl 24 _ HG9.out sizeQ rfl (oneQ _ _ _ _) ?_))
              obtain ⟨wA, hwA⟩ : ∃ wA, wA = w9.setRow g #[.int .i64 z, .slice d6 L.length f6] := ⟨_, rfl⟩
              change Code.wp _ _ _ _ (w9.setRow g #[.int .i64 z, .slice d6 L.length f6])
              rw [← hwA] at HIA ⊢
              clear hwA HQ9 HG9
              obtain ⟨dq, fq, hqq, hyq⟩ := HIA.out.q
              have HQq := Box.mk hqq
              have HYq := Box.mk hyq
              clear hqq hyq
              obtain ⟨F, HFF⟩ : ∃ F, Box (L.take (min j L.length) = F) := ⟨_, ⟨rfl⟩⟩
              obtain ⟨R, HRR⟩ : ∃ R, Box (L.drop (min j L.length) = R) := ⟨_, ⟨rfl⟩⟩
              have HFR := Box.mk (show F ++ R = L by rw [← HFF.out, ← HRR.out]; exact List.take_append_drop _ _)
              have HFl := Box.mk (show F.length + R.length = L.length by rw [← HFR.out, List.length_append])
              have hRz : R.length ≤ z := by have := HFl.out; omega
              have hFz : F.length ≤ z := by have := HFl.out; omega
              rename_i K13 hK13
              refine wp_region_phases [11] (fun p => match p with | 0 => [0, 1, 2, 3, 4, 5, 6, 7, 8, 9, 10] | _ => [])
                (fun p => match p with
                  | 0 => [.val (.agg #[.int .i64 z, .slice dq L.length fq]), .val (.slice (some y) nt ct), .val (.int .i64 k), .val (.pointer (some (y.add k))), .val (.int .i64 zk), .val (.int .i64 j), .tupT wA.heap.size z F R, .tupT wA.heap.size z F R, .bytes F, .qf wA.heap.size z R, .bytes F, .any]
                  | _ => [.any, .any, .any, .any, .any, .any, .any, .any, .any, .any, .bytes F, .any])
                (fun p => match p with
                  | 0 => fun w' => Below wA.heap.size wA w'
                  | _ => fun w' => QI w w' g B v8' u9 (I ++ T) O z R ∧ ∃ d f, QVar w' g z d R.length f ∧ IsBytes w' d R f ∧ ∀ x, d = some x → wA.heap.size ≤ x.block)
                (by kernel_rfl) (by kernel_rfl) (by kernel_rfl) (by kernel_rfl) (by kernel_rfl) (by kernel_rfl) ?_ (Below.refl _ _) ?_ ?_ ?_
              · intro p w2 w3 h1 h2
                match p with
                | 0 => exact below_trans h1 h2
                | p + 1 =>
                  obtain ⟨h3, d, f, h4, h5, h6⟩ := h1
                  exact ⟨h3.keep h2, d, f, h4.keep h2, h5.keep h2, h6⟩
              · intro p hp
                match p, hp with
                | 0, _ =>
                  refine ⟨?_, ?_, ?_, ?_, ?_, ?_, ?_, ?_, ?_, ?_, ?_, trivial⟩ <;> intro a w2 hb hf hd
                  · exact ⟨wanted_none rfl, loc_load_q rfl (hf.base 7 rfl) (HQq.out.keep hb) rfl⟩
                  · exact ⟨wanted_none rfl, loc_move rfl (hf.base 2 rfl)⟩
                  · exact ⟨wanted_none rfl, loc_move rfl (hf.base 10 rfl)⟩
                  · exact ⟨wanted_none rfl, loc_index_int rfl (hd 1 rfl) (hd 2 rfl) ht0 rfl⟩
                  · exact ⟨wanted_none rfl, loc_load_int rfl (hd 3 rfl) (below_cell (below_trans HIA.out.below hb) HCK.out) rfl⟩
                  · refine ⟨wanted_none rfl, loc_call rfl (by kernel_rfl) ?_⟩
                    show Calls _ _ #[a.eval (.tmp 81), .int .i64 ((20 : Nat) : Int)] w2 _
                    rw [show a.eval (.tmp 81) = .int .i64 zk from hd 4 rfl]
                    refine (withinE zk 20 j w2 (by decide) (by decide) HJW.out).mono ?_
                    rintro e w' ⟨rfl, rfl⟩
                    exact ⟨_, rfl, Below.refl _ _, rfl⟩
                  · refine ⟨wanted_none rfl, loc_call rfl (by kernel_rfl) ?_⟩
                    show Calls _ _ #[a.eval (.tmp 77), a.eval (.tmp 82)] w2 _
                    rw [show a.eval (.tmp 82) = .int .i64 j from hd 5 rfl]
                    refine (take_f (z := z) (n := j) (l := L) (k := min j L.length) (F := F) (R := R) ⟨dq, fq, hd 0 rfl, HYq.out.keep hb⟩ (by omega) (peekN_of (by omega) (by omega)) HFF.out HRR.out).mono ?_
                    rintro e w' ⟨v', he, hb', a1, m1, b1, c1, h1, h2, h3, h4⟩
                    exact ⟨v', he, hb', _, _, h1, ⟨a1, m1, rfl, h2⟩, b1, c1, rfl, h3, fun x hx => Nat.le_trans hb.size (h4 x hx)⟩
                  · exact ⟨wanted_none rfl, loc_move rfl (hd 6 rfl)⟩
                  · obtain ⟨u, t, e1, e2, e3⟩ := hd 7 rfl
                    exact ⟨wanted_none rfl, loc_extract0 rfl e1 e2⟩
                  · obtain ⟨u, t, e1, e2, e3⟩ := hd 7 rfl
                    exact ⟨wanted_none rfl, loc_extract1 rfl e1 e3⟩
                  · exact ⟨wanted_none rfl, loc_assign rfl (hd 8 rfl)⟩
                | 1, _ => exact trivial
              · intro p hp
                match p, hp with
                | 0, _ =>
                  intro a2 w2 hb hf hd
                  refine ⟨wanted_none rfl, ?_⟩
                  obtain ⟨d1, f1, e1, e2, e6⟩ := hd 9 rfl
                  have hgq := HQq.out.keep hb
                  exact wp_store_row 24 _ _ rfl g #[.int .i64 z, .slice d1 R.length f1] (hf.base 7 rfl) e1 24 _ hgq sizeQ rfl (oneQ _ _ _ _) ⟨undef, rfl, ⟨(HIA.out.keep hb).store e2, d1, f1, setRow_heap _ _ _ _ _ _ hgq, hgq.store e2 _, e6⟩, trivial, ⟨.inr fun _ _ _ => trivial, .inr fun _ _ _ => trivial, .inr fun _ _ _ => trivial, .inr fun _ _ _ => trivial, .inr fun _ _ _ => trivial, .inr fun _ _ _ => trivial, .inr fun _ _ _ => trivial, .inr fun _ _ _ => trivial, .inr fun _ _ _ => trivial, .inr fun _ _ _ => trivial, .inr fun v _ h => (fun ⟨a, c, h1, h2⟩ => ⟨a, c, h1, hgq.store h2 _⟩ : BytesV w2 v F → BytesV (w2.setRow g _) v F) h, .inl rfl, trivial⟩⟩
              · intro a2 w13 hinv hf hh
                obtain ⟨a13, m13, e13, hb13⟩ := hh 10 (by decide)
                have HB13 := Box.mk hb13
                obtain ⟨hi13, d13, f13, hq13, hy13, hf13⟩ := hinv
                have HI13 := Box.mk hi13
                have HQ13 := Box.mk hq13
                have HY13 := Box.mk hy13
                have HF13 := Box.mk hf13
                have e13' : a2.eval (.tmp 13) = .slice a13 F.length m13 := e13
                clear hb13 hi13 hq13 hy13 hf13 e13
                refine hK13 a2 w13 ?_
                rw [fr_putAll hf]
                simp only [putAll, e13']
                clear hf hh
                generalize a2.eval (.tmp 77) = u77
                generalize a2.eval (.tmp 78) = u78
                generalize a2.eval (.tmp 79) = u79
                generalize a2.eval (.tmp 80) = u80
                generalize a2.eval (.tmp 81) = u81
                generalize a2.eval (.tmp 82) = u82
                generalize a2.eval (.tmp 83) = u83
                generalize a2.eval (.tmp 76) = u76
                generalize a2.eval (.tmp 84) = u84
                generalize a2.eval (.tmp 85) = u85
                clear e13'
                clear a2
                simp only [Act.put, List.setIfInBounds_toArray, List.set_cons_succ, List.set_cons_zero]
                have HLT9 := Box.mk (show ∀ k, u9.ownBlock = some k → k < wA.heap.size from fun k hk => (HIA.out.out.lt hk).2)
                go_wp2_with (at_builtin; refine wpList_append_ownb _ rfl _ _ rfl rfl HI13.out.out rfl HB13.out (by omega) HI13.out.hsz ?c2)
                case c2 =>
                  intro v9' w14 h1 h2 h3
                  have HI14 := Box.mk (HI13.out.step2 HLT9.out HQ13.out HY13.out HF13.out h1 h2 h3)
                  clear h1 h2 h3 HI13 HQ13 HY13 HF13 HB13 HLT9 HQq HYq
                  obtain ⟨dq, fq, hqq, hyq⟩ := HI14.out.q
                  have HQq := Box.mk hqq
                  have HYq := Box.mk hyq
                  clear hqq hyq
                  go_wp2_with (refine wpList_load_row rfl 24 _ rfl g rfl 24 _ (0, 0) _ HQq.out Try.underlying24 rfl sizeQ ?_)
                  refine (valid_k (z := z) (l := R) ⟨dq, fq, rfl, HYq.out⟩).mono ?_
                  rintro e w15 ⟨v15, rfl, hb15, hv15⟩
                  rw [validB_true (by omega) (by omega)] at hv15
                  subst hv15
                  have HI15 := Box.mk (HI14.out.keep hb15)
                  have hq15 := QVar.keep HQq.out hb15
                  have hz15 := hq15.cap
                  have hd15 := hq15.data
                  have hle15 : ¬ (z : Int) < (R.length : Int) := by omega
                  clear hb15 hq15
                  go_wp2_with fail
                  go_roundw
                  case rel => exact ⟨k + 1, I ++ T, O ++ F, R, by omega, by omega, by go_num, by omega, by have h1 := HFl.out; have h2 := HLl.out; rw [List.length_append]; omega, ⟨by rw [HIO.out, List.append_assoc, HL.out, ← HFR.out, List.append_assoc]⟩, HI15⟩
                  case measure => simp [intOf]; omega
            · skip
              obtain ⟨dq, fq, hqq, hyq⟩ := HIA.out.q
              have hqq2 := hqq
              unfold QVar at hqq2
              go_wp2_with (first
                | (refine wpList_load_row rfl 24 _ rfl g11 rfl 24 _ (0, 0) _ HQ9.out Try.underlying24 rfl sizeQ ?_)
                | (refine wpList_store_row rfl 24 _ _ rfl g #[.int .i64 z, .slice d6 L.length f6] rfl rfl 24 _ HG9.out sizeQ rfl (oneQ _ _ _ _) ?_)
                | (refine wpList_load_row rfl 24 _ rfl g rfl 24 _ (0, 0) _ hqq2 Try.underlying24 rfl sizeQ ?_))
              obtain ⟨wA, hwA⟩ : ∃ wA, wA = w9.setRow g #[.int .i64 z, .slice d6 L.length f6] := ⟨_, rfl⟩
              change Calls _ _ _ (w9.setRow g #[.int .i64 z, .slice d6 L.length f6]) _
              clear hqq2
              rw [← hwA] at HIA hqq hyq ⊢
              have HQq := Box.mk hqq
              have HYq := Box.mk hyq
              clear hwA HQ9 HG9 hqq hyq
              refine (valid_k (z := z) (l := L) ⟨dq, fq, rfl, HYq.out⟩).mono ?_
              rintro e w15 ⟨v15, rfl, hb15, hv15⟩
              rw [validB_true (by omega) (by omega)] at hv15
              subst hv15
              have HI15 := Box.mk (HIA.out.keep hb15)
              have hq15 := QVar.keep HQq.out hb15
              have hz15 := hq15.cap
              have hd15 := hq15.data
              have hle15 : ¬ (z : Int) < (L.length : Int) := by omega
              clear hb15 hq15
              go_wp2_with fail
              go_roundw
              case rel => exact ⟨k + 1, I ++ T, O, L, by omega, by omega, by go_num, by omega, by have h2 := HLl.out; omega, ⟨by rw [HIO.out, List.append_assoc, HL.out]⟩, HI15⟩
              case measure => simp [intOf]; omega
        · have H7 := H6
          have HQ7 := HQ11
          have HY7 := HY6
          have hc7 := hc6
          clear H6 HQ11 HY6 HBW6
          have HI7 := Box.mk (HI.out.keep H7.out)
          have HTB7 := Box.mk (show IsBytes w6 ba T bc by
            have h := (HBy.out.takeQ T.length).keep (below_trans HI.out.below H7.out)
            rw [HTB.out] at h; exact h)
          have hIl : I.length ≤ 1800 := by rw [HIO.out, List.length_append]; omega
          have hcap : b.length ≤ bc := by
            rcases HBy.out with ⟨_, h, h'⟩ | ⟨_, _, h, _⟩
            · rw [h, h']; exact Nat.le_refl _
            · exact h
          go_wp2_with (at_builtin; refine wpList_append_ownb _ rfl _ _ rfl rfl HI7.out.inn rfl HTB7.out (by omega) HI7.out.hsz ?c1)
          case c1 =>
            intro v8' w9 h1 h2 h3
            have HIA := Box.mk (HI.out.step H7.out HY7.out HF6.out h1 h2 h3)
            have HQ9 := Box.mk (grown_row HQ7.out h2 HI7.out.inn)
            have HG9 := Box.mk (grown_row (HQ0.out.keep H7.out) h2 HI7.out.inn)
            clear h1 h2 h3 HI7 HTB7 HY7 HQ7 H7 hc7
            by_cases ht0 : k < nt
            · skip
              obtain ⟨y, zk, hy0, hck⟩ := HT.out k ht0
              have HCK := Box.mk hck
              clear hck
              subst hy0
              obtain ⟨j, hj, hjw⟩ := within_valE zk 20 (by decide) (by decide)
              have HJW := Box.mk hjw
              clear hjw
              go_wp2_with (first
                | (refine wpList_load_row rfl 24 _ rfl g11 rfl 24 _ (0, 0) _ HQ9.out Try.underlying24 rfl sizeQ ?_)
                | (refine wpList_store_row rfl 24 _ _ rfl g #[.int .i64 z, .slice d6 L.length f6] rfl rfl 24 _ HG9.out sizeQ rfl (oneQ _ _ _ _) ?_))
              obtain ⟨wA, hwA⟩ : ∃ wA, wA = w9.setRow g #[.int .i64 z, .slice d6 L.length f6] := ⟨_, rfl⟩
              change Code.wp _ _ _ _ (w9.setRow g #[.int .i64 z, .slice d6 L.length f6])
              rw [← hwA] at HIA ⊢
              clear hwA HQ9 HG9
              obtain ⟨dq, fq, hqq, hyq⟩ := HIA.out.q
              have HQq := Box.mk hqq
              have HYq := Box.mk hyq
              clear hqq hyq
              obtain ⟨F, HFF⟩ : ∃ F, Box (L.take (min j L.length) = F) := ⟨_, ⟨rfl⟩⟩
              obtain ⟨R, HRR⟩ : ∃ R, Box (L.drop (min j L.length) = R) := ⟨_, ⟨rfl⟩⟩
              have HFR := Box.mk (show F ++ R = L by rw [← HFF.out, ← HRR.out]; exact List.take_append_drop _ _)
              have HFl := Box.mk (show F.length + R.length = L.length by rw [← HFR.out, List.length_append])
              have hRz : R.length ≤ z := by have := HFl.out; omega
              have hFz : F.length ≤ z := by have := HFl.out; omega
              rename_i K13 hK13
              refine wp_region_phases [11] (fun p => match p with | 0 => [0, 1, 2, 3, 4, 5, 6, 7, 8, 9, 10] | _ => [])
                (fun p => match p with
                  | 0 => [.val (.agg #[.int .i64 z, .slice dq L.length fq]), .val (.slice (some y) nt ct), .val (.int .i64 k), .val (.pointer (some (y.add k))), .val (.int .i64 zk), .val (.int .i64 j), .tupT wA.heap.size z F R, .tupT wA.heap.size z F R, .bytes F, .qf wA.heap.size z R, .bytes F, .any]
                  | _ => [.any, .any, .any, .any, .any, .any, .any, .any, .any, .any, .bytes F, .any])
                (fun p => match p with
                  | 0 => fun w' => Below wA.heap.size wA w'
                  | _ => fun w' => QI w w' g B v8' u9 (I ++ T) O z R ∧ ∃ d f, QVar w' g z d R.length f ∧ IsBytes w' d R f ∧ ∀ x, d = some x → wA.heap.size ≤ x.block)
                (by kernel_rfl) (by kernel_rfl) (by kernel_rfl) (by kernel_rfl) (by kernel_rfl) (by kernel_rfl) ?_ (Below.refl _ _) ?_ ?_ ?_
              · intro p w2 w3 h1 h2
                match p with
                | 0 => exact below_trans h1 h2
                | p + 1 =>
                  obtain ⟨h3, d, f, h4, h5, h6⟩ := h1
                  exact ⟨h3.keep h2, d, f, h4.keep h2, h5.keep h2, h6⟩
              · intro p hp
                match p, hp with
                | 0, _ =>
                  refine ⟨?_, ?_, ?_, ?_, ?_, ?_, ?_, ?_, ?_, ?_, ?_, trivial⟩ <;> intro a w2 hb hf hd
                  · exact ⟨wanted_none rfl, loc_load_q rfl (hf.base 7 rfl) (HQq.out.keep hb) rfl⟩
                  · exact ⟨wanted_none rfl, loc_move rfl (hf.base 2 rfl)⟩
                  · exact ⟨wanted_none rfl, loc_move rfl (hf.base 10 rfl)⟩
                  · exact ⟨wanted_none rfl, loc_index_int rfl (hd 1 rfl) (hd 2 rfl) ht0 rfl⟩
                  · exact ⟨wanted_none rfl, loc_load_int rfl (hd 3 rfl) (below_cell (below_trans HIA.out.below hb) HCK.out) rfl⟩
                  · refine ⟨wanted_none rfl, loc_call rfl (by kernel_rfl) ?_⟩
                    show Calls _ _ #[a.eval (.tmp 81), .int .i64 ((20 : Nat) : Int)] w2 _
                    rw [show a.eval (.tmp 81) = .int .i64 zk from hd 4 rfl]
                    refine (withinE zk 20 j w2 (by decide) (by decide) HJW.out).mono ?_
                    rintro e w' ⟨rfl, rfl⟩
                    exact ⟨_, rfl, Below.refl _ _, rfl⟩
                  · refine ⟨wanted_none rfl, loc_call rfl (by kernel_rfl) ?_⟩
                    show Calls _ _ #[a.eval (.tmp 77), a.eval (.tmp 82)] w2 _
                    rw [show a.eval (.tmp 82) = .int .i64 j from hd 5 rfl]
                    refine (take_f (z := z) (n := j) (l := L) (k := min j L.length) (F := F) (R := R) ⟨dq, fq, hd 0 rfl, HYq.out.keep hb⟩ (by omega) (peekN_of (by omega) (by omega)) HFF.out HRR.out).mono ?_
                    rintro e w' ⟨v', he, hb', a1, m1, b1, c1, h1, h2, h3, h4⟩
                    exact ⟨v', he, hb', _, _, h1, ⟨a1, m1, rfl, h2⟩, b1, c1, rfl, h3, fun x hx => Nat.le_trans hb.size (h4 x hx)⟩
                  · exact ⟨wanted_none rfl, loc_move rfl (hd 6 rfl)⟩
                  · obtain ⟨u, t, e1, e2, e3⟩ := hd 7 rfl
                    exact ⟨wanted_none rfl, loc_extract0 rfl e1 e2⟩
                  · obtain ⟨u, t, e1, e2, e3⟩ := hd 7 rfl
                    exact ⟨wanted_none rfl, loc_extract1 rfl e1 e3⟩
                  · exact ⟨wanted_none rfl, loc_assign rfl (hd 8 rfl)⟩
                | 1, _ => exact trivial
              · intro p hp
                match p, hp with
                | 0, _ =>
                  intro a2 w2 hb hf hd
                  refine ⟨wanted_none rfl, ?_⟩
                  obtain ⟨d1, f1, e1, e2, e6⟩ := hd 9 rfl
                  have hgq := HQq.out.keep hb
                  exact wp_store_row 24 _ _ rfl g #[.int .i64 z, .slice d1 R.length f1] (hf.base 7 rfl) e1 24 _ hgq sizeQ rfl (oneQ _ _ _ _) ⟨undef, rfl, ⟨(HIA.out.keep hb).store e2, d1, f1, setRow_heap _ _ _ _ _ _ hgq, hgq.store e2 _, e6⟩, trivial, ⟨.inr fun _ _ _ => trivial, .inr fun _ _ _ => trivial, .inr fun _ _ _ => trivial, .inr fun _ _ _ => trivial, .inr fun _ _ _ => trivial, .inr fun _ _ _ => trivial, .inr fun _ _ _ => trivial, .inr fun _ _ _ => trivial, .inr fun _ _ _ => trivial, .inr fun _ _ _ => trivial, .inr fun v _ h => (fun ⟨a, c, h1, h2⟩ => ⟨a, c, h1, hgq.store h2 _⟩ : BytesV w2 v F → BytesV (w2.setRow g _) v F) h, .inl rfl, trivial⟩⟩
              · intro a2 w13 hinv hf hh
                obtain ⟨a13, m13, e13, hb13⟩ := hh 10 (by decide)
                have HB13 := Box.mk hb13
                obtain ⟨hi13, d13, f13, hq13, hy13, hf13⟩ := hinv
                have HI13 := Box.mk hi13
                have HQ13 := Box.mk hq13
                have HY13 := Box.mk hy13
                have HF13 := Box.mk hf13
                have e13' : a2.eval (.tmp 13) = .slice a13 F.length m13 := e13
                clear hb13 hi13 hq13 hy13 hf13 e13
                refine hK13 a2 w13 ?_
                rw [fr_putAll hf]
                simp only [putAll, e13']
                clear hf hh
                generalize a2.eval (.tmp 77) = u77
                generalize a2.eval (.tmp 78) = u78
                generalize a2.eval (.tmp 79) = u79
                generalize a2.eval (.tmp 80) = u80
                generalize a2.eval (.tmp 81) = u81
                generalize a2.eval (.tmp 82) = u82
                generalize a2.eval (.tmp 83) = u83
                generalize a2.eval (.tmp 76) = u76
                generalize a2.eval (.tmp 84) = u84
                generalize a2.eval (.tmp 85) = u85
                clear e13'
                clear a2
                simp only [Act.put, List.setIfInBounds_toArray, List.set_cons_succ, List.set_cons_zero]
                have HLT9 := Box.mk (show ∀ k, u9.ownBlock = some k → k < wA.heap.size from fun k hk => (HIA.out.out.lt hk).2)
                go_wp2_with (at_builtin; refine wpList_append_ownb _ rfl _ _ rfl rfl HI13.out.out rfl HB13.out (by omega) HI13.out.hsz ?c2)
                case c2 =>
                  intro v9' w14 h1 h2 h3
                  have HI14 := Box.mk (HI13.out.step2 HLT9.out HQ13.out HY13.out HF13.out h1 h2 h3)
                  clear h1 h2 h3 HI13 HQ13 HY13 HF13 HB13 HLT9 HQq HYq
                  obtain ⟨dq, fq, hqq, hyq⟩ := HI14.out.q
                  have HQq := Box.mk hqq
                  have HYq := Box.mk hyq
                  clear hqq hyq
                  go_wp2_with (refine wpList_load_row rfl 24 _ rfl g rfl 24 _ (0, 0) _ HQq.out Try.underlying24 rfl sizeQ ?_)
                  refine (valid_k (z := z) (l := R) ⟨dq, fq, rfl, HYq.out⟩).mono ?_
                  rintro e w15 ⟨v15, rfl, hb15, hv15⟩
                  rw [validB_true (by omega) (by omega)] at hv15
                  subst hv15
                  have HI15 := Box.mk (HI14.out.keep hb15)
                  have hq15 := QVar.keep HQq.out hb15
                  have hz15 := hq15.cap
                  have hd15 := hq15.data
                  have hle15 : ¬ (z : Int) < (R.length : Int) := by omega
                  clear hb15 hq15
                  go_wp2_with fail
                  go_roundw
                  case rel => exact ⟨k + 1, I ++ T, O ++ F, R, by omega, by omega, by go_num, by omega, by have h1 := HFl.out; have h2 := HLl.out; rw [List.length_append]; omega, ⟨by rw [HIO.out, List.append_assoc, HL.out, ← HFR.out, List.append_assoc]⟩, HI15⟩
                  case measure => simp [intOf]; omega
            · skip
              obtain ⟨dq, fq, hqq, hyq⟩ := HIA.out.q
              have hqq2 := hqq
              unfold QVar at hqq2
              go_wp2_with (first
                | (refine wpList_load_row rfl 24 _ rfl g11 rfl 24 _ (0, 0) _ HQ9.out Try.underlying24 rfl sizeQ ?_)
                | (refine wpList_store_row rfl 24 _ _ rfl g #[.int .i64 z, .slice d6 L.length f6] rfl rfl 24 _ HG9.out sizeQ rfl (oneQ _ _ _ _) ?_)
                | (refine wpList_load_row rfl 24 _ rfl g rfl 24 _ (0, 0) _ hqq2 Try.underlying24 rfl sizeQ ?_))
              obtain ⟨wA, hwA⟩ : ∃ wA, wA = w9.setRow g #[.int .i64 z, .slice d6 L.length f6] := ⟨_, rfl⟩
              change Calls _ _ _ (w9.setRow g #[.int .i64 z, .slice d6 L.length f6]) _
              clear hqq2
              rw [← hwA] at HIA hqq hyq ⊢
              have HQq := Box.mk hqq
              have HYq := Box.mk hyq
              clear hwA HQ9 HG9 hqq hyq
              refine (valid_k (z := z) (l := L) ⟨dq, fq, rfl, HYq.out⟩).mono ?_
              rintro e w15 ⟨v15, rfl, hb15, hv15⟩
              rw [validB_true (by omega) (by omega)] at hv15
              subst hv15
              have HI15 := Box.mk (HIA.out.keep hb15)
              have hq15 := QVar.keep HQq.out hb15
              have hz15 := hq15.cap
              have hd15 := hq15.data
              have hle15 : ¬ (z : Int) < (L.length : Int) := by omega
              clear hb15 hq15
              go_wp2_with fail
              go_roundw
              case rel => exact ⟨k + 1, I ++ T, O, L, by omega, by omega, by go_num, by omega, by have h2 := HLl.out; omega, ⟨by rw [HIO.out, List.append_assoc, HL.out]⟩, HI15⟩
              case measure => simp [intOf]; omega
    · skip
      by_cases hl : k < ls.length
      · have hk2 : ¬ k < 30 := fun h => hlt ⟨hl, h⟩
        clear hlt
        obtain ⟨a8, m8, e8, h8⟩ := HI.out.inn.val
        obtain ⟨a9, m9, e9, h9⟩ := HI.out.out.val
        obtain ⟨dq, fq, hqq, hyq⟩ := HI.out.q
        have HQq := Box.mk hqq
        have HYq := Box.mk hyq
        have H8 := Box.mk h8
        have H9 := Box.mk h9
        have HBW := Box.mk HI.out.below
        have HGW := Box.mk HI.out.hg
        clear hqq hyq h8 h9 HI
        subst e8 e9
        have hOl : O.length ≤ 1800 := by omega
        have hDl : D.length ≤ 60 := by omega
        go_wp2_with (refine wpList_load_row rfl 24 _ rfl g rfl 24 _ (0, 0) _ HQq.out Try.underlying24 rfl sizeQ ?_)
        refine (take_f (z := z) (n := ((1000000 : Nat) : Int)) (l := D) (k := D.length) (F := D) (R := []) ⟨dq, fq, rfl, HYq.out⟩ (by omega) ((peekN_of (by omega) hDz).trans (by omega)) List.take_length List.drop_length).mono ?_
        rintro e w17 ⟨v17, rfl, hb, a1, m1, b1, c1, rfl, h1, h2, h3⟩
        have hq17 := HQq.out.keep hb
        have HQ17 := Box.mk hq17
        have HB18 := Box.mk (below_setRow (below_trans HBW.out hb) HGW.out #[.int .i64 z, .slice b1 0 c1])
        have hcI := conv_bytes (hq17.store (H8.out.keep hb) #[.int .i64 z, .slice b1 0 c1])
        have hcO := conv_bytes (hq17.store (H9.out.keep hb) #[.int .i64 z, .slice b1 0 c1])
        have hcD := conv_bytes (hq17.store h1 #[.int .i64 z, .slice b1 0 c1])
        have hcell := QVar.data (show QVar (w17.setRow g #[.int .i64 z, .slice b1 0 c1]) g z b1 0 c1 from setRow_heap _ _ _ _ _ _ hq17)
        have hadd : ∀ W, (Op.stringOp .add ⟨O.toArray⟩ ⟨D.toArray⟩).run Try.prog W = .ok (.string ⟨I.toArray⟩) W := fun W => by
          have h := run_string_add_sum (P := Try.prog) (w := W) ⟨O.toArray⟩ ⟨D.toArray⟩ (by show (O.toArray).size + (D.toArray).size ≤ _; simp; omega)
          rw [cat_bytes, ← HIO.out] at h; exact h
        clear hb h1 h2 h3 hq17 HYq H8 H9
        go_wp2_with (refine wpList_store_row rfl 24 _ _ rfl g #[.int .i64 z, .slice b1 0 c1] rfl rfl 24 _ HQ17.out sizeQ rfl (oneQ _ _ _ _) ?_)
        refine (awake_k _).mono ?_
        rintro e w19 ⟨v19, rfl, hb, rfl⟩
        have HB19 := Box.mk (below_trans HB18.out hb)
        clear hb hcI hcO hcD hcell hadd
        go_wp2_with fail
        go_ret
        exact ⟨rfl, HB19.out⟩
      · clear hlt
        obtain ⟨a8, m8, e8, h8⟩ := HI.out.inn.val
        obtain ⟨a9, m9, e9, h9⟩ := HI.out.out.val
        obtain ⟨dq, fq, hqq, hyq⟩ := HI.out.q
        have HQq := Box.mk hqq
        have HYq := Box.mk hyq
        have H8 := Box.mk h8
        have H9 := Box.mk h9
        have HBW := Box.mk HI.out.below
        have HGW := Box.mk HI.out.hg
        clear hqq hyq h8 h9 HI
        subst e8 e9
        have hOl : O.length ≤ 1800 := by omega
        have hDl : D.length ≤ 60 := by omega
        go_wp2_with (refine wpList_load_row rfl 24 _ rfl g rfl 24 _ (0, 0) _ HQq.out Try.underlying24 rfl sizeQ ?_)
        refine (take_f (z := z) (n := ((1000000 : Nat) : Int)) (l := D) (k := D.length) (F := D) (R := []) ⟨dq, fq, rfl, HYq.out⟩ (by omega) ((peekN_of (by omega) hDz).trans (by omega)) List.take_length List.drop_length).mono ?_
        rintro e w17 ⟨v17, rfl, hb, a1, m1, b1, c1, rfl, h1, h2, h3⟩
        have hq17 := HQq.out.keep hb
        have HQ17 := Box.mk hq17
        have HB18 := Box.mk (below_setRow (below_trans HBW.out hb) HGW.out #[.int .i64 z, .slice b1 0 c1])
        have hcI := conv_bytes (hq17.store (H8.out.keep hb) #[.int .i64 z, .slice b1 0 c1])
        have hcO := conv_bytes (hq17.store (H9.out.keep hb) #[.int .i64 z, .slice b1 0 c1])
        have hcD := conv_bytes (hq17.store h1 #[.int .i64 z, .slice b1 0 c1])
        have hcell := QVar.data (show QVar (w17.setRow g #[.int .i64 z, .slice b1 0 c1]) g z b1 0 c1 from setRow_heap _ _ _ _ _ _ hq17)
        have hadd : ∀ W, (Op.stringOp .add ⟨O.toArray⟩ ⟨D.toArray⟩).run Try.prog W = .ok (.string ⟨I.toArray⟩) W := fun W => by
          have h := run_string_add_sum (P := Try.prog) (w := W) ⟨O.toArray⟩ ⟨D.toArray⟩ (by show (O.toArray).size + (D.toArray).size ≤ _; simp; omega)
          rw [cat_bytes, ← HIO.out] at h; exact h
        clear hb h1 h2 h3 hq17 HYq H8 H9
        go_wp2_with (refine wpList_store_row rfl 24 _ _ rfl g #[.int .i64 z, .slice b1 0 c1] rfl rfl 24 _ HQ17.out sizeQ rfl (oneQ _ _ _ _) ?_)
        refine (awake_k _).mono ?_
        rintro e w19 ⟨v19, rfl, hb, rfl⟩
        have HB19 := Box.mk (below_trans HB18.out hb)
        clear hb hcI hcO hcD hcell hadd
        go_wp2_with fail
        go_ret
        exact ⟨rfl, HB19.out⟩
end Go.Proofs.Ytpgppninmnplkaa
