/- The law that Of and Text follow the reference. -/
import Derived.Test.YtpgppninmnplkaaDoorDigW
namespace Go.Proofs.YtpgppninmnplkaaDoor
open Go.RowKit

theorem within_v (z : Int) (n : Nat) (w : World) (h0 : 0 < n) (hn : n ≤ 1000) :
    Calls Tryd.prog 9 #[.int .i64 z, .int .i64 n] w fun e w' => ∃ k : Nat, k < n ∧ e = .returned (.int .i64 k) ∧ w = w' := within_any z n w h0 hn

set_option maxRecDepth 100000 in
set_option maxHeartbeats 2000000 in
theorem digestOf_any (lb : List UInt8) (b : Option Addr) (cb : Nat) (more : Int) (c : UInt8) (w : World) (hb : IsBytes w b lb cb) (ht : DTabs w) :
    Calls Tryd.prog 3 #[.slice b lb.length cb, .int .i64 more, .int .u8 c.toNat] w fun e w' => e = .returned (.bool true) ∧ Below w.heap.size w w' := by
  obtain ⟨vb, hvb⟩ : ∃ vb, vb = Value.slice b lb.length cb := ⟨_, rfl⟩
  rw [← hvb]
  have HB : Box (BytesV w vb lb) := ⟨b, cb, hvb, hb⟩
  have HT := Box.mk ht
  clear hb ht hvb
  go_enter Tryd.func3, Tryd.ntmps3
  have HE := Box.mk (AccB.empty w)
  go_wp2_with fail
  refine (short_v lb vb 300 _ (HB.out.keep HE.out.2) (by decide)).mono ?_
  rintro e w1 ⟨b1, rfl, rfl, h⟩
  have hbl : (lb.take 300).length ≤ 300 := by rw [List.length_take]; omega
  generalize lb.take 300 = B at *
  obtain ⟨xa, xc, rfl, hxa⟩ := h
  have HX := Box.mk hxa
  clear hxa HB
  go_wp2_with (at_builtin; refine wpList_append_accs _ rfl _ _ rfl rfl HE.out rfl HX.out (by simp; omega) ?c1)
  case c1 =>
    intro v1 w1 hacc
    have H1 : Box (AccB w w1 v1 B) := ⟨by simpa using hacc⟩
    clear hacc HE HX
    go_wp2_with fail
    refine (within_v more 140 w1 (by decide) (by decide)).mono ?_
    rintro e w2 ⟨k0, hk0, rfl, rfl⟩
    go_wp2_with fail
    go_loopw [0, 7] (fun sv nv wr => ∃ (k : Nat) (t : List UInt8), k < 140 ∧ nv = .int .i64 k ∧ t.length + k ≤ 440 ∧ Box (AccB w wr sv t)) (fun _ nv _ => (intOf nv).toNat)
    case atStart => exact ⟨k0, B, hk0, rfl, by omega, H1⟩
    case round =>
      clear H1
      obtain ⟨k, t, hk, rfl, htk, HM⟩ := hrel
      by_cases h0 : 0 < k
      · have HN : Box (∀ W : World, (W.alloc (.cells #[.int .u8 (c.toNat : Int)] 5)).cell? ⟨W.heap.size, 0, none⟩ = some (.int .u8 (c.toNat : Int))) := ⟨fun W => by rw [cell_of_row _ _ _ _ _ _ (heap_alloc_new _ _)]; rfl⟩
        go_wp2_with (at_builtin; refine wpList_append_accb _ rfl _ _ rfl rfl (HM.out.keep ((Below.refl _ _).alloc (Nat.le_refl _) _)) rfl (HN.out _) (by omega) ?c2)
        case c2 =>
          intro g2 cap2 w2 hacc
          have H2 := Box.mk hacc
          clear hacc HN HM
          go_wp2_with fail
          go_roundw
          case rel => exact ⟨k - 1, t ++ [c], by omega, by go_num, by rw [List.length_append, List.length_singleton]; omega, ⟨H2.out⟩⟩
          case measure => simp [intOf]; omega
      · have hk0 : ¬ (0 < (k : Int)) := by omega
        obtain ⟨ya, yc, rfl, hy⟩ := HM.out.shape
        have HY := Box.mk hy
        have HW := Box.mk HM.out.2
        have htl : t.length ≤ 440 := by omega
        clear hy HM
        go_wp2_with fail
        obtain ⟨W, hW⟩ : ∃ W, W = wr.alloc (.cells #[.slice ya t.length yc] 22) := ⟨_, rfl⟩
        change Calls _ _ _ (wr.alloc (.cells #[.slice ya t.length yc] 22)) _
        have hS : SlcIn W (some ⟨wr.heap.size, 0, none⟩) [t] := by rw [hW]; exact slcIn_build1 HY.out 22 (0, 0)
        have hBW : Below wr.heap.size wr W := by rw [hW]; exact below_one _ _
        have HS : Box (SlcV W (.slice (some ⟨wr.heap.size, 0, none⟩) 1 1) [t]) := ⟨_, 1, rfl, hS⟩
        have HW3 := Box.mk (below_trans HW.out hBW)
        have HY3 : Box (BytesV W (.slice ya t.length yc) t) := ⟨ya, yc, rfl, HY.out.keep hBW⟩
        rw [← hW]
        clear hW hS hBW HY HW
        refine (of_v [t] t _ W HS.out (show 1 ≤ 2 by decide) (by simp) (by omega) (HT.out.keep HW3.out)).mono ?_
        rintro e w4 ⟨v4, rfl, h1, h2⟩
        have HW4 := Box.mk (below_trans HW3.out h1)
        have HX4 := Box.mk h2
        have HY4 := Box.mk (HY3.out.keep h1)
        have HT4 := Box.mk (HT.out.keep HW4.out)
        have hxl : (sumS t).length = 32 := sumS_len t
        obtain ⟨xa, xc, rfl, _⟩ := h2
        rw [hxl] at HX4 ⊢
        clear h1 HY3 HS
        generalize (Value.slice ya t.length yc) = vy at *
        go_wp2_with fail
        rename_i K hK
        refine wp_region_local (S := [.val (.slice xa 32 xc), .val (.string ⟨(sumS t).toArray⟩), .val vy, .bytes (sumS t), .val (.string ⟨(sumS t).toArray⟩), .val (.bool true), .val (.bool true),
          .val (.slice xa 32 xc), .val (.int .i64 (32 : Nat)), .val (.bool true), .val (.bool true), .val (.bool true),
          .val (.slice xa 32 xc), .val (.string ⟨(hexL (sumS t)).toArray⟩), .val (.slice xa 32 xc), .val (.string ⟨(hexL (sumS t)).toArray⟩), .val (.bool true), .val (.bool true), .val (.bool true),
          .val vy, .val (.string ⟨(hexL t).toArray⟩), .val vy, .val (.string ⟨(hexL t).toArray⟩), .val (.bool true), .val (.bool true), .val (.bool true), .val (.bool true), .val (.bool true), .val (.bool true)])
          (by kernel_rfl) (by kernel_rfl) (by kernel_rfl) ?_ ?_
        · refine ⟨?_, ?_, ?_, ?_, ?_, ?_, ?_, ?_, ?_, ?_, ?_, ?_, ?_, ?_, ?_, ?_, ?_, ?_, ?_, ?_, ?_, ?_, ?_, ?_, ?_, ?_, ?_, ?_, ?_, trivial⟩ <;> intro a w hb hf hd
          · exact ⟨wanted_none rfl, loc_move rfl (hf.base 8 rfl)⟩
          · exact ⟨wanted_none rfl, loc_string rfl (by rw [show a.eval (.tmp 26) = .slice xa 32 xc from hd 0 rfl]; exact HX4.out.keep hb) rfl⟩
          · exact ⟨wanted_none rfl, loc_move rfl (hf.base 0 rfl)⟩
          · exact ⟨wanted_none rfl, loc_call rfl (by kernel_rfl) (refOf_v t _ w (by rw [show a.eval (.tmp 28) = vy from hd 2 rfl]; exact HY4.out.keep hb) (by omega))⟩
          · exact ⟨wanted_none rfl, loc_string rfl (hd 3 rfl) rfl⟩
          · exact ⟨wanted_none rfl, loc_eql_str rfl (hd 1 rfl) (hd 4 rfl) rfl⟩
          · exact ⟨wanted_none rfl, loc_move rfl (hd 5 rfl)⟩
          · exact ⟨wanted_true rfl rfl (hd 6 rfl), loc_move rfl (hf.base 8 rfl)⟩
          · exact ⟨wanted_true rfl rfl (hd 6 rfl), loc_len rfl (hd 7 rfl) rfl⟩
          · exact ⟨wanted_true rfl rfl (hd 6 rfl), loc_eql_int rfl (hd 8 rfl) rfl rfl⟩
          · exact ⟨wanted_none rfl, loc_pick rfl (hd 6 rfl) (hd 9 rfl)⟩
          · exact ⟨wanted_none rfl, loc_move rfl (hd 10 rfl)⟩
          · exact ⟨wanted_true rfl rfl (hd 11 rfl), loc_move rfl (hf.base 8 rfl)⟩
          · exact ⟨wanted_true rfl rfl (hd 11 rfl), loc_call rfl (by kernel_rfl) (text_v (sumS t) _ w (by rw [show a.eval (.tmp 38) = .slice xa 32 xc from hd 12 rfl]; exact HX4.out.keep hb) (by omega))⟩
          · exact ⟨wanted_true rfl rfl (hd 11 rfl), loc_move rfl (hf.base 8 rfl)⟩
          · exact ⟨wanted_true rfl rfl (hd 11 rfl), loc_call rfl (by kernel_rfl) (refText_v (sumS t) _ w (by rw [show a.eval (.tmp 40) = .slice xa 32 xc from hd 14 rfl]; exact HX4.out.keep hb) (by omega))⟩
          · exact ⟨wanted_true rfl rfl (hd 11 rfl), loc_eql_str rfl (hd 13 rfl) (hd 15 rfl) rfl⟩
          · exact ⟨wanted_none rfl, loc_pick rfl (hd 11 rfl) (hd 16 rfl)⟩
          · exact ⟨wanted_none rfl, loc_move rfl (hd 17 rfl)⟩
          · exact ⟨wanted_true rfl rfl (hd 18 rfl), loc_move rfl (hf.base 0 rfl)⟩
          · exact ⟨wanted_true rfl rfl (hd 18 rfl), loc_call rfl (by kernel_rfl) (text_v t _ w (by rw [show a.eval (.tmp 45) = vy from hd 19 rfl]; exact HY4.out.keep hb) (by omega))⟩
          · exact ⟨wanted_true rfl rfl (hd 18 rfl), loc_move rfl (hf.base 0 rfl)⟩
          · exact ⟨wanted_true rfl rfl (hd 18 rfl), loc_call rfl (by kernel_rfl) (refText_v t _ w (by rw [show a.eval (.tmp 47) = vy from hd 21 rfl]; exact HY4.out.keep hb) (by omega))⟩
          · exact ⟨wanted_true rfl rfl (hd 18 rfl), loc_eql_str rfl (hd 20 rfl) (hd 22 rfl) rfl⟩
          · exact ⟨wanted_none rfl, loc_pick rfl (hd 18 rfl) (hd 23 rfl)⟩
          · exact ⟨wanted_none rfl, loc_move rfl (hd 24 rfl)⟩
          · exact ⟨wanted_true rfl rfl (hd 25 rfl), loc_call rfl (by kernel_rfl) (awake_v w (HT4.out.keep hb))⟩
          · exact ⟨wanted_none rfl, loc_pick rfl (hd 25 rfl) (hd 26 rfl)⟩
          · exact ⟨wanted_none rfl, loc_assign rfl (hd 27 rfl)⟩
        · intro a w hb hf hh
          first
            | (refine hK a w ?_
               go_wp2_with fail
               exact local_ret rfl hf.defers (show a.eval (.tmp 6) = .bool true from hh 28 (by decide)) ⟨rfl, below_trans HW4.out hb⟩)
            | (trace_state; sorry)
end Go.Proofs.YtpgppninmnplkaaDoor
