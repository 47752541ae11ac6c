/- The law that two states are independent of each other. -/
import Derived.Test.YtpgppninmnplkaaDoorDigW
namespace Go.Proofs.YtpgppninmnplkaaDoor
open Go.RowKit

set_option maxRecDepth 100000 in
set_option maxHeartbeats 2000000 in
theorem digestStates_any (la lb lc : List UInt8) (a b c : Option Addr) (ca cb cc : Nat) (w : World) (ha : IsBytes w a la ca) (hb : IsBytes w b lb cb) (hc : IsBytes w c lc cc) (ht : DTabs w) :
    Calls Tryd.prog 7 #[.slice a la.length ca, .slice b lb.length cb, .slice c lc.length cc] w fun e w' => e = .returned (.bool true) ∧ Below w.heap.size w w' := by
  obtain ⟨va, hva⟩ : ∃ va, va = Value.slice a la.length ca := ⟨_, rfl⟩
  obtain ⟨vb, hvb⟩ : ∃ vb, vb = Value.slice b lb.length cb := ⟨_, rfl⟩
  obtain ⟨vc, hvc⟩ : ∃ vc, vc = Value.slice c lc.length cc := ⟨_, rfl⟩
  rw [← hva, ← hvb, ← hvc]
  have HA : Box (BytesV w va la) := ⟨a, ca, hva, ha⟩
  have HB : Box (BytesV w vb lb) := ⟨b, cb, hvb, hb⟩
  have HC : Box (BytesV w vc lc) := ⟨c, cc, hvc, hc⟩
  have HT := Box.mk ht
  clear ha hb hc ht hva hvb hvc
  go_enter Tryd.func7, Tryd.ntmps7
  go_wp2_with fail
  refine (short_v la va 90 w HA.out (by decide)).mono ?_
  rintro e w1 ⟨a1, rfl, rfl, h⟩
  have HA1 := Box.mk h
  have hal : (la.take 90).length ≤ 90 := by rw [List.length_take]; omega
  clear h HA
  go_wp2_with fail
  refine (short_v lb vb 90 w HB.out (by decide)).mono ?_
  rintro e w1 ⟨b1, rfl, rfl, h⟩
  have HB1 := Box.mk h
  have hbl : (lb.take 90).length ≤ 90 := by rw [List.length_take]; omega
  clear h HB
  go_wp2_with fail
  refine (short_v lc vc 90 w HC.out (by decide)).mono ?_
  rintro e w1 ⟨c1, rfl, rfl, h⟩
  have HC1 := Box.mk h
  have hcl : (lc.take 90).length ≤ 90 := by rw [List.length_take]; omega
  clear h HC
  generalize la.take 90 = A at *
  generalize lb.take 90 = B at *
  generalize lc.take 90 = C at *
  go_wp2_with fail
  refine (start_v w HT.out).mono ?_
  rintro e w1 ⟨v1, rfl, h1, h2⟩
  have HW1 := Box.mk h1
  have HD1 := Box.mk h2
  clear h1 h2
  go_wp2_with fail
  refine (write_n [] A v1 a1 w1 HD1.out (HA1.out.keep HW1.out) (by rw [List.length_nil]; omega) (HT.out.keep HW1.out)).mono ?_
  rintro e w2 ⟨cs, rfl, h⟩
  have HN := Box.mk h
  have HW2 := Box.mk (below_trans HW1.out h.below)
  clear h HD1
  go_wp2_with (first
    | (refine wpList_store_row rfl 34 _ _ rfl w2.heap.size cs rfl rfl 34 dzero (heap_alloc_new _ _) (size_row HN.out.size) HN.out.size.symm HN.out.one ?_)
    | (refine wpList_load_row rfl 34 _ rfl w2.heap.size rfl 34 cs (0, 0) _ (setRow_heap _ _ _ _ _ _ (heap_alloc_new _ (.cells dzero 34))) Tryd.underlying34 rfl (size_row HN.out.size) ?_))
  obtain ⟨W, hW⟩ : ∃ W, W = (w2.alloc (.cells dzero 34)).setRow w2.heap.size cs := ⟨_, rfl⟩
  have hnew := digVar_new HN.out hW
  change Calls _ _ _ ((w2.alloc (.cells dzero 34)).setRow w2.heap.size cs) _
  rw [← hW]
  have HV : Box (DigVar W w2.heap.size A) := ⟨hnew.1⟩
  have HW3 := Box.mk (below_trans HW2.out hnew.2)
  have HDW : Box (DigAt W (.agg cs) A) := ⟨HN.out.at'.keep hnew.2⟩
  clear hW hnew HN
  generalize w2.heap.size = g at *
  refine (write_n A B (.agg cs) b1 W HDW.out (HB1.out.keep HW3.out) (by omega) (HT.out.keep HW3.out)).mono ?_
  rintro e w4 ⟨cs4, rfl, h⟩
  have HN := Box.mk h
  have HW4 := Box.mk (below_trans HW3.out h.below)
  have HV4 := Box.mk (HV.out.keep h.below)
  clear h HDW HV
  have hbl4 : Box (Below w4.heap.size w4 ((w4.alloc (.cells dzero 34)).setRow w4.heap.size cs4)) := ⟨(digVar_new HN.out rfl).2⟩
  obtain ⟨cs', hc1, hc2, hc3⟩ := HV4.out.keep hbl4.out
  have HC4 := Box.mk (And.intro hc1 (And.intro (size_row hc2) hc3))
  clear hc1 hc2 hc3
  go_wp2_with (first
    | (refine wpList_store_row rfl 34 _ _ rfl w4.heap.size cs4 rfl rfl 34 dzero (heap_alloc_new _ _) (size_row HN.out.size) HN.out.size.symm HN.out.one ?_)
    | (refine wpList_load_row rfl 34 _ rfl g rfl 34 cs' (0, 0) _ HC4.out.1 Tryd.underlying34 rfl HC4.out.2.1 ?_))
  obtain ⟨W5, hW⟩ : ∃ W, W = (w4.alloc (.cells dzero 34)).setRow w4.heap.size cs4 := ⟨_, rfl⟩
  have hnew := digVar_new HN.out hW
  change Calls _ _ _ ((w4.alloc (.cells dzero 34)).setRow w4.heap.size cs4) _
  rw [← hW] at hbl4 HC4 ⊢
  have HX : Box (DigVar W5 w4.heap.size (A ++ B)) := ⟨hnew.1⟩
  have HW5 := Box.mk (below_trans HW4.out hnew.2)
  clear hW hnew HN hbl4
  generalize w4.heap.size = g4 at *
  refine (write_n A C (.agg cs') c1 W5 HC4.out.2.2 (HC1.out.keep HW5.out) (by omega) (HT.out.keep HW5.out)).mono ?_
  rintro e w6 ⟨cs6, rfl, h⟩
  have HN := Box.mk h
  have HW6 := Box.mk (below_trans HW5.out h.below)
  have HX6 := Box.mk (HX.out.keep h.below)
  clear h HC4 HX
  go_wp2_with (refine wpList_store_row rfl 34 _ _ rfl w6.heap.size cs6 rfl rfl 34 dzero (heap_alloc_new _ _) (size_row HN.out.size) HN.out.size.symm HN.out.one ?_)
  obtain ⟨W7, hW⟩ : ∃ W, W = (w6.alloc (.cells dzero 34)).setRow w6.heap.size cs6 := ⟨_, rfl⟩
  have hnew := digVar_new HN.out hW
  change Code.wp _ _ _ _ ((w6.alloc (.cells dzero 34)).setRow w6.heap.size cs6)
  rw [← hW]
  have HY7 : Box (DigVar W7 w6.heap.size (A ++ C)) := ⟨hnew.1⟩
  have HX7 := Box.mk (HX6.out.keep hnew.2)
  have HW7 := Box.mk (below_trans HW6.out hnew.2)
  have HA7 := Box.mk (HA1.out.keep HW7.out)
  have HB7 := Box.mk (HB1.out.keep HW7.out)
  have HC7 := Box.mk (HC1.out.keep HW7.out)
  have HT7 := Box.mk (HT.out.keep HW7.out)
  clear hW hnew HN HX6 HA1 HB1 HC1 HV4
  generalize w6.heap.size = g6 at *
  rename_i K hK
  refine wp_region_local (S := [.dig (A ++ B), .bytes (sumS (A ++ B)), .val (.string ⟨(sumS (A ++ B)).toArray⟩), .val a1, .val b1, .slc [A, B], .bytes (sumS (A ++ B)), .val (.string ⟨(sumS (A ++ B)).toArray⟩), .val (.bool true), .val (.bool true),
    .dig (A ++ C), .bytes (sumS (A ++ C)), .val (.string ⟨(sumS (A ++ C)).toArray⟩), .val a1, .val c1, .slc [A, C], .bytes (sumS (A ++ C)), .val (.string ⟨(sumS (A ++ C)).toArray⟩), .val (.bool true), .val (.bool true), .val (.bool true), .val (.bool true), .val (.bool true), .val (.bool true)])
    (by kernel_rfl) (by kernel_rfl) (by kernel_rfl) ?_ ?_
  · refine ⟨?_, ?_, ?_, ?_, ?_, ?_, ?_, ?_, ?_, ?_, ?_, ?_, ?_, ?_, ?_, ?_, ?_, ?_, ?_, ?_, ?_, ?_, ?_, ?_, trivial⟩ <;> intro a w hb hf hd
    · exact ⟨wanted_none rfl, loc_dig rfl (hf.base 8 rfl) (HX7.out.keep hb) fun v h => h⟩
    · exact ⟨wanted_none rfl, loc_call rfl (by kernel_rfl) (sum_v (A ++ B) _ w (hd 0 rfl) (by rw [List.length_append]; omega) (HT7.out.keep hb))⟩
    · exact ⟨wanted_none rfl, loc_string rfl (hd 1 rfl) rfl⟩
    · exact ⟨wanted_none rfl, loc_move rfl (hf.base 0 rfl)⟩
    · exact ⟨wanted_none rfl, loc_move rfl (hf.base 1 rfl)⟩
    · exact ⟨wanted_none rfl, loc_slices2 rfl (by rw [show a.eval (.tmp 28) = a1 from hd 3 rfl]; exact HA7.out.keep hb) (by rw [show a.eval (.tmp 29) = b1 from hd 4 rfl]; exact HB7.out.keep hb) fun v w' h => h⟩
    · exact ⟨wanted_none rfl, loc_call rfl (by kernel_rfl) (of_v [A, B] (A ++ B) _ w (hd 5 rfl) (Nat.le_refl _) (by simp) (by rw [List.length_append]; omega) (HT7.out.keep hb))⟩
    · exact ⟨wanted_none rfl, loc_string rfl (hd 6 rfl) rfl⟩
    · exact ⟨wanted_none rfl, loc_eql_str rfl (hd 2 rfl) (hd 7 rfl) rfl⟩
    · exact ⟨wanted_none rfl, loc_move rfl (hd 8 rfl)⟩
    · exact ⟨wanted_true rfl rfl (hd 9 rfl), loc_dig rfl (hf.base 9 rfl) (HY7.out.keep hb) fun v h => h⟩
    · exact ⟨wanted_true rfl rfl (hd 9 rfl), loc_call rfl (by kernel_rfl) (sum_v (A ++ C) _ w (hd 10 rfl) (by rw [List.length_append]; omega) (HT7.out.keep hb))⟩
    · exact ⟨wanted_true rfl rfl (hd 9 rfl), loc_string rfl (hd 11 rfl) rfl⟩
    · exact ⟨wanted_true rfl rfl (hd 9 rfl), loc_move rfl (hf.base 0 rfl)⟩
    · exact ⟨wanted_true rfl rfl (hd 9 rfl), loc_move rfl (hf.base 2 rfl)⟩
    · exact ⟨wanted_true rfl rfl (hd 9 rfl), loc_slices2 rfl (by rw [show a.eval (.tmp 38) = a1 from hd 13 rfl]; exact HA7.out.keep hb) (by rw [show a.eval (.tmp 39) = c1 from hd 14 rfl]; exact HC7.out.keep hb) fun v w' h => h⟩
    · exact ⟨wanted_true rfl rfl (hd 9 rfl), loc_call rfl (by kernel_rfl) (of_v [A, C] (A ++ C) _ w (hd 15 rfl) (Nat.le_refl _) (by simp) (by rw [List.length_append]; omega) (HT7.out.keep hb))⟩
    · exact ⟨wanted_true rfl rfl (hd 9 rfl), loc_string rfl (hd 16 rfl) rfl⟩
    · exact ⟨wanted_true rfl rfl (hd 9 rfl), loc_eql_str rfl (hd 12 rfl) (hd 17 rfl) rfl⟩
    · exact ⟨wanted_none rfl, loc_pick rfl (hd 9 rfl) (hd 18 rfl)⟩
    · exact ⟨wanted_none rfl, loc_move rfl (hd 19 rfl)⟩
    · exact ⟨wanted_true rfl rfl (hd 20 rfl), loc_call rfl (by kernel_rfl) (awake_v w (HT7.out.keep hb))⟩
    · exact ⟨wanted_none rfl, loc_pick rfl (hd 20 rfl) (hd 21 rfl)⟩
    · exact ⟨wanted_none rfl, loc_assign rfl (hd 22 rfl)⟩
  · intro a w hb hf hh
    refine hK a w ?_
    go_wp2_with fail
    exact local_ret rfl hf.defers (show a.eval (.tmp 6) = .bool true from hh 23 (by decide)) ⟨rfl, below_trans HW7.out hb⟩
end Go.Proofs.YtpgppninmnplkaaDoor
