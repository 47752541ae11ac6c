/- The law that queues are independent of each other. -/
import Derived.Test.YtpgppninmnplkaaQueK
namespace Go.Proofs.Ytpgppninmnplkaa
open Go.RowKit

section
variable {Q : Exit → Act → World → Prop} {a : Act} {w : World} {o : Oper} {s : Spec}
theorem cat_bytes (X Y : List UInt8) : (⟨X.toArray⟩ : ByteArray) ++ ⟨Y.toArray⟩ = ⟨(X ++ Y).toArray⟩ := by
  apply ByteArray.ext; rw [ByteArray.data_append]; simp
theorem loc_add_str {x y : Operand} {t : TypeId} (ho : o.op = .binOp .add 9 x y t) {X Y : List UInt8} (hx : a.eval x = .string ⟨X.toArray⟩) (hy : a.eval y = .string ⟨Y.toArray⟩) (hn : X.length + Y.length ≤ 1000000) (hs : s.p (.string ⟨(X ++ Y).toArray⟩) w) :
    o.wp Try.prog a w (fun a' w' => ∃ v, a' = a.put o.dst v ∧ Below w.heap.size w w' ∧ s.p v w') Q :=
  loc_run (v := .string ⟨(X ++ Y).toArray⟩) (by
    have h := run_string_add_sum (P := Try.prog) (w := w) ⟨X.toArray⟩ ⟨Y.toArray⟩ (by show (X.toArray).size + (Y.toArray).size ≤ _; simp; omega)
    rw [cat_bytes] at h
    unfold execOp
    simp [ho, hx, hy, eqGuard, binOp, h, Result.andThen]) (Below.refl _ _) hs
end
theorem put_one {z : Nat} {l B : List UInt8} {v : Value} {w : World} {a : Option Addr} {c : Nat} (hv : QAt w v z l) (hu : SlcV w (.slice a 1 c) [B]) (hz : z ≤ 1000000) (hn : l.length + B.length ≤ z) :
    Calls Try.prog 17 #[v, .slice a 1 c] w fun e w' => ∃ d f, e = .returned (.tuple #[.agg #[.int .i64 z, .slice d (l ++ B).length f], .int .i64 B.length]) ∧ Below w.heap.size w w' ∧ IsBytes w' d (l ++ B) f :=
  put_k hv hu (show 1 ≤ 2 by decide) (by omega) (by unfold putL; rw [roomN_of hz (by omega)]; simp; omega) (by simp)
theorem slc_one {w : World} {a : Option Addr} {l : List UInt8} {c : Nat} (h : IsBytes w a l c) {W : World} (hW : W = w.alloc (.cells #[.slice a l.length c] 22)) : SlcV W (.slice (some ⟨w.heap.size, 0, none⟩) 1 1) [l] := by
  subst hW
  exact ⟨_, 1, rfl, slcIn_build1 h _ _⟩

set_option maxRecDepth 100000 in
set_option maxHeartbeats 4000000 in
theorem queueApart_any (la lb lc : List UInt8) (aa ab ac : Option Addr) (ca cb cc : Nat) (w : World) (ha : IsBytes w aa la ca) (hb : IsBytes w ab lb cb) (hc : IsBytes w ac lc cc) :
    Calls Try.prog 7 #[.slice aa la.length ca, .slice ab lb.length cb, .slice ac lc.length cc] w fun e w' => e = .returned (.bool true) ∧ Below w.heap.size w w' := by
  have HA := Box.mk ha
  have HB := Box.mk hb
  have HC := Box.mk hc
  clear ha hb hc
  go_enter Try.func7, Try.ntmps7
  go_wp2_with fail
  refine (shortQ la aa ca 60 w HA.out (by decide)).mono ?_
  rintro e w1 ⟨a1, rfl, h, rfl⟩
  have HA1 := Box.mk h
  have hal : (la.take 60).length ≤ 60 := by rw [List.length_take]; omega
  clear h HA
  generalize la.take 60 = A at *
  go_wp2_with fail
  refine (shortQ lb ab cb 60 w HB.out (by decide)).mono ?_
  rintro e w1 ⟨b1, rfl, h, rfl⟩
  have HB1 := Box.mk h
  have hbl : (lb.take 60).length ≤ 60 := by rw [List.length_take]; omega
  clear h HB
  generalize lb.take 60 = B at *
  go_wp2_with fail
  refine (shortQ lc ac cc 60 w HC.out (by decide)).mono ?_
  rintro e w1 ⟨c1, rfl, h, rfl⟩
  have HC1 := Box.mk h
  have hcl : (lc.take 60).length ≤ 60 := by rw [List.length_take]; omega
  clear h HC
  generalize lc.take 60 = C at *
  go_wp2_with fail
  refine (new_k w 200 (by decide)).mono ?_
  rintro e w1 ⟨rfl, hb⟩
  have HW1 := Box.mk hb
  have HA2 := Box.mk (HA1.out.keep hb)
  clear hb
  go_wp2_with fail
  obtain ⟨W, hW⟩ : ∃ W, W = w1.alloc (.cells #[.slice aa A.length a1] 22) := ⟨_, rfl⟩
  have HSL := Box.mk (slc_one HA2.out hW)
  have HW2 := Box.mk (show Below w.heap.size w W by rw [hW]; exact below_oneQ HW1.out _)
  change Calls _ _ _ (w1.alloc (.cells #[.slice aa A.length a1] 22)) _
  rw [← hW]
  clear hW HW1 HA2
  refine (put_one (z := 200) (l := []) (B := A) ⟨none, 0, rfl, .inl ⟨rfl, rfl, rfl⟩⟩ HSL.out (by decide) (by rw [List.length_nil]; omega)).mono ?_
  rintro e w3 ⟨d, f, rfl, hb, hby⟩
  rw [List.nil_append] at hby ⊢
  have HW3 := Box.mk (below_trans HW2.out hb)
  have HD := Box.mk hby
  clear hb hby HW2 HSL
  have HAL := Box.mk (below_one w3 (.cells #[.int .i64 200, .slice d A.length f] 24))
  have HQ0 := Box.mk (show QVar (w3.alloc (.cells #[.int .i64 200, .slice d A.length f] 24)) w3.heap.size 200 d A.length f from heap_alloc_new _ _)
  obtain ⟨U, hU⟩ : ∃ U, U = w3.alloc (.cells #[.int .i64 200, .slice d A.length f] 24) := ⟨_, rfl⟩
  have hUs : U.heap.size = w3.heap.size + 1 := by rw [hU]; simp
  rw [← hU] at HAL HQ0
  go_wp2_with fail
  change Calls _ _ _ ((w3.alloc (.cells #[.int .i64 200, .slice d A.length f] 24)).alloc (.cells #[.slice ab B.length b1] 22)) _
  rw [← hU]
  clear hU
  have HWU := Box.mk (below_trans HW3.out HAL.out)
  have HDU := Box.mk (HD.out.keep HAL.out)
  generalize w3.heap.size = g at *
  clear HAL HW3 HD
  obtain ⟨W, hW⟩ : ∃ W, W = U.alloc (.cells #[.slice ab B.length b1] 22) := ⟨_, rfl⟩
  have HSL : Box (SlcV W (.slice (some ⟨g + 1, 0, none⟩) 1 1) [B]) := ⟨by rw [← hUs]; exact slc_one (HB1.out.keep HWU.out) hW⟩
  have HBW := Box.mk (show Below U.heap.size U W by rw [hW]; exact below_one _ _)
  rw [← hW]
  clear hW hUs
  refine (put_one (z := 200) (l := A) (B := B) ⟨d, f, rfl, HDU.out.keep HBW.out⟩ HSL.out (by decide) (by omega)).mono ?_
  rintro e w4 ⟨d4, f4, rfl, hb, hby⟩
  have HW4 := Box.mk (below_trans (below_trans HWU.out HBW.out) hb)
  have HD4 := Box.mk hby
  have HQ4 := Box.mk ((HQ0.out.keep HBW.out).keep hb)
  have HDA := Box.mk ((HDU.out.keep HBW.out).keep hb)
  clear hb hby HSL HBW HWU HDU HQ0
  obtain ⟨X, HX⟩ : ∃ X, Box (X = A ++ B) := ⟨_, ⟨rfl⟩⟩
  rw [← HX.out] at HD4 ⊢
  have HAL := Box.mk (below_one w4 (.cells #[.int .i64 200, .slice d4 X.length f4] 24))
  have HX0 := Box.mk (show QVar (w4.alloc (.cells #[.int .i64 200, .slice d4 X.length f4] 24)) w4.heap.size 200 d4 X.length f4 from heap_alloc_new _ _)
  obtain ⟨U4, hU⟩ : ∃ U, U = w4.alloc (.cells #[.int .i64 200, .slice d4 X.length f4] 24) := ⟨_, rfl⟩
  have hUs : U4.heap.size = w4.heap.size + 1 := by rw [hU]; simp
  have HQ4' := Box.mk (show QVar (w4.alloc (.cells #[.int .i64 200, .slice d4 X.length f4] 24)) g 200 d A.length f from HQ4.out.keep HAL.out)
  go_wp2_with (refine wpList_load_row rfl 24 _ rfl g rfl 24 _ (0, 0) _ HQ4'.out Try.underlying24 rfl sizeQ ?_)
  change Calls _ _ _ ((w4.alloc (.cells #[.int .i64 200, .slice d4 X.length f4] 24)).alloc (.cells #[.slice ac C.length c1] 22)) _
  rw [← hU] at HAL HX0 HQ4' ⊢
  clear hU
  have HWU := Box.mk (below_trans HW4.out HAL.out)
  have HDU := Box.mk (HD4.out.keep HAL.out)
  have HDB := Box.mk (HDA.out.keep HAL.out)
  generalize w4.heap.size = g4 at *
  clear HAL HW4 HD4 HDA HQ4
  obtain ⟨W, hW⟩ : ∃ W, W = U4.alloc (.cells #[.slice ac C.length c1] 22) := ⟨_, rfl⟩
  have HSL : Box (SlcV W (.slice (some ⟨g4 + 1, 0, none⟩) 1 1) [C]) := ⟨by rw [← hUs]; exact slc_one (HC1.out.keep HWU.out) hW⟩
  have HBW := Box.mk (show Below U4.heap.size U4 W by rw [hW]; exact below_one _ _)
  rw [← hW]
  clear hW hUs
  refine (put_one (z := 200) (l := A) (B := C) ⟨d, f, rfl, HDB.out.keep HBW.out⟩ HSL.out (by decide) (by omega)).mono ?_
  rintro e w5 ⟨d5, f5, rfl, hb, hby⟩
  have HW5 := Box.mk (below_trans (below_trans HWU.out HBW.out) hb)
  have HD5 := Box.mk hby
  have HQ5 := Box.mk ((HQ4'.out.keep HBW.out).keep hb)
  have HX5 := Box.mk ((HX0.out.keep HBW.out).keep hb)
  have HDX := Box.mk ((HDU.out.keep HBW.out).keep hb)
  have HDA := Box.mk ((HDB.out.keep HBW.out).keep hb)
  clear hb hby HSL HBW HWU HDU HDB HQ4' HX0
  obtain ⟨Y, HY⟩ : ∃ Y, Box (Y = A ++ C) := ⟨_, ⟨rfl⟩⟩
  rw [← HY.out] at HD5 ⊢
  go_wp2_with fail
  obtain ⟨W, hW⟩ : ∃ W, W = w5.alloc (.cells #[.int .i64 200, .slice d5 Y.length f5] 24) := ⟨_, rfl⟩
  have HAL := Box.mk (show Below w5.heap.size w5 W by rw [hW]; exact below_one _ _)
  have HY6 := Box.mk (show QVar W w5.heap.size 200 d5 Y.length f5 by rw [hW]; exact heap_alloc_new _ _)
  have HQ6 := Box.mk (HQ5.out.keep HAL.out)
  have HX6 := Box.mk (HX5.out.keep HAL.out)
  have HW6 := Box.mk (below_trans HW5.out HAL.out)
  have HDX6 := Box.mk (HDX.out.keep HAL.out)
  have HDY6 := Box.mk (HD5.out.keep HAL.out)
  have HDA6 := Box.mk (HDA.out.keep HAL.out)
  have HA6 := Box.mk (HA1.out.keep HW6.out)
  have HB6 := Box.mk (HB1.out.keep HW6.out)
  have HC6 := Box.mk (HC1.out.keep HW6.out)
  change Code.wp _ _ _ _ (w5.alloc (.cells #[.int .i64 200, .slice d5 Y.length f5] 24))
  rw [← hW]
  clear hW HAL HQ5 HX5 HW5 HDX HD5 HDA HA1 HB1 HC1
  generalize w5.heap.size = g5 at *
  have HXL := Box.mk (show X.length ≤ 120 by rw [HX.out, List.length_append]; omega)
  have HYL := Box.mk (show Y.length ≤ 120 by rw [HY.out, List.length_append]; omega)
  rename_i K hK
  refine wp_region_local (S := [.val (.agg #[.int .i64 200, .slice d4 X.length f4]), .bytesL X, .val (.string ⟨X.toArray⟩), .val (.slice aa A.length a1), .val (.string ⟨A.toArray⟩), .val (.slice ab B.length b1), .val (.string ⟨B.toArray⟩), .val (.string ⟨(A ++ B).toArray⟩), .val (.bool true), .val (.bool true), .val (.agg #[.int .i64 200, .slice d5 Y.length f5]), .bytesL Y, .val (.string ⟨Y.toArray⟩), .val (.slice aa A.length a1), .val (.string ⟨A.toArray⟩), .val (.slice ac C.length c1), .val (.string ⟨C.toArray⟩), .val (.string ⟨(A ++ C).toArray⟩), .val (.bool true), .val (.bool true), .val (.bool true), .val (.agg #[.int .i64 200, .slice d A.length f]), .bytesL A, .val (.string ⟨A.toArray⟩), .val (.slice aa A.length a1), .val (.string ⟨A.toArray⟩), .val (.bool true), .val (.bool true), .val (.bool true), .val (.bool true), .val (.bool true), .val (.bool true)])
    (by kernel_rfl) (by kernel_rfl) (by kernel_rfl) ?_ ?_
  · refine ⟨?_, ?_, ?_, ?_, ?_, ?_, ?_, ?_, ?_, ?_, ?_, ?_, ?_, ?_, ?_, ?_, ?_, ?_, ?_, ?_, ?_, ?_, ?_, ?_, ?_, ?_, ?_, ?_, ?_, ?_, ?_, ?_, trivial⟩ <;> intro a w hb hf hd
    · exact ⟨wanted_none rfl, loc_load_q rfl (hf.base 9 rfl) (HX6.out.keep hb) rfl⟩
    · exact ⟨wanted_none rfl, loc_call rfl (by kernel_rfl) (peek_k (z := 200) (n := 200) (l := X) (k := X.length) (F := X) ⟨d4, f4, hd 0 rfl, HDX6.out.keep hb⟩ ((peekN_of (z := 200) (k := 200) (by decide) (by have := HXL.out; omega)).trans (by have := HXL.out; omega)) List.take_length)⟩
    · exact ⟨wanted_none rfl, loc_string rfl (hd 1 rfl) rfl⟩
    · exact ⟨wanted_none rfl, loc_move rfl (hf.base 0 rfl)⟩
    · exact ⟨wanted_none rfl, loc_string rfl (by rw [show a.eval (.tmp 43) = .slice aa A.length a1 from hd 3 rfl]; exact ⟨aa, a1, rfl, HA6.out.keep hb⟩) rfl⟩
    · exact ⟨wanted_none rfl, loc_move rfl (hf.base 1 rfl)⟩
    · exact ⟨wanted_none rfl, loc_string rfl (by rw [show a.eval (.tmp 45) = .slice ab B.length b1 from hd 5 rfl]; exact ⟨ab, b1, rfl, HB6.out.keep hb⟩) rfl⟩
    · exact ⟨wanted_none rfl, loc_add_str rfl (hd 4 rfl) (hd 6 rfl) (by omega) rfl⟩
    · exact ⟨wanted_none rfl, loc_eql_str rfl (hd 2 rfl) (by rw [HX.out]; exact hd 7 rfl) rfl⟩
    · exact ⟨wanted_none rfl, loc_move rfl (hd 8 rfl)⟩
    · exact ⟨wanted_true rfl rfl (hd 9 rfl), loc_load_q rfl (hf.base 11 rfl) (HY6.out.keep hb) rfl⟩
    · exact ⟨wanted_true rfl rfl (hd 9 rfl), loc_call rfl (by kernel_rfl) (peek_k (z := 200) (n := 200) (l := Y) (k := Y.length) (F := Y) ⟨d5, f5, hd 10 rfl, HDY6.out.keep hb⟩ ((peekN_of (z := 200) (k := 200) (by decide) (by have := HYL.out; omega)).trans (by have := HYL.out; omega)) List.take_length)⟩
    · exact ⟨wanted_true rfl rfl (hd 9 rfl), loc_string rfl (hd 11 rfl) rfl⟩
    · exact ⟨wanted_true rfl rfl (hd 9 rfl), loc_move rfl (hf.base 0 rfl)⟩
    · exact ⟨wanted_true rfl rfl (hd 9 rfl), loc_string rfl (by rw [show a.eval (.tmp 53) = .slice aa A.length a1 from hd 13 rfl]; exact ⟨aa, a1, rfl, HA6.out.keep hb⟩) rfl⟩
    · exact ⟨wanted_true rfl rfl (hd 9 rfl), loc_move rfl (hf.base 2 rfl)⟩
    · exact ⟨wanted_true rfl rfl (hd 9 rfl), loc_string rfl (by rw [show a.eval (.tmp 55) = .slice ac C.length c1 from hd 15 rfl]; exact ⟨ac, c1, rfl, HC6.out.keep hb⟩) rfl⟩
    · exact ⟨wanted_true rfl rfl (hd 9 rfl), loc_add_str rfl (hd 14 rfl) (hd 16 rfl) (by omega) rfl⟩
    · exact ⟨wanted_true rfl rfl (hd 9 rfl), loc_eql_str rfl (hd 12 rfl) (by rw [HY.out]; exact hd 17 rfl) rfl⟩
    · exact ⟨wanted_none rfl, loc_pick rfl (hd 9 rfl) (hd 18 rfl)⟩
    · exact ⟨wanted_none rfl, loc_move rfl (hd 19 rfl)⟩
    · exact ⟨wanted_true rfl rfl (hd 20 rfl), loc_load_q rfl (hf.base 7 rfl) (HQ6.out.keep hb) rfl⟩
    · exact ⟨wanted_true rfl rfl (hd 20 rfl), loc_call rfl (by kernel_rfl) (peek_k (z := 200) (n := 200) (l := A) (k := A.length) (F := A) ⟨d, f, hd 21 rfl, HDA6.out.keep hb⟩ ((peekN_of (z := 200) (k := 200) (by decide) (by omega)).trans (by omega)) List.take_length)⟩
    · exact ⟨wanted_true rfl rfl (hd 20 rfl), loc_string rfl (hd 22 rfl) rfl⟩
    · exact ⟨wanted_true rfl rfl (hd 20 rfl), loc_move rfl (hf.base 0 rfl)⟩
    · exact ⟨wanted_true rfl rfl (hd 20 rfl), loc_string rfl (by rw [show a.eval (.tmp 64) = .slice aa A.length a1 from hd 24 rfl]; exact ⟨aa, a1, rfl, HA6.out.keep hb⟩) rfl⟩
    · exact ⟨wanted_true rfl rfl (hd 20 rfl), loc_eql_str rfl (hd 23 rfl) (hd 25 rfl) rfl⟩
    · exact ⟨wanted_none rfl, loc_pick rfl (hd 20 rfl) (hd 26 rfl)⟩
    · exact ⟨wanted_none rfl, loc_move rfl (hd 27 rfl)⟩
    · exact ⟨wanted_true rfl rfl (hd 28 rfl), loc_call rfl (by kernel_rfl) (awake_k w)⟩
    · exact ⟨wanted_none rfl, loc_pick rfl (hd 28 rfl) (hd 29 rfl)⟩
    · exact ⟨wanted_none rfl, loc_assign rfl (hd 30 rfl)⟩
  · intro a w hb hf hh
    refine hK a w ?_
    go_wp2_with fail
    exact local_ret rfl hf.defers (show a.eval (.tmp 6) = .bool true from hh 31 (by decide)) ⟨rfl, below_trans HW6.out hb⟩
end Go.Proofs.Ytpgppninmnplkaa
