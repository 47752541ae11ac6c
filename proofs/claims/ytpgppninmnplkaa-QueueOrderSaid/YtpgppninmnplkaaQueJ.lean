/- The law of New, Valid and Room. -/
import Derived.Test.YtpgppninmnplkaaQueI
namespace Go.Proofs.Ytpgppninmnplkaa
open Go.RowKit

section
variable {Q : Exit → Act → World → Prop} {a : Act} {w : World} {o : Oper} {s : Spec}
theorem loc_eql_bool {x y : Operand} {t : TypeId} (ho : o.op = .binOp .eql 4 x y t) {b : Bool} (hx : a.eval x = .bool b) (hy : a.eval y = .bool b) (hs : s.p (.bool true) w) :
    o.wp Try.prog a w (fun a' w' => ∃ v, a' = a.put o.dst v ∧ Below w.heap.size w w' ∧ s.p v w') Q :=
  loc_run (v := .bool true) (by
    unfold execOp
    simp only [ho, hx, hy]
    have he : (Op.equalIn Op.maxDepth 4 (.bool b) (.bool b)).run Try.prog w = .ok true w := by
      rw [show Op.maxDepth = 9999 + 1 from rfl]
      unfold Op.equalIn
      rw [Sem.run_bind, run_underlying Try.underlying4]
      cases b <;> rfl
    simp [eqGuard, binOp, Op.equal, he]) (Below.refl _ _) hs
end
theorem newZ_valid (m : Int) : validB (newZ m) 0 = true := by
  have h1 : 0 ≤ newZ m := by unfold newZ; omega
  have h2 : newZ m ≤ 1000000 := by unfold newZ; omega
  have h3 : ((0 : Nat) : Int) ≤ newZ m := by omega
  simp only [validB, h1, h2, h3, decide_true, Bool.and_self]

set_option maxRecDepth 100000 in
set_option maxHeartbeats 2000000 in
theorem queueNew_any (most z : Int) (ad : Option Addr) (n c : Nat) (w : World) (h0 : -9223372036854775808 ≤ most) (h1 : most ≤ 9223372036854775807) :
    Calls Try.prog 3 #[.int .i64 most, .agg #[.int .i64 z, .slice ad n c]] w fun e w' => e = .returned (.bool true) ∧ Below w.heap.size w w' := by
  go_enter Try.func3, Try.ntmps3
  go_wp2_with fail
  refine (new_lit most _ h0 h1).mono ?_
  rintro e w1 ⟨rfl, hb⟩
  have HB1 := Box.mk (below_trans (below_one _ _) hb)
  have HQ1 := Box.mk (QVar.keep (show QVar (w.alloc (.cells #[.int .i64 z, .slice ad n c] 24)) w.heap.size z ad n c from heap_alloc_new _ _) hb)
  clear hb
  generalize w.heap.size = g at HQ1 ⊢
  generalize hX : newZ most = X at *
  have HX := Box.mk hX
  clear hX
  go_wp2_with fail
  obtain ⟨W, hW⟩ : ∃ W, W = w1.alloc (.cells #[.int .i64 X, .slice none 0 0] 24) := ⟨_, rfl⟩
  have HBW := Box.mk (show Below w1.heap.size w1 W by rw [hW]; exact below_one _ _)
  have HXV := Box.mk (show QVar W w1.heap.size X none 0 0 by rw [hW]; exact heap_alloc_new _ _)
  have HQ2 := Box.mk (HQ1.out.keep HBW.out)
  have HB2 := Box.mk (below_trans HB1.out HBW.out)
  change Code.wp _ _ _ _ (w1.alloc (.cells #[.int .i64 X, .slice none 0 0] 24))
  rw [← hW]
  clear hW HBW HQ1 HB1
  generalize w1.heap.size = g1 at *
  rename_i K hK
  refine wp_region_local (S := [.val (.agg #[.int .i64 X, .slice none 0 0]), .val (.int .i64 most), .val (.agg #[.int .i64 X, .slice none 0 0]), .val (.bool true), .val (.bool true),
    .val (.agg #[.int .i64 X, .slice none 0 0]), .val (.bool true), .val (.bool true), .val (.bool true),
    .val (.agg #[.int .i64 z, .slice ad n c]), .val (.bool (validB z n)), .val (.agg #[.int .i64 z, .slice ad n c]), .val (.bool (validB z n)), .val (.bool true), .val (.bool true), .val (.bool true),
    .val (.agg #[.int .i64 z, .slice ad n c]), .val (.int .i64 (roomN z n)), .val (.agg #[.int .i64 z, .slice ad n c]), .val (.int .i64 (roomN z n)), .val (.bool true), .val (.bool true), .val (.bool true), .val (.bool true), .val (.bool true), .val (.bool true)])
    (by kernel_rfl) (by kernel_rfl) (by kernel_rfl) ?_ ?_
  · refine ⟨?_, ?_, ?_, ?_, ?_, ?_, ?_, ?_, ?_, ?_, ?_, ?_, ?_, ?_, ?_, ?_, ?_, ?_, ?_, ?_, ?_, ?_, ?_, ?_, ?_, ?_, trivial⟩ <;> intro a w hb hf hd
    · exact ⟨wanted_none rfl, loc_load_q rfl (hf.base 5 rfl) (HXV.out.keep hb) rfl⟩
    · exact ⟨wanted_none rfl, loc_move rfl (hf.base 0 rfl)⟩
    · refine ⟨wanted_none rfl, loc_call rfl (by kernel_rfl) ?_⟩
      show Calls _ _ #[a.eval (.tmp 9)] w _
      rw [show a.eval (.tmp 9) = .int .i64 most from hd 1 rfl]
      refine (refNew_lit most w h0 h1).mono ?_
      rintro e w' ⟨rfl, hb'⟩
      exact ⟨_, rfl, hb', by rw [HX.out]; rfl⟩
    · exact ⟨wanted_none rfl, loc_call rfl (by kernel_rfl) (same_k (z := X) (l := []) ⟨none, 0, hd 0 rfl, .inl ⟨rfl, rfl, rfl⟩⟩ ⟨none, 0, hd 2 rfl, .inl ⟨rfl, rfl, rfl⟩⟩)⟩
    · exact ⟨wanted_none rfl, loc_move rfl (hd 3 rfl)⟩
    · exact ⟨wanted_true rfl rfl (hd 4 rfl), loc_load_q rfl (hf.base 5 rfl) (HXV.out.keep hb) rfl⟩
    · refine ⟨wanted_true rfl rfl (hd 4 rfl), loc_call rfl (by kernel_rfl) ((valid_k (z := X) (l := []) ⟨none, 0, hd 5 rfl, .inl ⟨rfl, rfl, rfl⟩⟩).mono ?_)⟩
      rintro e w' ⟨v', he, hb', hv'⟩
      refine ⟨v', he, hb', ?_⟩
      rw [hv', show validB X ([] : List UInt8).length = true by rw [← HX.out]; exact newZ_valid most]; rfl
    · exact ⟨wanted_none rfl, loc_pick rfl (hd 4 rfl) (hd 6 rfl)⟩
    · exact ⟨wanted_none rfl, loc_move rfl (hd 7 rfl)⟩
    · exact ⟨wanted_true rfl rfl (hd 8 rfl), loc_load_q rfl (hf.base 3 rfl) (HQ2.out.keep hb) rfl⟩
    · refine ⟨wanted_true rfl rfl (hd 8 rfl), loc_call rfl (by kernel_rfl) ?_⟩
      show Calls _ _ #[a.eval (.tmp 17)] w _
      rw [show a.eval (.tmp 17) = .agg #[.int .i64 z, .slice ad n c] from hd 9 rfl]
      refine (valid_lit z ad n c w).mono ?_
      rintro e w' ⟨rfl, hb'⟩
      exact ⟨_, rfl, hb', rfl⟩
    · exact ⟨wanted_true rfl rfl (hd 8 rfl), loc_load_q rfl (hf.base 3 rfl) (HQ2.out.keep hb) rfl⟩
    · refine ⟨wanted_true rfl rfl (hd 8 rfl), loc_call rfl (by kernel_rfl) ?_⟩
      show Calls _ _ #[a.eval (.tmp 19)] w _
      rw [show a.eval (.tmp 19) = .agg #[.int .i64 z, .slice ad n c] from hd 11 rfl]
      refine (refValid_lit z ad n c w).mono ?_
      rintro e w' ⟨rfl, hb'⟩
      exact ⟨_, rfl, hb', rfl⟩
    · exact ⟨wanted_true rfl rfl (hd 8 rfl), loc_eql_bool rfl (hd 10 rfl) (hd 12 rfl) rfl⟩
    · exact ⟨wanted_none rfl, loc_pick rfl (hd 8 rfl) (hd 13 rfl)⟩
    · exact ⟨wanted_none rfl, loc_move rfl (hd 14 rfl)⟩
    · exact ⟨wanted_true rfl rfl (hd 15 rfl), loc_load_q rfl (hf.base 3 rfl) (HQ2.out.keep hb) rfl⟩
    · refine ⟨wanted_true rfl rfl (hd 15 rfl), loc_call rfl (by kernel_rfl) ?_⟩
      show Calls _ _ #[a.eval (.tmp 24)] w _
      rw [show a.eval (.tmp 24) = .agg #[.int .i64 z, .slice ad n c] from hd 16 rfl]
      refine (room_lit z ad n c w).mono ?_
      rintro e w' ⟨rfl, hb'⟩
      exact ⟨_, rfl, hb', rfl⟩
    · exact ⟨wanted_true rfl rfl (hd 15 rfl), loc_load_q rfl (hf.base 3 rfl) (HQ2.out.keep hb) rfl⟩
    · refine ⟨wanted_true rfl rfl (hd 15 rfl), loc_call rfl (by kernel_rfl) ?_⟩
      show Calls _ _ #[a.eval (.tmp 26)] w _
      rw [show a.eval (.tmp 26) = .agg #[.int .i64 z, .slice ad n c] from hd 18 rfl]
      refine (refRoom_lit z ad n c w).mono ?_
      rintro e w' ⟨rfl, hb'⟩
      exact ⟨_, rfl, hb', rfl⟩
    · exact ⟨wanted_true rfl rfl (hd 15 rfl), loc_eql_int rfl (hd 17 rfl) (hd 19 rfl) rfl⟩
    · exact ⟨wanted_none rfl, loc_pick rfl (hd 15 rfl) (hd 20 rfl)⟩
    · exact ⟨wanted_none rfl, loc_move rfl (hd 21 rfl)⟩
    · exact ⟨wanted_true rfl rfl (hd 22 rfl), loc_call rfl (by kernel_rfl) (awake_k w)⟩
    · exact ⟨wanted_none rfl, loc_pick rfl (hd 22 rfl) (hd 23 rfl)⟩
    · exact ⟨wanted_none rfl, loc_assign rfl (hd 24 rfl)⟩
  · intro a w hb hf hh
    refine hK a w ?_
    go_wp2_with fail
    exact local_ret rfl hf.defers (show a.eval (.tmp 4) = .bool true from hh 25 (by decide)) ⟨rfl, below_trans HB2.out hb⟩
end Go.Proofs.Ytpgppninmnplkaa
