/- The law of Put, Take and Peek. -/
import Derived.Test.YtpgppninmnplkaaQueM
namespace Go.Proofs.Ytpgppninmnplkaa
open Go.RowKit

theorem loc_add_int {Q : Exit → Act → World → Prop} {a : Act} {w : World} {o : Oper} {s : Spec} {x y : Operand} {t : TypeId} (ho : o.op = .binOp .add 3 x y t) {m k : Nat} (hx : a.eval x = .int .i64 m) (hy : a.eval y = .int .i64 k) (hn : m + k ≤ 1000000000) (hs : s.p (.int .i64 ((m + k : Nat) : Int)) w) :
    o.wp Try.prog a w (fun a' w' => ∃ v, a' = a.put o.dst v ∧ Below w.heap.size w w' ∧ s.p v w') Q :=
  loc_run (v := .int .i64 ((m + k : Nat) : Int)) (by
    have e : IntKind.i64.wrap ((m : Int) + k) = ((m + k : Nat) : Int) := by
      simp only [IntKind.wrap, IntKind.bits, IntKind.signed]; simp; omega
    have h : (Op.intArith .add .i64 (m : Int) (k : Int)).run Try.prog w = .ok (.int .i64 ((m + k : Nat) : Int)) w := by
      unfold Op.intArith
      rw [← e]; rfl
    unfold execOp
    simp only [ho, hx, hy]
    simp [eqGuard, binOp, h, Result.andThen]) (Below.refl _ _) hs
set_option maxRecDepth 100000 in
set_option maxHeartbeats 8000000 in
theorem queuePut_any (z : Int) (l lb lc : List UInt8) (aq ab ac : Option Addr) (cq cb cc : Nat) (most n : Int) (raw : Bool) (w : World) (hq : IsBytes w aq l cq) (hb : IsBytes w ab lb cb) (hc : IsBytes w ac lc cc) (hlen : l.length + lb.length + lc.length ≤ 1048576) :
    Calls Try.prog 4 #[.agg #[.int .i64 z, .slice aq l.length cq], .slice ab lb.length cb, .slice ac lc.length cc, .int .i64 most, .int .i64 n, .bool raw] w fun e w' => e = .returned (.bool true) ∧ Below w.heap.size w w' := by
  have HA := Box.mk hq
  have HB := Box.mk hb
  have HC := Box.mk hc
  clear hq hb hc
  cases raw with
  | true =>
    go_enter Try.func4, Try.ntmps4
    go_wp2_with fail
    obtain ⟨W, hW⟩ : ∃ W, W = w.alloc (.cells #[.int .i64 z, .slice aq l.length cq] 24) := ⟨_, rfl⟩
    have hUs : W.heap.size = w.heap.size + 1 := by rw [hW]; simp
    have HW := Box.mk (show Below w.heap.size w W by rw [hW]; exact below_one _ _)
    have HQ := Box.mk (show QVar W w.heap.size z aq l.length cq by rw [hW]; exact heap_alloc_new _ _)
    change Calls _ _ _ ((w.alloc (.cells #[.int .i64 z, .slice aq l.length cq] 24)).alloc (.cells #[.slice ab lb.length cb, .slice ac lc.length cc] 22)) _
    rw [← hW]
    clear hW
    generalize hg : w.heap.size = g at HQ hUs ⊢
    have HG := Box.mk hg
    clear hg
    obtain ⟨V, hV⟩ : ∃ V, V = W.alloc (.cells #[.slice ab lb.length cb, .slice ac lc.length cc] 22) := ⟨_, rfl⟩
    have HSL : Box (SlcV V (.slice (some ⟨g + 1, 0, none⟩) 2 2) [lb, lc]) := ⟨by rw [← hUs]; exact slc_two (HB.out.keep HW.out) (HC.out.keep HW.out) hV⟩
    have HBV := Box.mk (show Below W.heap.size W V by rw [hV]; exact below_one _ _)
    change Calls _ _ _ (W.alloc (.cells #[.slice ab lb.length cb, .slice ac lc.length cc] 22)) _
    rw [← hV]
    clear hV hUs
    obtain ⟨M, HM⟩ : ∃ M, Box (M = lb ++ lc) := ⟨_, ⟨rfl⟩⟩
    have hML : l.length + M.length ≤ 1048576 := by rw [HM.out, List.length_append]; omega
    obtain ⟨P, HP⟩ : ∃ P, Box (P = putL z l.length M.length) := ⟨_, ⟨rfl⟩⟩
    obtain ⟨L', HL⟩ : ∃ L', Box (L' = l ++ M.take P) := ⟨_, ⟨rfl⟩⟩
    refine (put_k (z := z) (l := l) (ls := [lb, lc]) (k := P) (L := L') ⟨aq, cq, rfl, (HA.out.keep HW.out).keep HBV.out⟩ HSL.out (Nat.le_refl _) (by omega) (by rw [HP.out, HM.out]; simp) (by rw [HL.out, HM.out]; simp)).mono ?_
    rintro e w4 ⟨d, f, rfl, hb, hby⟩
    have HW4 := Box.mk (below_trans (below_trans HW.out HBV.out) hb)
    have HQ4 := Box.mk ((HQ.out.keep HBV.out).keep hb)
    have HX4 := Box.mk hby
    clear hb hby HSL HBV HW HQ
    go_wp2_with fail
    obtain ⟨W5, hW5⟩ : ∃ W5, W5 = w4.alloc (.cells #[.int .i64 z, .slice d L'.length f] 24) := ⟨_, rfl⟩
    have HAL := Box.mk (show Below w4.heap.size w4 W5 by rw [hW5]; exact below_one _ _)
    have HV5 := Box.mk (show QVar W5 w4.heap.size z d L'.length f by rw [hW5]; exact heap_alloc_new _ _)
    have HW5 := Box.mk (below_trans HW4.out HAL.out)
    have HQ5 := Box.mk (HQ4.out.keep HAL.out)
    have HX5 := Box.mk (HX4.out.keep HAL.out)
    have HA5 := Box.mk (HA.out.keep HW5.out)
    have HB5 := Box.mk (HB.out.keep HW5.out)
    have HC5 := Box.mk (HC.out.keep HW5.out)
    change Code.wp _ _ _ _ (w4.alloc (.cells #[.int .i64 z, .slice d L'.length f] 24))
    rw [← hW5]
    clear hW5 HAL HW4 HQ4 HX4
    generalize w4.heap.size = g13 at *
    rename_i K hK
    have HPN := Box.mk (show putN z l.length M.length = P by rw [HP.out]; exact Nat.min_comm _ _)
    refine wp_region_phases [3, 5, 11] (fun p => match p with | 0 => [0, 1, 2, 4, 10] | 1 => [0, 4, 10] | 2 => [0, 6, 7, 8, 9, 10] | _ => [9, 12])
      (fun p => match p with
        | 0 => [.val (.agg #[.int .i64 z, .slice aq l.length cq]), .own W5.heap.size [], .val (.slice ab lb.length cb), .any, .val (.slice ac lc.length cc), .any, .never, .never, .never, .never, .zrow W5.heap.size, .any, .val (.int .i64 P)]
        | 1 => [.val (.agg #[.int .i64 z, .slice aq l.length cq]), .any, .any, .own W5.heap.size lb, .val (.slice ac lc.length cc), .any, .never, .never, .never, .never, .zrow W5.heap.size, .any, .val (.int .i64 P)]
        | 2 => [.val (.agg #[.int .i64 z, .slice aq l.length cq]), .any, .any, .any, .any, .own W5.heap.size M, .tup z L' P, .tup z L' P, .qat z L', .val (.int .i64 P), .zrow W5.heap.size, .any, .val (.int .i64 P)]
        | _ => [.any, .any, .any, .any, .any, .any, .any, .tupV z L'.length P, .any, .val (.int .i64 P), .qrow z L', .any, .val (.int .i64 P)])
      (fun _ => fun w' => Below W5.heap.size W5 w')
      (by kernel_rfl) (by kernel_rfl) (by kernel_rfl) (by kernel_rfl) (by kernel_rfl) (by kernel_rfl) (fun _ _ _ h1 h2 => below_trans h1 h2) (Below.refl _ _) ?_ ?_ ?_
    · intro p hp
      match p, hp with
      | 0, _ =>
        refine ⟨?_, ?_, ?_, ?_, ?_, trivial⟩ <;> intro a w2 hb hf hd
        · exact ⟨wanted_none rfl, loc_load_q rfl (hf.base 6 rfl) (HQ5.out.keep hb) rfl⟩
        · exact ⟨wanted_none rfl, loc_build_own rfl hb.size fun v w' h => h⟩
        · exact ⟨wanted_none rfl, loc_move rfl (hf.base 1 rfl)⟩
        · exact ⟨wanted_none rfl, loc_move rfl (hf.base 2 rfl)⟩
        · exact ⟨wanted_none rfl, loc_alloc_q rfl hb.size fun v w' h => h⟩
      | 1, _ =>
        refine ⟨?_, ?_, ?_, trivial⟩ <;> intro a w2 hb hf hd
        · exact ⟨wanted_none rfl, loc_load_q rfl (hf.base 6 rfl) (HQ5.out.keep hb) rfl⟩
        · exact ⟨wanted_none rfl, loc_move rfl (hf.base 2 rfl)⟩
        · exact ⟨wanted_none rfl, loc_alloc_q rfl hb.size fun v w' h => h⟩
      | 2, _ =>
        refine ⟨?_, ?_, ?_, ?_, ?_, ?_, trivial⟩ <;> intro a w2 hb hf hd
        · exact ⟨wanted_none rfl, loc_load_q rfl (hf.base 6 rfl) (HQ5.out.keep hb) rfl⟩
        · exact ⟨wanted_none rfl, loc_call rfl (by kernel_rfl) (refPut_k (z := z) (l := l) (b := M) (k := P) (L := L') ⟨aq, cq, hd 0 rfl, HA5.out.keep hb⟩ (Own.val (hd 5 rfl)) (by omega) HPN.out HL.out.symm)⟩
        · exact ⟨wanted_none rfl, loc_move rfl (hd 6 rfl)⟩
        · obtain ⟨d1, f1, e1, e2⟩ := hd 7 rfl
          exact ⟨wanted_none rfl, loc_extract0 rfl e1 ⟨d1, f1, rfl, e2⟩⟩
        · obtain ⟨d1, f1, e1, e2⟩ := hd 7 rfl
          exact ⟨wanted_none rfl, loc_extract1 rfl e1 rfl⟩
        · exact ⟨wanted_none rfl, loc_alloc_q rfl hb.size fun v w' h => h⟩
      | 3, _ =>
        refine ⟨?_, ?_, trivial⟩ <;> intro a w2 hb hf hd
        · obtain ⟨d1, f1, e1⟩ := hd 7 rfl
          exact ⟨wanted_none rfl, loc_extract1 rfl e1 rfl⟩
        · exact ⟨wanted_none rfl, loc_assign rfl (hd 9 rfl)⟩
    · intro p hp
      match p, hp with
      | 0, _ =>
        intro a2 w2 hb hf hd
        have hown : Own W5.heap.size w2 (a2.eval (.tmp 49)) [] := hd 1 rfl
        exact ⟨wanted_none rfl, wp_append_ownb rfl hown ⟨ab, cb, hd 2 rfl, HB5.out.keep hb⟩ (by rw [List.length_nil]; omega) hb.size fun v' w3 h1 h2 h3 => ⟨v', rfl, hb.grown h2 hb.size fun k hk => (hown.lt hk).1, h1, ⟨.inr fun _ _ h => h, .inr fun _ _ _ => trivial, .inr fun _ _ _ => trivial, .inl rfl, .inr fun _ _ h => h, .inr fun _ _ _ => trivial, .inr fun _ _ h => h.elim, .inr fun _ _ h => h.elim, .inr fun _ _ h => h.elim, .inr fun _ _ h => h.elim, .inr fun v _ h => ZRow.grown h h2 hown, .inr fun _ _ _ => trivial, .inr fun _ _ h => h, trivial⟩⟩⟩
      | 1, _ =>
        intro a2 w2 hb hf hd
        have hown : Own W5.heap.size w2 (a2.eval (.tmp 51)) lb := hd 3 rfl
        exact ⟨wanted_none rfl, wp_append_ownb rfl hown ⟨ac, cc, hd 4 rfl, HC5.out.keep hb⟩ (by omega) hb.size fun v' w3 h1 h2 h3 => ⟨v', rfl, hb.grown h2 hb.size fun k hk => (hown.lt hk).1, by rw [HM.out]; exact h1, ⟨.inr fun _ _ h => h, .inr fun _ _ _ => trivial, .inr fun _ _ _ => trivial, .inr fun _ _ _ => trivial, .inr fun _ _ _ => trivial, .inl rfl, .inr fun _ _ h => h.elim, .inr fun _ _ h => h.elim, .inr fun _ _ h => h.elim, .inr fun _ _ h => h.elim, .inr fun v _ h => ZRow.grown h h2 hown, .inr fun _ _ _ => trivial, .inr fun _ _ h => h, trivial⟩⟩⟩
      | 2, _ =>
        intro a2 w2 hb hf hd
        refine ⟨wanted_none rfl, ?_⟩
        obtain ⟨d1, f1, e1, e2⟩ := hd 8 rfl
        obtain ⟨g1, e3, e4, e5⟩ := hd 10 rfl
        exact wp_store_row 24 _ _ rfl g1 #[.int .i64 z, .slice d1 L'.length f1] e3 e1 24 _ e5 sizeQ rfl (oneQ _ _ _ _) ⟨undef, rfl, below_setRow hb e4 _, trivial, ⟨.inr fun _ _ _ => trivial, .inr fun _ _ _ => trivial, .inr fun _ _ _ => trivial, .inr fun _ _ _ => trivial, .inr fun _ _ _ => trivial, .inr fun _ _ _ => trivial, .inr fun _ _ _ => trivial, .inr fun v _ h => (fun ⟨d, f, h1, _⟩ => ⟨d, f, h1⟩ : (∃ d f, v = _ ∧ _) → _) h, .inr fun _ _ _ => trivial, .inr fun _ _ h => h, .inr fun v hv _ => ⟨g1, d1, f1, (hv _ _ rfl rfl).trans e3, setRow_heap _ _ _ _ _ _ e5, e5.store e2 _⟩, .inl rfl, .inr fun _ _ h => h, trivial⟩⟩
    · intro a2 w6 hinv hf hh
      obtain ⟨g15, d15, f15, e15, hv15, hx15⟩ := hh 10 (by decide)
      have e16 : a2.eval (.tmp 16) = .int .i64 P := hh 12 (by decide)
      have HW6 := Box.mk (below_trans HW5.out hinv)
      have HQ6 := Box.mk (HQ5.out.keep hinv)
      have HV6 := Box.mk (HV5.out.keep hinv)
      have HX6 := Box.mk (HX5.out.keep hinv)
      have HV15 := Box.mk hv15
      have HX15 := Box.mk hx15
      have e15' : a2.eval (.tmp 15) = .pointer (some ⟨g15, 0, none⟩) := e15
      clear hv15 hx15 e15 HQ5 HV5 HX5 HA5 HB5 HC5 HW5
      refine hK a2 w6 ?_
      rw [fr_putAll hf]
      simp only [putAll, e15', e16]
      clear hf hh
      generalize a2.eval (.tmp 48) = u48
      generalize a2.eval (.tmp 49) = u49
      generalize a2.eval (.tmp 50) = u50
      generalize a2.eval (.tmp 51) = u51
      generalize a2.eval (.tmp 52) = u52
      generalize a2.eval (.tmp 53) = u53
      generalize a2.eval (.tmp 54) = u54
      generalize a2.eval (.tmp 47) = u47
      generalize a2.eval (.tmp 55) = u55
      generalize a2.eval (.tmp 56) = u56
      clear e15' e16
      clear a2
      simp only [Act.put, List.setIfInBounds_toArray, List.set_cons_succ, List.set_cons_zero]
      obtain ⟨k, hk⟩ : ∃ k, Box (peekN z n l.length = k) := ⟨_, ⟨rfl⟩⟩
      obtain ⟨F, hF⟩ : ∃ F, Box (l.take k = F) := ⟨_, ⟨rfl⟩⟩
      obtain ⟨R, hR⟩ : ∃ R, Box (l.drop k = R) := ⟨_, ⟨rfl⟩⟩
      have HA6 := Box.mk (HA.out.keep HW6.out)
      go_wp2_with (refine wpList_load_row rfl 24 _ rfl g rfl 24 _ (0, 0) _ HQ6.out Try.underlying24 rfl sizeQ ?_)
      refine (take_k (z := z) (n := n) (l := l) (k := k) (F := F) (R := R) ⟨aq, cq, rfl, HA6.out⟩ (by omega) hk.out hF.out hR.out).mono ?_
      rintro e w7 ⟨a7, m7, b7, c7, rfl, hb, hx, hy⟩
      have HAL := Box.mk (below_one w7 (.cells #[.int .i64 z, .slice b7 R.length c7] 24))
      have HN7 := Box.mk (show QVar (w7.alloc (.cells #[.int .i64 z, .slice b7 R.length c7] 24)) w7.heap.size z b7 R.length c7 from heap_alloc_new _ _)
      have hbb := below_trans hb HAL.out
      have HW7 := Box.mk (below_trans HW6.out hbb)
      have HQ7 := Box.mk (show QVar (w7.alloc (.cells #[.int .i64 z, .slice b7 R.length c7] 24)) g z aq l.length cq from HQ6.out.keep hbb)
      have HV7 := Box.mk (HV6.out.keep hbb)
      have HX7 := Box.mk (HX6.out.keep hbb)
      have HV157 := Box.mk (HV15.out.keep hbb)
      have HX157 := Box.mk (HX15.out.keep hbb)
      have HF7 := Box.mk (hx.keep HAL.out)
      have HR7 := Box.mk (hy.keep HAL.out)
      clear hb hx hy hbb HQ6 HV6 HX6 HV15 HX15 HA6 HW6
      have hld := HQ7.out
      unfold QVar at hld
      go_wp2_with (refine wpList_load_row rfl 24 _ rfl g rfl 24 _ (0, 0) _ hld Try.underlying24 rfl sizeQ ?_)
      obtain ⟨U7, hU7⟩ : ∃ U7, U7 = w7.alloc (.cells #[.int .i64 z, .slice b7 R.length c7] 24) := ⟨_, rfl⟩
      change Calls _ _ _ (w7.alloc (.cells #[.int .i64 z, .slice b7 R.length c7] 24)) _
      clear hld
      rw [← hU7] at HN7 HW7 HQ7 HV7 HX7 HV157 HX157 HF7 HR7 ⊢
      clear hU7 HAL
      generalize w7.heap.size = g18 at *
      refine (refTake_k (z := z) (n := n) (l := l) (k := k) (F := F) (R := R) ⟨aq, cq, rfl, HA.out.keep HW7.out⟩ (by omega) hk.out hF.out hR.out).mono ?_
      rintro e w8 ⟨a8, m8, b8, c8, rfl, hb, hx, hy⟩
      go_wp2_with fail
      obtain ⟨U8, hU8⟩ : ∃ U8, U8 = w8.alloc (.cells #[.int .i64 z, .slice b8 R.length c8] 24) := ⟨_, rfl⟩
      have HAL := Box.mk (show Below w8.heap.size w8 U8 by rw [hU8]; exact below_one _ _)
      have HN8 := Box.mk (show QVar U8 w8.heap.size z b8 R.length c8 by rw [hU8]; exact heap_alloc_new _ _)
      change Code.wp _ _ _ _ (w8.alloc (.cells #[.int .i64 z, .slice b8 R.length c8] 24))
      rw [← hU8]
      clear hU8
      have hbb := below_trans hb HAL.out
      have HW8 := Box.mk (below_trans HW7.out hbb)
      have HQ8 := Box.mk (HQ7.out.keep hbb)
      have HV8 := Box.mk (HV7.out.keep hbb)
      have HX8 := Box.mk (HX7.out.keep hbb)
      have HV158 := Box.mk (HV157.out.keep hbb)
      have HX158 := Box.mk (HX157.out.keep hbb)
      have HF8 := Box.mk (HF7.out.keep hbb)
      have HR8 := Box.mk (HR7.out.keep hbb)
      have HN78 := Box.mk (HN7.out.keep hbb)
      have HE8 := Box.mk (hx.keep HAL.out)
      have HS8 := Box.mk (hy.keep HAL.out)
      have HA8 := Box.mk (HA.out.keep HW8.out)
      clear hb hx hy hbb HAL HQ7 HV7 HX7 HV157 HX157 HF7 HR7 HN7 HW7
      generalize w8.heap.size = g20 at *
      rename_i K2 hK2
      refine wp_region_local (S := [.val (.int .i64 P), .val (.int .i64 P), .val (.bool true), .val (.bool true), .val (.agg #[.int .i64 z, .slice d L'.length f]), .val (.agg #[.int .i64 z, .slice d15 L'.length f15]), .val (.bool true), .val (.bool true), .val (.bool true), .val (.slice a7 F.length m7), .val (.string ⟨F.toArray⟩), .val (.slice a8 F.length m8), .val (.string ⟨F.toArray⟩), .val (.bool true), .val (.bool true), .val (.bool true), .val (.agg #[.int .i64 z, .slice b7 R.length c7]), .val (.agg #[.int .i64 z, .slice b8 R.length c8]), .val (.bool true), .val (.bool true), .val (.bool true), .val (.agg #[.int .i64 z, .slice aq l.length cq]), .val (.int .i64 n), .bytesL F, .val (.string ⟨F.toArray⟩), .val (.slice a8 F.length m8), .val (.string ⟨F.toArray⟩), .val (.bool true), .val (.bool true), .val (.bool true), .val (.bool true), .val (.bool true), .val (.bool true)])
        (by kernel_rfl) (by kernel_rfl) (by kernel_rfl) ?_ ?_
      · refine ⟨?_, ?_, ?_, ?_, ?_, ?_, ?_, ?_, ?_, ?_, ?_, ?_, ?_, ?_, ?_, ?_, ?_, ?_, ?_, ?_, ?_, ?_, ?_, ?_, ?_, ?_, ?_, ?_, ?_, ?_, ?_, ?_, ?_, trivial⟩ <;> intro a w2 hb hf hd
        · exact ⟨wanted_none rfl, loc_move rfl (hf.base 14 rfl)⟩
        · exact ⟨wanted_none rfl, loc_move rfl (hf.base 16 rfl)⟩
        · exact ⟨wanted_none rfl, loc_eql_int rfl (hd 0 rfl) (hd 1 rfl) rfl⟩
        · exact ⟨wanted_none rfl, loc_move rfl (hd 2 rfl)⟩
        · exact ⟨wanted_true rfl rfl (hd 3 rfl), loc_load_q rfl (hf.base 13 rfl) (HV8.out.keep hb) rfl⟩
        · exact ⟨wanted_true rfl rfl (hd 3 rfl), loc_load_q rfl (hf.base 15 rfl) (HV158.out.keep hb) rfl⟩
        · exact ⟨wanted_true rfl rfl (hd 3 rfl), loc_call rfl (by kernel_rfl) (same_k (z := z) (l := L') ⟨d, f, hd 4 rfl, HX8.out.keep hb⟩ ⟨d15, f15, hd 5 rfl, HX158.out.keep hb⟩)⟩
        · exact ⟨wanted_none rfl, loc_pick rfl (hd 3 rfl) (hd 6 rfl)⟩
        · exact ⟨wanted_none rfl, loc_move rfl (hd 7 rfl)⟩
        · exact ⟨wanted_true rfl rfl (hd 8 rfl), loc_move rfl (hf.base 17 rfl)⟩
        · exact ⟨wanted_true rfl rfl (hd 8 rfl), loc_string rfl (by rw [show a.eval (.tmp 78) = .slice a7 F.length m7 from hd 9 rfl]; exact ⟨a7, m7, rfl, HF8.out.keep hb⟩) rfl⟩
        · exact ⟨wanted_true rfl rfl (hd 8 rfl), loc_move rfl (hf.base 19 rfl)⟩
        · exact ⟨wanted_true rfl rfl (hd 8 rfl), loc_string rfl (by rw [show a.eval (.tmp 80) = .slice a8 F.length m8 from hd 11 rfl]; exact ⟨a8, m8, rfl, HE8.out.keep hb⟩) rfl⟩
        · exact ⟨wanted_true rfl rfl (hd 8 rfl), loc_eql_str rfl (hd 10 rfl) (hd 12 rfl) rfl⟩
        · exact ⟨wanted_none rfl, loc_pick rfl (hd 8 rfl) (hd 13 rfl)⟩
        · exact ⟨wanted_none rfl, loc_move rfl (hd 14 rfl)⟩
        · exact ⟨wanted_true rfl rfl (hd 15 rfl), loc_load_q rfl (hf.base 18 rfl) (HN78.out.keep hb) rfl⟩
        · exact ⟨wanted_true rfl rfl (hd 15 rfl), loc_load_q rfl (hf.base 20 rfl) (HN8.out.keep hb) rfl⟩
        · exact ⟨wanted_true rfl rfl (hd 15 rfl), loc_call rfl (by kernel_rfl) (same_k (z := z) (l := R) ⟨b7, c7, hd 16 rfl, HR8.out.keep hb⟩ ⟨b8, c8, hd 17 rfl, HS8.out.keep hb⟩)⟩
        · exact ⟨wanted_none rfl, loc_pick rfl (hd 15 rfl) (hd 18 rfl)⟩
        · exact ⟨wanted_none rfl, loc_move rfl (hd 19 rfl)⟩
        · exact ⟨wanted_true rfl rfl (hd 20 rfl), loc_load_q rfl (hf.base 6 rfl) (HQ8.out.keep hb) rfl⟩
        · exact ⟨wanted_true rfl rfl (hd 20 rfl), loc_move rfl (hf.base 4 rfl)⟩
        · refine ⟨wanted_true rfl rfl (hd 20 rfl), loc_call rfl (by kernel_rfl) ?_⟩
          show Calls _ _ #[a.eval (.tmp 90), a.eval (.tmp 91)] w2 _
          rw [show a.eval (.tmp 91) = .int .i64 n from hd 22 rfl]
          exact peek_k (z := z) (n := n) (l := l) (k := k) (F := F) ⟨aq, cq, hd 21 rfl, HA8.out.keep hb⟩ hk.out hF.out
        · exact ⟨wanted_true rfl rfl (hd 20 rfl), loc_string rfl (hd 23 rfl) rfl⟩
        · exact ⟨wanted_true rfl rfl (hd 20 rfl), loc_move rfl (hf.base 19 rfl)⟩
        · exact ⟨wanted_true rfl rfl (hd 20 rfl), loc_string rfl (by rw [show a.eval (.tmp 94) = .slice a8 F.length m8 from hd 25 rfl]; exact ⟨a8, m8, rfl, HE8.out.keep hb⟩) rfl⟩
        · exact ⟨wanted_true rfl rfl (hd 20 rfl), loc_eql_str rfl (hd 24 rfl) (hd 26 rfl) rfl⟩
        · exact ⟨wanted_none rfl, loc_pick rfl (hd 20 rfl) (hd 27 rfl)⟩
        · exact ⟨wanted_none rfl, loc_move rfl (hd 28 rfl)⟩
        · exact ⟨wanted_true rfl rfl (hd 29 rfl), loc_call rfl (by kernel_rfl) (awake_k w2)⟩
        · exact ⟨wanted_none rfl, loc_pick rfl (hd 29 rfl) (hd 30 rfl)⟩
        · exact ⟨wanted_none rfl, loc_assign rfl (hd 31 rfl)⟩
      · intro a w2 hb hf hh
        refine hK2 a w2 ?_
        go_wp2_with fail
        exact local_ret rfl hf.defers (show a.eval (.tmp 12) = .bool true from hh 32 (by decide)) ⟨rfl, below_trans HW8.out hb⟩
  | false =>
    obtain ⟨k1, hk1, hw1⟩ := within_valE most 12 (by decide) (by decide)
    obtain ⟨k2, hk2, hw2⟩ := within_valE n (l.length + 3) (by omega) (by omega)
    have HW1 := Box.mk hw1
    have HW2 := Box.mk hw2
    clear hw1 hw2
    go_enter Try.func4, Try.ntmps4
    go_wp2_with fail
    obtain ⟨W0, hW⟩ : ∃ W, W = w.alloc (.cells #[.int .i64 z, .slice aq l.length cq] 24) := ⟨_, rfl⟩
    have HW0 := Box.mk (show Below w.heap.size w W0 by rw [hW]; exact below_one _ _)
    have HQ0 := Box.mk (show QVar W0 w.heap.size z aq l.length cq by rw [hW]; exact heap_alloc_new _ _)
    change Code.wp _ _ _ _ (w.alloc (.cells #[.int .i64 z, .slice aq l.length cq] 24))
    rw [← hW]
    clear hW
    generalize hg : w.heap.size = g at HQ0 ⊢
    have HG := Box.mk hg
    clear hg
    rename_i K0 hK0
    refine wp_region_store (S := [some (.val (.pointer (some ⟨g, 1, none⟩))), some (.val (.slice aq l.length cq)), some (.val (.int .i64 l.length)), some (.val (.int .i64 most)), some (.val (.int .i64 k1)), some (.val (.int .i64 ((l.length + k1 : Nat) : Int))),
      some (.val (.pointer (some ⟨g, 1, none⟩))), some (.val (.slice aq l.length cq)), some (.val (.agg #[.int .i64 ((l.length + k1 : Nat) : Int), .slice aq l.length cq])), none]) 9 []
      (fun w' => Below w.heap.size w w' ∧ QVar w' g ((l.length + k1 : Nat) : Int) aq l.length cq)
      (by kernel_rfl) (by kernel_rfl) (by kernel_rfl) (by kernel_rfl) rfl rfl rfl ?_ trivial ?_ ?_
    · refine ⟨?_, ?_, ?_, ?_, ?_, ?_, ?_, ?_, ?_, trivial⟩ <;> intro a w2 hb hf hd
      · exact ⟨wanted_none rfl, loc_field1 rfl (hf.base 6 rfl) rfl⟩
      · exact ⟨wanted_none rfl, loc_load_slice rfl (hd 0 rfl) (HQ0.out.keep hb).data rfl⟩
      · exact ⟨wanted_none rfl, loc_len rfl (hd 1 rfl) rfl⟩
      · exact ⟨wanted_none rfl, loc_move rfl (hf.base 3 rfl)⟩
      · refine ⟨wanted_none rfl, loc_call rfl (by kernel_rfl) ?_⟩
        show Calls _ _ #[a.eval (.tmp 26), .int .i64 ((12 : Nat) : Int)] w2 _
        rw [show a.eval (.tmp 26) = .int .i64 most from hd 3 rfl]
        refine (withinE most 12 k1 w2 (by decide) (by decide) HW1.out).mono ?_
        rintro e w' ⟨rfl, rfl⟩
        exact ⟨_, rfl, Below.refl _ _, rfl⟩
      · exact ⟨wanted_none rfl, loc_add_int rfl (hd 2 rfl) (hd 4 rfl) (by omega) rfl⟩
      · exact ⟨wanted_none rfl, loc_field1 rfl (hf.base 6 rfl) rfl⟩
      · exact ⟨wanted_none rfl, loc_load_slice rfl (hd 6 rfl) (HQ0.out.keep hb).data rfl⟩
      · exact ⟨wanted_none rfl, loc_build_q rfl (hd 5 rfl) (hd 7 rfl) rfl⟩
    · refine ⟨rfl, fun a w2 hb hf hd => ⟨wanted_none rfl, ?_⟩⟩
      have hgw := HG.out
      exact wp_store_row 24 _ _ rfl g #[.int .i64 ((l.length + k1 : Nat) : Int), .slice aq l.length cq] (hf.base 6 rfl) (hd 8 rfl) 24 _ (HQ0.out.keep hb) sizeQ rfl (oneQ _ _ _ _) ⟨rfl, below_setRow (below_trans HW0.out hb) (by omega) _, setRow_heap _ _ _ _ _ _ (HQ0.out.keep hb)⟩
    intro a2 W hp hf hh
    have HW := Box.mk hp.1
    have HQ := Box.mk hp.2
    clear hp HW0 HQ0
    refine hK0 a2 W ?_
    rw [fr_putAll hf]
    simp only [putAll]
    clear hf hh
    generalize a2.eval (.tmp 23) = u23
    generalize a2.eval (.tmp 24) = u24
    generalize a2.eval (.tmp 25) = u25
    generalize a2.eval (.tmp 26) = u26
    generalize a2.eval (.tmp 27) = u27
    generalize a2.eval (.tmp 28) = u28
    generalize a2.eval (.tmp 29) = u29
    generalize a2.eval (.tmp 30) = u30
    generalize a2.eval (.tmp 31) = u31
    clear a2
    simp only [Act.put, List.setIfInBounds_toArray, List.set_cons_succ, List.set_cons_zero]
    have hd := HQ.out.data
    go_wp2_with fail
    rw [show ((l.length : Int) + 3) = ((l.length + 3 : Nat) : Int) from (Int.natCast_add l.length 3).symm]
    refine (withinE n (l.length + 3) k2 W (by omega) (by omega) HW2.out).mono ?_
    rintro e w2 ⟨rfl, rfl⟩
    clear hd
    go_wp2_with (refine wpList_load_row rfl 24 _ rfl g rfl 24 _ (0, 0) _ HQ.out Try.underlying24 rfl sizeQ ?_)
    obtain ⟨V, hV⟩ : ∃ V, V = W.alloc (.cells #[.slice ab lb.length cb, .slice ac lc.length cc] 22) := ⟨_, rfl⟩
    have HSL : Box (SlcV V (.slice (some ⟨W.heap.size, 0, none⟩) 2 2) [lb, lc]) := ⟨by exact slc_two (HB.out.keep HW.out) (HC.out.keep HW.out) hV⟩
    have HBV := Box.mk (show Below W.heap.size W V by rw [hV]; exact below_one _ _)
    change Calls _ _ _ (W.alloc (.cells #[.slice ab lb.length cb, .slice ac lc.length cc] 22)) _
    rw [← hV]
    clear hV
    obtain ⟨M, HM⟩ : ∃ M, Box (M = lb ++ lc) := ⟨_, ⟨rfl⟩⟩
    have hML : l.length + M.length ≤ 1048576 := by rw [HM.out, List.length_append]; omega
    obtain ⟨P, HP⟩ : ∃ P, Box (P = putL ((l.length + k1 : Nat) : Int) l.length M.length) := ⟨_, ⟨rfl⟩⟩
    obtain ⟨L', HL⟩ : ∃ L', Box (L' = l ++ M.take P) := ⟨_, ⟨rfl⟩⟩
    refine (put_k (z := ((l.length + k1 : Nat) : Int)) (l := l) (ls := [lb, lc]) (k := P) (L := L') ⟨aq, cq, rfl, (HA.out.keep HW.out).keep HBV.out⟩ HSL.out (Nat.le_refl _) (by omega) (by rw [HP.out, HM.out]; simp) (by rw [HL.out, HM.out]; simp)).mono ?_
    rintro e w4 ⟨d, f, rfl, hb, hby⟩
    have HW4 := Box.mk (below_trans (below_trans HW.out HBV.out) hb)
    have HQ4 := Box.mk ((HQ.out.keep HBV.out).keep hb)
    have HX4 := Box.mk hby
    clear hb hby HSL HBV HW HQ
    go_wp2_with fail
    obtain ⟨W5, hW5⟩ : ∃ W5, W5 = w4.alloc (.cells #[.int .i64 ((l.length + k1 : Nat) : Int), .slice d L'.length f] 24) := ⟨_, rfl⟩
    have HAL := Box.mk (show Below w4.heap.size w4 W5 by rw [hW5]; exact below_one _ _)
    have HV5 := Box.mk (show QVar W5 w4.heap.size ((l.length + k1 : Nat) : Int) d L'.length f by rw [hW5]; exact heap_alloc_new _ _)
    have HW5 := Box.mk (below_trans HW4.out HAL.out)
    have HQ5 := Box.mk (HQ4.out.keep HAL.out)
    have HX5 := Box.mk (HX4.out.keep HAL.out)
    have HA5 := Box.mk (HA.out.keep HW5.out)
    have HB5 := Box.mk (HB.out.keep HW5.out)
    have HC5 := Box.mk (HC.out.keep HW5.out)
    change Code.wp _ _ _ _ (w4.alloc (.cells #[.int .i64 ((l.length + k1 : Nat) : Int), .slice d L'.length f] 24))
    rw [← hW5]
    clear hW5 HAL HW4 HQ4 HX4
    generalize w4.heap.size = g13 at *
    rename_i K hK
    have HPN := Box.mk (show putN ((l.length + k1 : Nat) : Int) l.length M.length = P by rw [HP.out]; exact Nat.min_comm _ _)
    refine wp_region_phases [3, 5, 11] (fun p => match p with | 0 => [0, 1, 2, 4, 10] | 1 => [0, 4, 10] | 2 => [0, 6, 7, 8, 9, 10] | _ => [9, 12])
      (fun p => match p with
        | 0 => [.val (.agg #[.int .i64 ((l.length + k1 : Nat) : Int), .slice aq l.length cq]), .own W5.heap.size [], .val (.slice ab lb.length cb), .any, .val (.slice ac lc.length cc), .any, .never, .never, .never, .never, .zrow W5.heap.size, .any, .val (.int .i64 P)]
        | 1 => [.val (.agg #[.int .i64 ((l.length + k1 : Nat) : Int), .slice aq l.length cq]), .any, .any, .own W5.heap.size lb, .val (.slice ac lc.length cc), .any, .never, .never, .never, .never, .zrow W5.heap.size, .any, .val (.int .i64 P)]
        | 2 => [.val (.agg #[.int .i64 ((l.length + k1 : Nat) : Int), .slice aq l.length cq]), .any, .any, .any, .any, .own W5.heap.size M, .tup ((l.length + k1 : Nat) : Int) L' P, .tup ((l.length + k1 : Nat) : Int) L' P, .qat ((l.length + k1 : Nat) : Int) L', .val (.int .i64 P), .zrow W5.heap.size, .any, .val (.int .i64 P)]
        | _ => [.any, .any, .any, .any, .any, .any, .any, .tupV ((l.length + k1 : Nat) : Int) L'.length P, .any, .val (.int .i64 P), .qrow ((l.length + k1 : Nat) : Int) L', .any, .val (.int .i64 P)])
      (fun _ => fun w' => Below W5.heap.size W5 w')
      (by kernel_rfl) (by kernel_rfl) (by kernel_rfl) (by kernel_rfl) (by kernel_rfl) (by kernel_rfl) (fun _ _ _ h1 h2 => below_trans h1 h2) (Below.refl _ _) ?_ ?_ ?_
    · intro p hp
      match p, hp with
      | 0, _ =>
        refine ⟨?_, ?_, ?_, ?_, ?_, trivial⟩ <;> intro a w2 hb hf hd
        · exact ⟨wanted_none rfl, loc_load_q rfl (hf.base 6 rfl) (HQ5.out.keep hb) rfl⟩
        · exact ⟨wanted_none rfl, loc_build_own rfl hb.size fun v w' h => h⟩
        · exact ⟨wanted_none rfl, loc_move rfl (hf.base 1 rfl)⟩
        · exact ⟨wanted_none rfl, loc_move rfl (hf.base 2 rfl)⟩
        · exact ⟨wanted_none rfl, loc_alloc_q rfl hb.size fun v w' h => h⟩
      | 1, _ =>
        refine ⟨?_, ?_, ?_, trivial⟩ <;> intro a w2 hb hf hd
        · exact ⟨wanted_none rfl, loc_load_q rfl (hf.base 6 rfl) (HQ5.out.keep hb) rfl⟩
        · exact ⟨wanted_none rfl, loc_move rfl (hf.base 2 rfl)⟩
        · exact ⟨wanted_none rfl, loc_alloc_q rfl hb.size fun v w' h => h⟩
      | 2, _ =>
        refine ⟨?_, ?_, ?_, ?_, ?_, ?_, trivial⟩ <;> intro a w2 hb hf hd
        · exact ⟨wanted_none rfl, loc_load_q rfl (hf.base 6 rfl) (HQ5.out.keep hb) rfl⟩
        · exact ⟨wanted_none rfl, loc_call rfl (by kernel_rfl) (refPut_k (z := ((l.length + k1 : Nat) : Int)) (l := l) (b := M) (k := P) (L := L') ⟨aq, cq, hd 0 rfl, HA5.out.keep hb⟩ (Own.val (hd 5 rfl)) (by omega) HPN.out HL.out.symm)⟩
        · exact ⟨wanted_none rfl, loc_move rfl (hd 6 rfl)⟩
        · obtain ⟨d1, f1, e1, e2⟩ := hd 7 rfl
          exact ⟨wanted_none rfl, loc_extract0 rfl e1 ⟨d1, f1, rfl, e2⟩⟩
        · obtain ⟨d1, f1, e1, e2⟩ := hd 7 rfl
          exact ⟨wanted_none rfl, loc_extract1 rfl e1 rfl⟩
        · exact ⟨wanted_none rfl, loc_alloc_q rfl hb.size fun v w' h => h⟩
      | 3, _ =>
        refine ⟨?_, ?_, trivial⟩ <;> intro a w2 hb hf hd
        · obtain ⟨d1, f1, e1⟩ := hd 7 rfl
          exact ⟨wanted_none rfl, loc_extract1 rfl e1 rfl⟩
        · exact ⟨wanted_none rfl, loc_assign rfl (hd 9 rfl)⟩
    · intro p hp
      match p, hp with
      | 0, _ =>
        intro a2 w2 hb hf hd
        have hown : Own W5.heap.size w2 (a2.eval (.tmp 49)) [] := hd 1 rfl
        exact ⟨wanted_none rfl, wp_append_ownb rfl hown ⟨ab, cb, hd 2 rfl, HB5.out.keep hb⟩ (by rw [List.length_nil]; omega) hb.size fun v' w3 h1 h2 h3 => ⟨v', rfl, hb.grown h2 hb.size fun k hk => (hown.lt hk).1, h1, ⟨.inr fun _ _ h => h, .inr fun _ _ _ => trivial, .inr fun _ _ _ => trivial, .inl rfl, .inr fun _ _ h => h, .inr fun _ _ _ => trivial, .inr fun _ _ h => h.elim, .inr fun _ _ h => h.elim, .inr fun _ _ h => h.elim, .inr fun _ _ h => h.elim, .inr fun v _ h => ZRow.grown h h2 hown, .inr fun _ _ _ => trivial, .inr fun _ _ h => h, trivial⟩⟩⟩
      | 1, _ =>
        intro a2 w2 hb hf hd
        have hown : Own W5.heap.size w2 (a2.eval (.tmp 51)) lb := hd 3 rfl
        exact ⟨wanted_none rfl, wp_append_ownb rfl hown ⟨ac, cc, hd 4 rfl, HC5.out.keep hb⟩ (by omega) hb.size fun v' w3 h1 h2 h3 => ⟨v', rfl, hb.grown h2 hb.size fun k hk => (hown.lt hk).1, by rw [HM.out]; exact h1, ⟨.inr fun _ _ h => h, .inr fun _ _ _ => trivial, .inr fun _ _ _ => trivial, .inr fun _ _ _ => trivial, .inr fun _ _ _ => trivial, .inl rfl, .inr fun _ _ h => h.elim, .inr fun _ _ h => h.elim, .inr fun _ _ h => h.elim, .inr fun _ _ h => h.elim, .inr fun v _ h => ZRow.grown h h2 hown, .inr fun _ _ _ => trivial, .inr fun _ _ h => h, trivial⟩⟩⟩
      | 2, _ =>
        intro a2 w2 hb hf hd
        refine ⟨wanted_none rfl, ?_⟩
        obtain ⟨d1, f1, e1, e2⟩ := hd 8 rfl
        obtain ⟨g1, e3, e4, e5⟩ := hd 10 rfl
        exact wp_store_row 24 _ _ rfl g1 #[.int .i64 ((l.length + k1 : Nat) : Int), .slice d1 L'.length f1] e3 e1 24 _ e5 sizeQ rfl (oneQ _ _ _ _) ⟨undef, rfl, below_setRow hb e4 _, trivial, ⟨.inr fun _ _ _ => trivial, .inr fun _ _ _ => trivial, .inr fun _ _ _ => trivial, .inr fun _ _ _ => trivial, .inr fun _ _ _ => trivial, .inr fun _ _ _ => trivial, .inr fun _ _ _ => trivial, .inr fun v _ h => (fun ⟨d, f, h1, _⟩ => ⟨d, f, h1⟩ : (∃ d f, v = _ ∧ _) → _) h, .inr fun _ _ _ => trivial, .inr fun _ _ h => h, .inr fun v hv _ => ⟨g1, d1, f1, (hv _ _ rfl rfl).trans e3, setRow_heap _ _ _ _ _ _ e5, e5.store e2 _⟩, .inl rfl, .inr fun _ _ h => h, trivial⟩⟩
    · intro a2 w6 hinv hf hh
      obtain ⟨g15, d15, f15, e15, hv15, hx15⟩ := hh 10 (by decide)
      have e16 : a2.eval (.tmp 16) = .int .i64 P := hh 12 (by decide)
      have HW6 := Box.mk (below_trans HW5.out hinv)
      have HQ6 := Box.mk (HQ5.out.keep hinv)
      have HV6 := Box.mk (HV5.out.keep hinv)
      have HX6 := Box.mk (HX5.out.keep hinv)
      have HV15 := Box.mk hv15
      have HX15 := Box.mk hx15
      have e15' : a2.eval (.tmp 15) = .pointer (some ⟨g15, 0, none⟩) := e15
      clear hv15 hx15 e15 HQ5 HV5 HX5 HA5 HB5 HC5 HW5
      refine hK a2 w6 ?_
      rw [fr_putAll hf]
      simp only [putAll, e15', e16]
      clear hf hh
      generalize a2.eval (.tmp 48) = u48
      generalize a2.eval (.tmp 49) = u49
      generalize a2.eval (.tmp 50) = u50
      generalize a2.eval (.tmp 51) = u51
      generalize a2.eval (.tmp 52) = u52
      generalize a2.eval (.tmp 53) = u53
      generalize a2.eval (.tmp 54) = u54
      generalize a2.eval (.tmp 47) = u47
      generalize a2.eval (.tmp 55) = u55
      generalize a2.eval (.tmp 56) = u56
      clear e15' e16
      clear a2
      simp only [Act.put, List.setIfInBounds_toArray, List.set_cons_succ, List.set_cons_zero]
      obtain ⟨k, hk⟩ : ∃ k, Box (peekN ((l.length + k1 : Nat) : Int) ((k2 : Int) - 1) l.length = k) := ⟨_, ⟨rfl⟩⟩
      obtain ⟨F, hF⟩ : ∃ F, Box (l.take k = F) := ⟨_, ⟨rfl⟩⟩
      obtain ⟨R, hR⟩ : ∃ R, Box (l.drop k = R) := ⟨_, ⟨rfl⟩⟩
      have HA6 := Box.mk (HA.out.keep HW6.out)
      go_wp2_with (refine wpList_load_row rfl 24 _ rfl g rfl 24 _ (0, 0) _ HQ6.out Try.underlying24 rfl sizeQ ?_)
      refine (take_k (z := ((l.length + k1 : Nat) : Int)) (n := ((k2 : Int) - 1)) (l := l) (k := k) (F := F) (R := R) ⟨aq, cq, rfl, HA6.out⟩ (by omega) hk.out hF.out hR.out).mono ?_
      rintro e w7 ⟨a7, m7, b7, c7, rfl, hb, hx, hy⟩
      have HAL := Box.mk (below_one w7 (.cells #[.int .i64 ((l.length + k1 : Nat) : Int), .slice b7 R.length c7] 24))
      have HN7 := Box.mk (show QVar (w7.alloc (.cells #[.int .i64 ((l.length + k1 : Nat) : Int), .slice b7 R.length c7] 24)) w7.heap.size ((l.length + k1 : Nat) : Int) b7 R.length c7 from heap_alloc_new _ _)
      have hbb := below_trans hb HAL.out
      have HW7 := Box.mk (below_trans HW6.out hbb)
      have HQ7 := Box.mk (show QVar (w7.alloc (.cells #[.int .i64 ((l.length + k1 : Nat) : Int), .slice b7 R.length c7] 24)) g ((l.length + k1 : Nat) : Int) aq l.length cq from HQ6.out.keep hbb)
      have HV7 := Box.mk (HV6.out.keep hbb)
      have HX7 := Box.mk (HX6.out.keep hbb)
      have HV157 := Box.mk (HV15.out.keep hbb)
      have HX157 := Box.mk (HX15.out.keep hbb)
      have HF7 := Box.mk (hx.keep HAL.out)
      have HR7 := Box.mk (hy.keep HAL.out)
      clear hb hx hy hbb HQ6 HV6 HX6 HV15 HX15 HA6 HW6
      have hld := HQ7.out
      unfold QVar at hld
      go_wp2_with (refine wpList_load_row rfl 24 _ rfl g rfl 24 _ (0, 0) _ hld Try.underlying24 rfl sizeQ ?_)
      obtain ⟨U7, hU7⟩ : ∃ U7, U7 = w7.alloc (.cells #[.int .i64 ((l.length + k1 : Nat) : Int), .slice b7 R.length c7] 24) := ⟨_, rfl⟩
      change Calls _ _ _ (w7.alloc (.cells #[.int .i64 ((l.length + k1 : Nat) : Int), .slice b7 R.length c7] 24)) _
      clear hld
      rw [← hU7] at HN7 HW7 HQ7 HV7 HX7 HV157 HX157 HF7 HR7 ⊢
      clear hU7 HAL
      generalize w7.heap.size = g18 at *
      refine (refTake_k (z := ((l.length + k1 : Nat) : Int)) (n := ((k2 : Int) - 1)) (l := l) (k := k) (F := F) (R := R) ⟨aq, cq, rfl, HA.out.keep HW7.out⟩ (by omega) hk.out hF.out hR.out).mono ?_
      rintro e w8 ⟨a8, m8, b8, c8, rfl, hb, hx, hy⟩
      go_wp2_with fail
      obtain ⟨U8, hU8⟩ : ∃ U8, U8 = w8.alloc (.cells #[.int .i64 ((l.length + k1 : Nat) : Int), .slice b8 R.length c8] 24) := ⟨_, rfl⟩
      have HAL := Box.mk (show Below w8.heap.size w8 U8 by rw [hU8]; exact below_one _ _)
      have HN8 := Box.mk (show QVar U8 w8.heap.size ((l.length + k1 : Nat) : Int) b8 R.length c8 by rw [hU8]; exact heap_alloc_new _ _)
      change Code.wp _ _ _ _ (w8.alloc (.cells #[.int .i64 ((l.length + k1 : Nat) : Int), .slice b8 R.length c8] 24))
      rw [← hU8]
      clear hU8
      have hbb := below_trans hb HAL.out
      have HW8 := Box.mk (below_trans HW7.out hbb)
      have HQ8 := Box.mk (HQ7.out.keep hbb)
      have HV8 := Box.mk (HV7.out.keep hbb)
      have HX8 := Box.mk (HX7.out.keep hbb)
      have HV158 := Box.mk (HV157.out.keep hbb)
      have HX158 := Box.mk (HX157.out.keep hbb)
      have HF8 := Box.mk (HF7.out.keep hbb)
      have HR8 := Box.mk (HR7.out.keep hbb)
      have HN78 := Box.mk (HN7.out.keep hbb)
      have HE8 := Box.mk (hx.keep HAL.out)
      have HS8 := Box.mk (hy.keep HAL.out)
      have HA8 := Box.mk (HA.out.keep HW8.out)
      clear hb hx hy hbb HAL HQ7 HV7 HX7 HV157 HX157 HF7 HR7 HN7 HW7
      generalize w8.heap.size = g20 at *
      rename_i K2 hK2
      refine wp_region_local (S := [.val (.int .i64 P), .val (.int .i64 P), .val (.bool true), .val (.bool true), .val (.agg #[.int .i64 ((l.length + k1 : Nat) : Int), .slice d L'.length f]), .val (.agg #[.int .i64 ((l.length + k1 : Nat) : Int), .slice d15 L'.length f15]), .val (.bool true), .val (.bool true), .val (.bool true), .val (.slice a7 F.length m7), .val (.string ⟨F.toArray⟩), .val (.slice a8 F.length m8), .val (.string ⟨F.toArray⟩), .val (.bool true), .val (.bool true), .val (.bool true), .val (.agg #[.int .i64 ((l.length + k1 : Nat) : Int), .slice b7 R.length c7]), .val (.agg #[.int .i64 ((l.length + k1 : Nat) : Int), .slice b8 R.length c8]), .val (.bool true), .val (.bool true), .val (.bool true), .val (.agg #[.int .i64 ((l.length + k1 : Nat) : Int), .slice aq l.length cq]), .val (.int .i64 ((k2 : Int) - 1)), .bytesL F, .val (.string ⟨F.toArray⟩), .val (.slice a8 F.length m8), .val (.string ⟨F.toArray⟩), .val (.bool true), .val (.bool true), .val (.bool true), .val (.bool true), .val (.bool true), .val (.bool true)])
        (by kernel_rfl) (by kernel_rfl) (by kernel_rfl) ?_ ?_
      · refine ⟨?_, ?_, ?_, ?_, ?_, ?_, ?_, ?_, ?_, ?_, ?_, ?_, ?_, ?_, ?_, ?_, ?_, ?_, ?_, ?_, ?_, ?_, ?_, ?_, ?_, ?_, ?_, ?_, ?_, ?_, ?_, ?_, ?_, trivial⟩ <;> intro a w2 hb hf hd
        · exact ⟨wanted_none rfl, loc_move rfl (hf.base 14 rfl)⟩
        · exact ⟨wanted_none rfl, loc_move rfl (hf.base 16 rfl)⟩
        · exact ⟨wanted_none rfl, loc_eql_int rfl (hd 0 rfl) (hd 1 rfl) rfl⟩
        · exact ⟨wanted_none rfl, loc_move rfl (hd 2 rfl)⟩
        · exact ⟨wanted_true rfl rfl (hd 3 rfl), loc_load_q rfl (hf.base 13 rfl) (HV8.out.keep hb) rfl⟩
        · exact ⟨wanted_true rfl rfl (hd 3 rfl), loc_load_q rfl (hf.base 15 rfl) (HV158.out.keep hb) rfl⟩
        · exact ⟨wanted_true rfl rfl (hd 3 rfl), loc_call rfl (by kernel_rfl) (same_k (z := ((l.length + k1 : Nat) : Int)) (l := L') ⟨d, f, hd 4 rfl, HX8.out.keep hb⟩ ⟨d15, f15, hd 5 rfl, HX158.out.keep hb⟩)⟩
        · exact ⟨wanted_none rfl, loc_pick rfl (hd 3 rfl) (hd 6 rfl)⟩
        · exact ⟨wanted_none rfl, loc_move rfl (hd 7 rfl)⟩
        · exact ⟨wanted_true rfl rfl (hd 8 rfl), loc_move rfl (hf.base 17 rfl)⟩
        · exact ⟨wanted_true rfl rfl (hd 8 rfl), loc_string rfl (by rw [show a.eval (.tmp 78) = .slice a7 F.length m7 from hd 9 rfl]; exact ⟨a7, m7, rfl, HF8.out.keep hb⟩) rfl⟩
        · exact ⟨wanted_true rfl rfl (hd 8 rfl), loc_move rfl (hf.base 19 rfl)⟩
        · exact ⟨wanted_true rfl rfl (hd 8 rfl), loc_string rfl (by rw [show a.eval (.tmp 80) = .slice a8 F.length m8 from hd 11 rfl]; exact ⟨a8, m8, rfl, HE8.out.keep hb⟩) rfl⟩
        · exact ⟨wanted_true rfl rfl (hd 8 rfl), loc_eql_str rfl (hd 10 rfl) (hd 12 rfl) rfl⟩
        · exact ⟨wanted_none rfl, loc_pick rfl (hd 8 rfl) (hd 13 rfl)⟩
        · exact ⟨wanted_none rfl, loc_move rfl (hd 14 rfl)⟩
        · exact ⟨wanted_true rfl rfl (hd 15 rfl), loc_load_q rfl (hf.base 18 rfl) (HN78.out.keep hb) rfl⟩
        · exact ⟨wanted_true rfl rfl (hd 15 rfl), loc_load_q rfl (hf.base 20 rfl) (HN8.out.keep hb) rfl⟩
        · exact ⟨wanted_true rfl rfl (hd 15 rfl), loc_call rfl (by kernel_rfl) (same_k (z := ((l.length + k1 : Nat) : Int)) (l := R) ⟨b7, c7, hd 16 rfl, HR8.out.keep hb⟩ ⟨b8, c8, hd 17 rfl, HS8.out.keep hb⟩)⟩
        · exact ⟨wanted_none rfl, loc_pick rfl (hd 15 rfl) (hd 18 rfl)⟩
        · exact ⟨wanted_none rfl, loc_move rfl (hd 19 rfl)⟩
        · exact ⟨wanted_true rfl rfl (hd 20 rfl), loc_load_q rfl (hf.base 6 rfl) (HQ8.out.keep hb) rfl⟩
        · exact ⟨wanted_true rfl rfl (hd 20 rfl), loc_move rfl (hf.base 4 rfl)⟩
        · refine ⟨wanted_true rfl rfl (hd 20 rfl), loc_call rfl (by kernel_rfl) ?_⟩
          show Calls _ _ #[a.eval (.tmp 90), a.eval (.tmp 91)] w2 _
          rw [show a.eval (.tmp 91) = .int .i64 ((k2 : Int) - 1) from hd 22 rfl]
          exact peek_k (z := ((l.length + k1 : Nat) : Int)) (n := ((k2 : Int) - 1)) (l := l) (k := k) (F := F) ⟨aq, cq, hd 21 rfl, HA8.out.keep hb⟩ hk.out hF.out
        · exact ⟨wanted_true rfl rfl (hd 20 rfl), loc_string rfl (hd 23 rfl) rfl⟩
        · exact ⟨wanted_true rfl rfl (hd 20 rfl), loc_move rfl (hf.base 19 rfl)⟩
        · exact ⟨wanted_true rfl rfl (hd 20 rfl), loc_string rfl (by rw [show a.eval (.tmp 94) = .slice a8 F.length m8 from hd 25 rfl]; exact ⟨a8, m8, rfl, HE8.out.keep hb⟩) rfl⟩
        · exact ⟨wanted_true rfl rfl (hd 20 rfl), loc_eql_str rfl (hd 24 rfl) (hd 26 rfl) rfl⟩
        · exact ⟨wanted_none rfl, loc_pick rfl (hd 20 rfl) (hd 27 rfl)⟩
        · exact ⟨wanted_none rfl, loc_move rfl (hd 28 rfl)⟩
        · exact ⟨wanted_true rfl rfl (hd 29 rfl), loc_call rfl (by kernel_rfl) (awake_k w2)⟩
        · exact ⟨wanted_none rfl, loc_pick rfl (hd 29 rfl) (hd 30 rfl)⟩
        · exact ⟨wanted_none rfl, loc_assign rfl (hd 31 rfl)⟩
      · intro a w2 hb hf hh
        refine hK2 a w2 ?_
        go_wp2_with fail
        exact local_ret rfl hf.defers (show a.eval (.tmp 12) = .bool true from hh 32 (by decide)) ⟨rfl, below_trans HW8.out hb⟩
end Go.Proofs.Ytpgppninmnplkaa
