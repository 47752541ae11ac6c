/- The law FieldLine. -/
import Derived.Test.YtcniajbfgfikjaaDoorFldS
namespace Go.Proofs.YtcniajbfgfikjaaDoor
open Go.RowKit

theorem tok_no_colon {n : ByteArray} (h : tokS n = true) : ∀ c ∈ n.data.toList, c ≠ 58 := fun c hc => by
  unfold tokS at h
  simp only [Bool.and_eq_true] at h
  have h1 := List.all_eq_true.1 h.1 c hc
  intro e
  subst e
  have : tokB 58 = false := by decide +kernel
  rw [this] at h1; cases h1
theorem val_trim {v : ByteArray} (h : valS v = true) : trimBA v = v := by
  unfold valS at h
  simp only [Bool.and_eq_true] at h
  have h2 := h.2
  rw [toList_eq] at h2
  exact of_decide_eq_true h2
/-- The line of a valid field is parsed to the field. -/
theorem parse_line (n v P : ByteArray) (hn : tokS n = true) (hv : valS v = true) (hP : P.data.toList = n.data.toList ++ 58 :: 32 :: v.data.toList) : parseF P = some (n, v) := by
  have hnl : n.data.toList.length = n.size := by rw [Array.length_toList]; rfl
  have hsz : P.size = n.size + (2 + v.data.toList.length) := by
    have : P.size = P.data.toList.length := by rw [Array.length_toList]; rfl
    rw [this, hP, List.length_append, hnl]; simp; omega
  have hlt : n.size < P.size := by omega
  have hat : P.data.toList[n.size]? = some 58 := by
    rw [hP, List.getElem?_append_right (by omega), hnl, Nat.sub_self]; rfl
  have hc : colonI P = (n.size : Int) := by
    refine colonI_at P n.size hlt ?_ (fun j hj => ?_)
    · have h2 : P.data.toList[n.size]? = some P[n.size] := by
        rw [List.getElem?_eq_getElem (by simpa using hlt)]; rfl
      rw [hat] at h2
      exact (Option.some.inj h2).symm
    · rw [hP, List.getElem?_append_left (by omega)]
      intro e
      exact tok_no_colon hn 58 (List.mem_of_getElem? e) rfl
  rw [parseF_at hc]
  have e1 : P.extract 0 n.size = n := ba_ext (by
    rw [extract_ofL]
    show (ofL _).data.toList = _
    simp only [ofL, List.drop_zero, Nat.sub_zero, hP]
    rw [List.take_left' hnl])
  have e2 : trimBA (P.extract (n.size + 1) P.size) = v := by
    rw [← val_trim hv]
    refine ba_ext ?_
    rw [trimBA_list, trimBA_list, extract_ofL]
    have e3 : (P.data.toList.drop (n.size + 1)).take (P.size - (n.size + 1)) = 32 :: v.data.toList := by
      rw [hP, show n.size + 1 = n.data.toList.length + 1 by omega, List.drop_append, List.drop_of_length_le (by omega), Nat.add_sub_cancel_left, List.nil_append]
      show List.take _ (32 :: v.data.toList) = _
      exact List.take_of_length_le (by rw [List.length_cons]; omega)
    show trimL (ofL ((P.data.toList.drop (n.size + 1)).take (P.size - (n.size + 1)))).data.toList = _
    rw [e3]
    show trimL (32 :: v.data.toList) = _
    rw [trimL_front _ 32 (by decide)]
  rw [e1, e2, if_pos (by unfold fldB; rw [hn, hv]; rfl)]

theorem fmt_one (n v : ByteArray) (h : fldB n v = true) : (fmtS [((n, v) : Fld)]).data.toList = lineB (n, v) := by
  unfold fmtS
  have : allB [((n, v) : Fld)] = true := by unfold allB; simp [h]
  rw [if_pos this]
  show (linesB [(n, v)]) = _
  unfold linesB; simp
theorem fmt_size (n v : ByteArray) (h : fldB n v = true) : (fmtS [((n, v) : Fld)]).size = n.size + v.size + 4 := by
  have h1 := fmt_one n v h
  have h2 := lineB_len (n, v)
  rw [← h1, Array.length_toList] at h2
  exact h2
theorem parse_fmt (n v : ByteArray) (h : fldB n v = true) : parseF ((fmtS [((n, v) : Fld)]).extract 0 ((fmtS [((n, v) : Fld)]).size - 2)) = some (n, v) := by
  have h0 := h
  unfold fldB at h0
  simp only [Bool.and_eq_true] at h0
  refine parse_line n v _ h0.1 h0.2 ?_
  have hz := fmt_size n v h
  have h1 := fmt_one n v h
  rw [extract_ofL]
  show (ofL _).data.toList = _
  rw [ofL_list, List.drop_zero, Nat.sub_zero, hz, h1]
  unfold lineB
  have e1 : n.data.toList.length = n.size := by rw [Array.length_toList]; rfl
  have e2 : v.data.toList.length = v.size := by rw [Array.length_toList]; rfl
  show List.take (n.size + v.size + 4 - 2) (n.data.toList ++ [58, 32] ++ v.data.toList ++ [13, 10]) = _
  rw [List.take_left' (by simp only [List.length_append, List.length_cons, List.length_nil, e1, e2]; omega)]
  simp
theorem fFormat_one (n v : ByteArray) (b cb : Nat) (w : World) (h : FldsIn w (some ⟨b, 0, none⟩) [(n, v)]) (hn : n.size ≤ 1048576) (hv : v.size ≤ 1048576) :
    Calls Tryd.prog 25 #[.slice (some ⟨b, 0, none⟩) 1 cb] w fun e w' => e = .returned (.string (fmtS [(n, v)])) ∧ Below w.heap.size w w' :=
  fFormat_any [(n, v)] _ cb w h (fun f hf => by simp at hf; subst hf; exact ⟨hn, hv⟩) (by show 1 ≤ 1000000; decide)
theorem below_box1 {w w1 w2 : World} (h : Below w.heap.size w w1) (hg : w1.grownBy w2 (some (w.heap.size + 1))) : Below w.heap.size w w2 :=
  h.grown hg h.size fun k e => by have := Option.some.inj e; omega
theorem src_box1 {w : World} {a : Option Addr} {n c : Nat} (h : IntsF w a n) (hn : n ≤ maxLen) (o : Obj) : Src ((w.alloc o).alloc (.cells #[.slice a n c, .int .i64 0] 47)) (w.heap.size + 1) a n c := by
  have h1 := src_box (c := c) (h.alloc o) hn
  rw [World.size_alloc] at h1
  exact h1

set_option maxRecDepth 100000 in
set_option maxHeartbeats 2000000 in
theorem fieldLine_any (b : Option Addr) (n c : Nat) (rn rv : ByteArray) (w : World) (hi : IntsF w b n) (hn : n ≤ maxLen) (h1 : rn.size ≤ 1048576) (h2 : rv.size ≤ 1048576) :
    Calls Tryd.prog 7 #[.slice b n c, .agg #[.string rn, .string rv]] w fun e w' => e = .returned (.bool true) ∧ Below w.heap.size w w' := by
  have H0 := Box.mk (src_box1 (c := c) hi hn (.cells #[.string rn, .string rv] 28))
  have HV := Box.mk ((FVar.new w rn rv).keep (below_oneF _ (.cells #[.slice b n c, .int .i64 0] 47)))
  have HBB := Box.mk (below_twoF (below_oneF w (.cells #[.string rn, .string rv] 28)) (.cells #[.slice b n c, .int .i64 0] 47))
  clear hi hn
  go_enter Tryd.func7, Tryd.ntmps7
  go_wp2_with fail
  refine (srcField_any (w.heap.size + 1) b n c _ H0.out).mono ?_
  rintro e w0 ⟨⟨nm, vl⟩, rfl, hmd, hsrc, hg⟩
  have HB0 := Box.mk (below_box1 HBB.out hg)
  have HV0 := Box.mk (HV.out.grown hg (fun e => by have := Option.some.inj e; omega))
  have HMD := Box.mk (show fldB nm vl = true ∧ nm.size ≤ 1048576 ∧ vl.size ≤ 1048576 from ⟨hmd.1, Nat.le_trans hmd.2.1 (by decide), Nat.le_trans hmd.2.2 (by decide)⟩)
  clear hmd hsrc hg H0 HV HBB
  have hlt : w.heap.size < w0.heap.size := HV0.out.lt
  have hr0 := HV0.out.c0
  have hr1 := HV0.out.c1
  have HV1 := Box.mk (HV0.out.keep (below_oneF w0 (.cells #[.string nm, .string vl] 28)))
  have HQ := Box.mk (FVar.new w0 nm vl)
  have HB1 := Box.mk (below_twoF HB0.out (.cells #[.string nm, .string vl] 28))
  go_wp2_with fail
  refine (refFieldValid_any rn rv _ (le_maxLen h1) (le_maxLen h2)).mono ?_
  rintro e w2 ⟨he, hb2⟩
  have HV2 := Box.mk (HV1.out.keep hb2)
  have HQ2 := Box.mk (HQ.out.keep hb2)
  have HB2 := Box.mk (below_trans HB1.out hb2)
  clear hb2 HV1 HQ HB1 hr0 hr1
  cases hv : fldB rn rv with
  | false =>
    rw [hv] at he
    subst he
    clear hv
    have hd0 := HQ2.out.c0
    have hd1 := HQ2.out.c1
    go_wp2_with fail
    have HFI := Box.mk (fldsIn_one w2 nm vl)
    have HN := Box.mk (below_twoF HB2.out (.cells #[.string nm, .string vl] 28))
    have HQN := Box.mk (HQ2.out.keep (below_oneF w2 (.cells #[.string nm, .string vl] 28)))
    refine (fFormat_one nm vl _ _ _ HFI.out HMD.out.2.1 HMD.out.2.2).mono ?_
    rintro e w3 ⟨he3, hb3⟩
    obtain ⟨S, HS⟩ : ∃ S, Box (fmtS [((nm, vl) : Fld)] = S) := ⟨_, ⟨rfl⟩⟩
    rw [HS.out] at he3
    subst he3
    have HPF := Box.mk (show parseF (S.extract 0 (S.size - 2)) = some (nm, vl) by rw [← HS.out]; exact parse_fmt nm vl HMD.out.1)
    have hss : 4 ≤ S.size := by rw [← HS.out, fmt_size nm vl HMD.out.1]; omega
    have hsu : S.size ≤ 10000000 := by rw [← HS.out, fmt_size nm vl HMD.out.1]; have := HMD.out.2.1; have := HMD.out.2.2; omega
    have HSM := Box.mk (show (S.extract 0 (S.size - 2)).size ≤ maxLen by
      refine Nat.le_trans (extract_le _ _ _) ?_
      rw [← HS.out, fmt_size nm vl HMD.out.1]
      have := HMD.out.2.1
      have := HMD.out.2.2
      unfold maxLen; omega)
    have HQ3 := Box.mk (HQN.out.keep hb3)
    have HB3 := Box.mk (below_trans HN.out hb3)
    clear hb3 HN HQN HS hd0 hd1
    go_wp2_with fail
    refine (fParse_any (S.extract 0 (S.size - 2)) _ HSM.out).mono ?_
    rintro e w4 ⟨he, hb4⟩
    rw [HPF.out] at he
    simp only [parseV] at he
    subst he
    have HQ4 := Box.mk (HQ3.out.keep hb4)
    have HB4 := Box.mk (below_trans HB3.out hb4)
    have hlt4 : w0.heap.size < w4.heap.size := HQ4.out.lt
    have hd0 := HQ4.out.c0
    have hd1 := HQ4.out.c1
    clear hb4 HQ3 HB3
    go_wp2_with fail
    have HB5 := Box.mk (below_twoF HB4.out (.cells #[.string nm, .string vl] 28))
    refine (awakeF_any _).mono ?_
    rintro e w6 ⟨rfl, hb6⟩
    have HB6 := Box.mk (below_trans HB5.out hb6)
    clear hb6 hd0 hd1 hlt4
    go_wp2_with fail
    go_ret
    exact ⟨rfl, HB6.out⟩
  | true =>
    rw [hv] at he
    subst he
    have HVV := Box.mk hv
    have HSS := Box.mk (And.intro h1 h2)
    clear hv
    have hr0 := HV2.out.c0
    have hr1 := HV2.out.c1
    have HQ3 := Box.mk (show FVar (w2.setRow w0.heap.size #[.string rn, .string rv]) w0.heap.size rn rv from setRow_heap _ _ _ _ _ _ HQ2.out)
    have HB3 := Box.mk (below_setRow (g := w0.heap.size) HB2.out (by omega) #[.string rn, .string rv])
    have hd0 := HQ3.out.c0
    have hd1 := HQ3.out.c1
    go_wp2_with (refine wpList_store_row rfl 28 _ _ rfl w0.heap.size #[.string rn, .string rv] rfl rfl 28 _ HQ2.out sizeF rfl (oneF _ _) ?_)
    clear hr0 hr1 HV2 HQ2 HB2
    have HFI := Box.mk (show FldsIn ((w2.setRow w0.heap.size #[.string rn, .string rv]).alloc (.cells #[.string rn, .string rv] 28)) (some ⟨w2.heap.size, 0, none⟩) [(rn, rv)] by
      have h := fldsIn_one (w2.setRow w0.heap.size #[.string rn, .string rv]) rn rv
      rw [show (w2.setRow w0.heap.size #[.string rn, .string rv]).heap.size = w2.heap.size by simp [World.setRow]] at h
      exact h)
    generalize w2.setRow w0.heap.size #[.string rn, .string rv] = W at *
    have HN := Box.mk (below_twoF HB3.out (.cells #[.string rn, .string rv] 28))
    have HQN := Box.mk (HQ3.out.keep (below_oneF W (.cells #[.string rn, .string rv] 28)))
    refine (fFormat_one rn rv _ _ _ HFI.out HSS.out.1 HSS.out.2).mono ?_
    rintro e w3 ⟨he3, hb3⟩
    obtain ⟨S, HS⟩ : ∃ S, Box (fmtS [((rn, rv) : Fld)] = S) := ⟨_, ⟨rfl⟩⟩
    rw [HS.out] at he3
    subst he3
    have HPF := Box.mk (show parseF (S.extract 0 (S.size - 2)) = some (rn, rv) by rw [← HS.out]; exact parse_fmt rn rv HVV.out)
    have hss : 4 ≤ S.size := by rw [← HS.out, fmt_size rn rv HVV.out]; omega
    have hsu : S.size ≤ 10000000 := by rw [← HS.out, fmt_size rn rv HVV.out]; have := HSS.out.1; have := HSS.out.2; omega
    have HSM := Box.mk (show (S.extract 0 (S.size - 2)).size ≤ maxLen by
      refine Nat.le_trans (extract_le _ _ _) ?_
      rw [← HS.out, fmt_size rn rv HVV.out]
      have := HSS.out.1
      have := HSS.out.2
      unfold maxLen; omega)
    have HQ3 := Box.mk (HQN.out.keep hb3)
    have HB3 := Box.mk (below_trans HN.out hb3)
    clear hb3 HN HQN HS hd0 hd1
    go_wp2_with fail
    refine (fParse_any (S.extract 0 (S.size - 2)) _ HSM.out).mono ?_
    rintro e w4 ⟨he, hb4⟩
    rw [HPF.out] at he
    simp only [parseV] at he
    subst he
    have HQ4 := Box.mk (HQ3.out.keep hb4)
    have HB4 := Box.mk (below_trans HB3.out hb4)
    have hlt4 : w0.heap.size < w4.heap.size := HQ4.out.lt
    have hd0 := HQ4.out.c0
    have hd1 := HQ4.out.c1
    clear hb4 HQ3 HB3
    go_wp2_with fail
    have HB5 := Box.mk (below_twoF HB4.out (.cells #[.string rn, .string rv] 28))
    refine (awakeF_any _).mono ?_
    rintro e w6 ⟨rfl, hb6⟩
    have HB6 := Box.mk (below_trans HB5.out hb6)
    clear hb6 hd0 hd1 hlt4
    go_wp2_with fail
    go_ret
    exact ⟨rfl, HB6.out⟩
end Go.Proofs.YtcniajbfgfikjaaDoor
