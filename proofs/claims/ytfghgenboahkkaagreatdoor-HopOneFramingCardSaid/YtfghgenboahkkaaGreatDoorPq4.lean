/- The reference's Strip. One field with one element more: the project's extend, the reference's list, Via of both. Copies of slices of bytes. The law FieldWithout. Opening the arguments of the laws on fields. Opening a request and a reply among the arguments. Targets and versions, in the reference. FormatRequestLine of the reference. A slice of bytes of the call's own, beside other memory: what an append leaves alone. Bytes of the source. The ID that the source makes. The request line, parsed: package startline and the reference. The request that the source makes: what is said of it. Queues: New, Valid, Room; the reference's. Forward, in the project. The request that the source makes. -/
import Derived.Test.YtfghgenboahkkaaGreatDoorPq3
import Derived.Lib.LazyBuf
import Derived.Laws.Bits64b
import Derived.Laws.RangeAny
import Derived.LoopTactic
import Derived.Deep.DeepCutAuto
import Derived.Deep.Matrix
import Derived.Laws.Tables
import Derived.Deep.CutBlock
namespace Go.Proofs.YtfghgenboahkkaaGreatDoor
open Go.RowKit
theorem refElements_lowA (w : World) (l : List Fld) (n : ByteArray) (a : Option Addr) (cap : Nat) (h : FldsIn w a l) (hz : ShortF l) (hn : n.size ≤ maxLen) (hl : l.length ≤ 1000000) (ht : total (valuesL l n) ≤ 4000000000) :
  Calls Tryz.prog 36 #[.slice a l.length cap, .string n] w (RetAcc w (listL (valuesL l n))) :=
 refElements_acc w l n a cap h hz hn hl ht
theorem namesR_len {l : List Fld} (h : total (valuesL l cnN) ≤ 3000000000) : (nineR ++ namedL (listL (valuesL l cnN))).length ≤ 4000000000 := by
 have h1 := namedL_len (listL (valuesL l cnN))
 have h2 := listL_length (valuesL l cnN)
 rw [List.length_append]; show 9 + _ ≤ _; omega
theorem prot_no {s : ByteArray} (h : protB s = false) : foldS s hostLo = false ∧ foldS s cookN = false := by
 unfold protB at h; rw [Bool.or_eq_false_iff] at h; exact h
theorem prot_cook {s : ByteArray} (h : protB s = true) (h2 : foldS s hostLo = false) : foldS s cookN = true := by
 rw [prot_second h2] at h; exact h
set_option maxRecDepth 100000 in
set_option maxHeartbeats 2000000 in
theorem refStrip_any (l : List Fld) (a : Option Addr) (cap : Nat) (w : World) (h : FldsIn w a l) (hz : ShortF l) (hl : l.length ≤ 1000000) (ht : total (valuesL l cnN) ≤ 3000000000) :
  Calls Tryz.prog 11 #[.slice a l.length cap] w (RetAccF w (stripL l)) := by
 have HA0 := Box.mk (acc_lits w nineR 9 rfl (by decide) (by decide) _ rfl)
 have HF0 := Box.mk (h.keep HA0.out.2)
 have HFW := Box.mk h
 have hnl := namesR_len ht
 have HN := Box.mk (namesR_short (l := l) (by omega))
 clear h
 obtain ⟨x, HX⟩ : ∃ x, Box (listL (valuesL l cnN) = x) := ⟨_, ⟨rfl⟩⟩
 have HXL := Box.mk (show ∀ y ∈ x, y.size ≤ maxLen by
  intro y hy; rw [← HX.out] at hy; have := listL_small hy; unfold maxLen; omega)
 have hxl : x.length ≤ 4000000000 := by rw [← HX.out]; have := listL_length (valuesL l cnN); omega
 go_enter Tryz.func11, Tryz.ntmps11
 go_wp2_with fail
 change Calls _ _ _ (w.alloc (.cells (nineR.map Value.string).toArray 9)) _
 obtain ⟨W, hW⟩ : ∃ W, W = w.alloc (.cells (nineR.map Value.string).toArray 9) := ⟨_, rfl⟩
 rw [← hW] at HA0 HF0 ⊢
 have HLT := Box.mk (show w.heap.size < W.heap.size by rw [hW, World.size_alloc]; exact Nat.lt_succ_self _)
 clear hW
 refine (refElements_lowA W l cnN a cap HF0.out hz (by decide) hl (by omega)).mono ?_
 rintro e w1 ⟨v1, rfl, hv1⟩
 rw [HX.out] at hv1
 have HA1 := Box.mk (show Acc w w1 (.slice (some ⟨w.heap.size, 0, none⟩) 9 9) (nineR ++ namedL (x.take 0)) from HA0.out.keep hv1.2)
 obtain ⟨a1, c1, P, rfl, hs1, hP⟩ := acc_beside hv1 HLT.out (u := .slice (some ⟨w.heap.size, 0, none⟩) 9 9) rfl
 have HP1 := Box.mk hP
 clear hs1 hv1 hP HA0 HF0 HLT
 go_wp2_with fail
 go_loopw [3, 5] (fun v iv wr => ∃ k : Nat, k ≤ x.length ∧ iv = .int .i64 k ∧ Box (Acc w wr v (nineR ++ namedL (x.take k)) ∧ (x ≠ [] → Aside wr v P x))) (fun _ iv _ => x.length - (intOf iv).toNat)
 case atStart => exact ⟨0, Nat.zero_le _, rfl, ⟨HA1.out, fun e => (HP1.out e).2⟩⟩
 case round =>
  clear HA1
  obtain ⟨k, hk, rfl, HM⟩ := hrel
  have hnl1 := namedL_len (x.take k)
  have hnl2 : (x.take k).length ≤ k := List.length_take_le _ _
  have hnn : (nineR ++ namedL (x.take k)).length ≤ 4000000009 := by rw [List.length_append]; show 9 + _ ≤ _; omega
  by_cases hlt : k < x.length
  · have hne : x ≠ [] := fun e => by rw [e] at hlt; exact absurd hlt (Nat.not_lt_zero _)
    obtain ⟨rfl, _⟩ := HP1.out hne
    have HASD := Box.mk (HM.out.2 hne)
    obtain ⟨b, off, hbe, hc⟩ := HASD.out.1 k hlt
    have hbe2 := Option.some.inj hbe
    injection hbe2 with e1 e2
    subst e1 e2
    rw [Nat.zero_add] at hc
    clear hbe hne
    have HSZ := Box.mk (HXL.out _ (List.getElem_mem hlt))
    cases hp : protB x[k] with
    | true =>
     have HT := Box.mk (named_no x k hlt hp)
     cases h1 : foldS x[k] hostLo with
     | true =>
      have HP := Box.mk h1
      clear hp h1
      generalize x[k] = f at *
      go_wp2_with fail
      refine (refFold_any f hostLo _ HSZ.out (by decide)).mono ?_
      rintro e w2 ⟨he, hb⟩
      rw [HP.out] at he
      subst he
      have HM2 := Box.mk (show Acc w w2 _ (nineR ++ namedL (x.take (k + 1))) ∧ (x ≠ [] → Aside w2 _ P x) by rw [HT.out]; exact ⟨HM.out.1.keep hb, fun _ => HASD.out.keep hb⟩)
      clear hb HM HT HP hc hnl1 hnl2 hnn
      go_wp2_with fail
      go_roundw
      case rel => exact ⟨k + 1, by omega, by go_num, HM2⟩
      case measure => simp [intOf]; omega
     | false =>
      have HP := Box.mk h1
      have HP2 := Box.mk (prot_cook hp h1)
      clear hp h1
      generalize x[k] = f at *
      go_wp2_with fail
      refine (refFold_any f hostLo _ HSZ.out (by decide)).mono ?_
      rintro e w2 ⟨he, hb⟩
      rw [HP.out] at he
      subst he
      have hc2 := below_cell hb hc
      have HM2 := Box.mk (And.intro (HM.out.1.keep hb) (HASD.out.keep hb))
      clear hb HM HASD hc hnl1 hnl2 hnn
      go_wp2_with fail
      refine (refFold_any f cookN _ HSZ.out (by decide)).mono ?_
      rintro e w3 ⟨he, hb⟩
      rw [HP2.out] at he
      subst he
      have HM3 := Box.mk (show Acc w w3 _ (nineR ++ namedL (x.take (k + 1))) ∧ (x ≠ [] → Aside w3 _ P x) by rw [HT.out]; exact ⟨HM2.out.1.keep hb, fun _ => HM2.out.2.keep hb⟩)
      clear hb HM2 HT HP HP2 hc2
      go_wp2_with fail
      go_roundw
      case rel => exact ⟨k + 1, by omega, by go_num, HM3⟩
      case measure => simp [intOf]; omega
    | false =>
     have HT := Box.mk (named_yes x k hlt hp)
     have HP := Box.mk (prot_no hp)
     clear hp
     generalize x[k] = f at *
     obtain ⟨y, hy⟩ : ∃ y, y = nineR ++ namedL (x.take k) := ⟨_, rfl⟩
     have HY := Box.mk (show nineR ++ namedL (x.take (k + 1)) = y ++ [f] by rw [HT.out, hy, List.append_assoc])
     rw [← hy] at HM hnn
     clear hy HT
     go_wp2_with fail
     refine (refFold_any f hostLo _ HSZ.out (by decide)).mono ?_
     rintro e w2 ⟨he, hb⟩
     rw [HP.out.1] at he
     subst he
     have hc2 := below_cell hb hc
     have HM2 := Box.mk (And.intro (HM.out.1.keep hb) (HASD.out.keep hb))
     clear hb HM HASD hc hnl1 hnl2
     go_wp2_with fail
     refine (refFold_any f cookN _ HSZ.out (by decide)).mono ?_
     rintro e w3 ⟨he, hb⟩
     rw [HP.out.2] at he
     subst he
     have hc3 := below_cell hb hc2
     have HM3 := Box.mk (And.intro (HM2.out.1.keep hb) (HM2.out.2.keep hb))
     clear hb HM2 HP hc2
     go_wp2_with (at_builtin; refine wpList_append_acc _ rfl _ _ rfl rfl (HM3.out.1.keep ((Below.refl _ _).alloc (Nat.le_refl _) _)) rfl (y := f) ?c1 ?c2 ?c3)
     case c1 => simp
     case c2 => omega
     case c3 =>
      intro g cap' w' hacc has
      have HACC := Box.mk (show Acc w w' (.slice (some ⟨g, 0, none⟩) (y.length + 1) cap') (nineR ++ namedL (x.take (k + 1))) ∧ (x ≠ [] → Aside w' (.slice (some ⟨g, 0, none⟩) (y.length + 1) cap') P x) by
       rw [HY.out]; exact ⟨hacc, fun _ => has _ _ (HM3.out.2.keep (below_oneF _ _))⟩)
      clear hacc has HM3 HY
      go_wp2_with fail
      go_roundw
      case rel => exact ⟨k + 1, by omega, by go_num, HACC⟩
      case measure => simp [intOf]; omega
  · have HE := Box.mk (show Acc w wr _ (nineR ++ namedL (listL (valuesL l cnN))) by
     have h1 := HM.out.1
     rw [List.take_of_length_le (by omega), ← HX.out] at h1; exact h1)
    clear HM hnl1 hnl2 hnn
    obtain ⟨z, hz2⟩ : ∃ z, z = nineR ++ namedL (listL (valuesL l cnN)) := ⟨_, rfl⟩
    rw [← hz2] at HE HN hnl
    have HZ2 := Box.mk (show withoutL l z = stripL l by rw [hz2]; exact strip_ref l)
    clear hz2
    obtain ⟨a', cap', rfl, hs⟩ := HE.out.shape
    have HS := Box.mk (StrsIn.of_at hs)
    clear hs
    go_wp2_with fail
    refine (refWithout_acc l z a a' cap cap' wr (HFW.out.keep HE.out.2) hz HS.out HN.out hl hnl).mono ?_
    rintro e w2 ⟨v2, rfl, hv2⟩
    rw [HZ2.out] at hv2
    have HV := Box.mk (AccF.lift HE.out.2 hv2)
    clear hv2
    go_wp2_with fail
    go_ret
    exact ⟨v2, rfl, HV.out⟩
theorem total_snoc (x : List ByteArray) (y : ByteArray) : total (x ++ [y]) = total x + y.size + 1 := by rw [total_append]; simp [total]; omega
set_option maxRecDepth 100000 in
set_option maxHeartbeats 2000000 in
theorem hExt_any (l : List Fld) (n last : ByteArray) (a : Option Addr) (cap : Nat) (w : World) (mm : Int) (h : FldsIn w a l) (hz : ShortF l) (hn : n.size ≤ maxLen) (hl : l.length ≤ 900000) (hm : MaxOk w mm) (ht : total (valuesL l n) ≤ 4000000000) (hs : last.size ≤ 4000000000) :
  Calls Tryz.prog 39 #[.slice a l.length cap, .string n, .string last] w (RetAccF w (extL l n last)) := by
 have H0 := Box.mk h
 have HM := Box.mk hm
 have HNZ := Box.mk hn
 clear h hm hn
 obtain ⟨x, HX⟩ : ∃ x, Box (listL (valuesL l n) = x) := ⟨_, ⟨rfl⟩⟩
 have hxl : x.length ≤ 4000000000 := by rw [← HX.out]; have := listL_length (valuesL l n); omega
 have HXT := Box.mk (show total (x ++ [last]) ≤ 70000000000000 by
  rw [total_snoc, ← HX.out]; have := total_listL (valuesL l n); omega)
 go_enter Tryz.func39, Tryz.ntmps39
 go_wp2_with fail
 refine (fElements_acc w mm l n a cap H0.out hz HNZ.out (by omega) HM.out ht).mono ?_
 rintro e w1 ⟨v1, rfl, hv1⟩
 rw [HX.out] at hv1
 have HA1 := Box.mk hv1
 clear hv1
 go_wp2_with (at_builtin; refine wpList_append_acc _ rfl _ _ rfl rfl (HA1.out.keep ((Below.refl _ _).alloc (Nat.le_refl _) _)) rfl (y := last) ?c1 ?c2 ?c3)
 case c1 => simp
 case c2 => omega
 case c3 =>
  intro g cap' w' hacc has
  have HA2 := Box.mk hacc
  clear hacc has HA1
  obtain ⟨y, HY⟩ : ∃ y, Box (y = x ++ [last]) := ⟨_, ⟨rfl⟩⟩
  rw [← HY.out] at HA2 HXT
  have HYL := Box.mk (show y.length = x.length + 1 by rw [HY.out, List.length_append]; rfl)
  have hyne : y ≠ [] := by rw [HY.out]; simp
  obtain ⟨g2, c2, hv2, hcap, hlt2, hs2⟩ := HA2.out.lies hyne
  injection hv2 with e1 e2 e3
  have e1 := Option.some.inj e1
  injection e1 with e1
  subst e1 e3
  have HJ := Box.mk (And.intro hlt2 (And.intro (show x.length + 1 ≤ cap' by rw [← HYL.out]; exact hcap) hs2))
  have HB2 := Box.mk HA2.out.2
  clear hyne hcap hlt2 hs2 e2 HA2
  go_wp2_with fail
  have hbs := below_oneF w' (.cells #[.string n] 9)
  refine (fWithout_acc l [n] a _ cap 1 _ (H0.out.keep (below_trans HB2.out hbs)) hz (strsIn_one w' n _) (by intro z hz; obtain rfl := List.mem_singleton.1 hz; exact HNZ.out) (by omega) (by show 1 ≤ 4000000000; decide)).mono ?_
  rintro e w3 ⟨v3, rfl, hv3⟩
  have HA3 := Box.mk (AccF.lift hbs hv3)
  clear hv3 hbs
  go_wp2_with fail
  refine (sJoin_len y (x.length + 1) g cap' w3 HYL.out (HJ.out.2.2.keep HA3.out.2) (Nat.lt_of_lt_of_le HJ.out.1 HA3.out.2.size) HJ.out.2.1 HXT.out).mono ?_
  rintro e w4 ⟨rfl, hb4⟩
  obtain ⟨s, HS⟩ : ∃ s, Box (joinS y = s) := ⟨_, ⟨rfl⟩⟩
  rw [HS.out]
  obtain ⟨a3, c3, rfl, hs3⟩ := HA3.out.shapeC
  have HF3 := Box.mk (hs3.keep hb4)
  have HB4 := Box.mk (below_trans HB2.out (below_trans HA3.out.2 hb4))
  have hz3 := withoutL_len l [n]
  clear hs3 hb4 HA3 HJ
  go_wp2_with fail
  have hbf := below_oneF w4 (.cells #[.string n, .string s] 69)
  refine (fWith_acc (withoutL l [n]) [(n, s)] a3 _ c3 1 _ (HF3.out.keep hbf) ⟨fldsIn_one w4 n s, fun e => by cases e⟩ (by omega) (by show 1 ≤ 1000000; decide)).mono ?_
  rintro e w5 ⟨v5, rfl, hv5⟩
  have HE := Box.mk (show AccF w w5 v5 (extL l n last) by
   unfold extL
   rw [HX.out, ← HY.out, HS.out]
   exact AccF.lift (below_trans HB4.out hbf) hv5)
  clear hv5 hbf
  go_wp2_with fail
  go_ret
  exact ⟨v5, rfl, HE.out⟩
set_option maxRecDepth 100000 in
set_option maxHeartbeats 2000000 in
theorem refExt_any (l : List Fld) (n last : ByteArray) (a : Option Addr) (cap : Nat) (w : World) (h : FldsIn w a l) (hz : ShortF l) (hn : n.size ≤ maxLen) (hl : l.length ≤ 900000) (ht : total (valuesL l n) ≤ 4000000000) (hs : last.size ≤ 4000000000) :
  Calls Tryz.prog 40 #[.slice a l.length cap, .string n, .string last] w (RetAccF w (extL l n last)) := by
 have H0 := Box.mk h
 have HNZ := Box.mk hn
 clear h hn
 obtain ⟨x, HX⟩ : ∃ x, Box (listL (valuesL l n) = x) := ⟨_, ⟨rfl⟩⟩
 have hxl : x.length ≤ 4000000000 := by rw [← HX.out]; have := listL_length (valuesL l n); omega
 have HXT := Box.mk (show total (x ++ [last]) ≤ 70000000000000 by
  rw [total_snoc, ← HX.out]; have := total_listL (valuesL l n); omega)
 go_enter Tryz.func40, Tryz.ntmps40
 go_wp2_with fail
 refine (refElements_acc w l n a cap H0.out hz HNZ.out (by omega) ht).mono ?_
 rintro e w1 ⟨v1, rfl, hv1⟩
 rw [HX.out] at hv1
 have HA1 := Box.mk hv1
 clear hv1
 go_wp2_with (at_builtin; refine wpList_append_acc _ rfl _ _ rfl rfl (HA1.out.keep ((Below.refl _ _).alloc (Nat.le_refl _) _)) rfl (y := last) ?c1 ?c2 ?c3)
 case c1 => simp
 case c2 => omega
 case c3 =>
  intro g cap' w' hacc has
  have HA2 := Box.mk hacc
  clear hacc has HA1
  obtain ⟨y, HY⟩ : ∃ y, Box (y = x ++ [last]) := ⟨_, ⟨rfl⟩⟩
  rw [← HY.out] at HA2 HXT
  have HYL := Box.mk (show y.length = x.length + 1 by rw [HY.out, List.length_append]; rfl)
  have hyne : y ≠ [] := by rw [HY.out]; simp
  obtain ⟨g2, c2, hv2, hcap, hlt2, hs2⟩ := HA2.out.lies hyne
  injection hv2 with e1 e2 e3
  have e1 := Option.some.inj e1
  injection e1 with e1
  subst e1 e3
  have HJ := Box.mk (And.intro hlt2 (And.intro (show x.length + 1 ≤ cap' by rw [← HYL.out]; exact hcap) hs2))
  have HB2 := Box.mk HA2.out.2
  clear hyne hcap hlt2 hs2 e2 HA2
  go_wp2_with fail
  have hbs := below_oneF w' (.cells #[.string n] 9)
  refine (refWithout_acc l [n] a _ cap 1 _ (H0.out.keep (below_trans HB2.out hbs)) hz (strsIn_one w' n _) (by intro z hz; obtain rfl := List.mem_singleton.1 hz; exact HNZ.out) (by omega) (by show 1 ≤ 4000000000; decide)).mono ?_
  rintro e w3 ⟨v3, rfl, hv3⟩
  have HA3 := Box.mk (AccF.lift hbs hv3)
  clear hv3 hbs
  go_wp2_with fail
  refine (refJoin_len y (x.length + 1) _ cap' w3 HYL.out (HJ.out.2.2.keep HA3.out.2) HXT.out).mono ?_
  rintro e w4 ⟨rfl, hb4⟩
  obtain ⟨s, HS⟩ : ∃ s, Box (joinS y = s) := ⟨_, ⟨rfl⟩⟩
  rw [HS.out]
  have HA4 := Box.mk (HA3.out.keep hb4)
  have hz3 := withoutL_len l [n]
  clear hb4 HA3 HJ
  go_wp2_with (at_builtin; refine wpList_append_accf _ rfl _ _ rfl rfl (HA4.out.keep ((Below.refl _ _).alloc (Nat.le_refl _) _)) rfl (y := (n, s)) (by simp) (by simp) ?d3 ?d4)
  case d3 => omega
  case d4 =>
   intro g5 c5 w5 hacc
   have HE := Box.mk (show AccF w w5 (.slice (some ⟨g5, 0, none⟩) ((withoutL l [n]).length + 1) c5) (extL l n last) by
    unfold extL
    rw [HX.out, ← HY.out, HS.out]
    exact AccF.lift HB2.out hacc)
   clear hacc HA4
   go_wp2_with fail
   go_ret
   exact ⟨_, rfl, HE.out⟩
set_option maxHeartbeats 1000000 in
theorem hVia_any (l : List Fld) (a : Option Addr) (cap : Nat) (w : World) (mm : Int) (h : FldsIn w a l) (hz : ShortF l) (hl : l.length ≤ 900000) (hm : MaxOk w mm) (ht : total (valuesL l viaP) ≤ 4000000000) :
  Calls Tryz.prog 12 #[.slice a l.length cap] w (RetAccF w (viaL l)) := by
 have H0 := Box.mk h
 have HM := Box.mk hm
 clear h hm
 go_enter Tryz.func12, Tryz.ntmps12
 go_wp2_with fail
 refine (hExt_any l viaP selfP a cap w mm H0.out hz (by decide) hl HM.out ht (by decide)).mono ?_
 rintro e w1 ⟨v1, rfl, hv1⟩
 have HV := Box.mk (show AccF w w1 v1 (viaL l) from hv1)
 clear hv1
 go_wp2_with fail
 go_ret
 exact ⟨v1, rfl, HV.out⟩
set_option maxHeartbeats 1000000 in
theorem refVia_any (l : List Fld) (a : Option Addr) (cap : Nat) (w : World) (h : FldsIn w a l) (hz : ShortF l) (hl : l.length ≤ 900000) (ht : total (valuesL l viaP) ≤ 4000000000) :
  Calls Tryz.prog 13 #[.slice a l.length cap] w (RetAccF w (viaL l)) := by
 have H0 := Box.mk h
 clear h
 go_enter Tryz.func13, Tryz.ntmps13
 go_wp2_with fail
 refine (refExt_any l viaP selfP a cap w H0.out hz (by decide) hl ht (by decide)).mono ?_
 rintro e w1 ⟨v1, rfl, hv1⟩
 have HV := Box.mk (show AccF w w1 v1 (viaL l) from hv1)
 clear hv1
 go_wp2_with fail
 go_ret
 exact ⟨v1, rfl, HV.out⟩
theorem AccB.freshB {w0 w : World} {v : Value} {l : List UInt8} (h : AccB w0 w v l) : ∃ a cap, v = .slice a l.length cap ∧ IsBytes w a l cap ∧ ∀ y, a = some y → w0.heap.size ≤ y.block := by
 obtain ⟨a, cap, e, hs⟩ := h.shape
 refine ⟨a, cap, e, hs, fun y ha => ?_⟩
 subst ha
 obtain ⟨⟨h1, h2⟩, _⟩ := h
 rcases h2 with ⟨rfl, h2⟩ | ⟨g, cap', cur, rfl, hg, _⟩
 · cases e
 · injection e with e1
   obtain rfl := Option.some.inj e1
   exact hg
set_option maxRecDepth 100000 in
set_option maxHeartbeats 1000000 in
theorem cloneB_new (l : List UInt8) (a : Option Addr) (c : Nat) (w : World) (h : IsBytes w a l c) (hl : l.length ≤ 4000000000) :
  Calls Tryz.prog 46 #[.slice a l.length c] w fun e w' => ∃ a' c', e = .returned (.slice a' l.length c') ∧ IsBytes w' a' l c' ∧ (∀ y, a' = some y → w.heap.size ≤ y.block) ∧ Below w.heap.size w w' := by
 rcases h with ⟨rfl, rfl, rfl⟩ | ⟨ad, rfl, hr1, hr2, hr3⟩
 · have hnil : ∀ W, (binOp .eql 29 (.slice none 0 0) (.slice none 0 0)).run Tryz.prog W = .ok (.bool true) W := fun W => run_eql_slice_nil W _ _ none 0 0 Tryz.underlying29
   simp only [List.length_nil]
   go_enter Tryz.func46, Tryz.ntmps46
   go_wp2_with fail
   go_ret
   exact ⟨none, 0, rfl, .inl ⟨rfl, rfl, rfl⟩, (fun y e => by cases e), Below.refl _ _⟩
 · have H0 := Box.mk (show IsBytes w (some ad) l c from .inr ⟨ad, rfl, hr1, hr2, hr3⟩)
   clear hr1 hr2 hr3
   have HE := Box.mk (AccB.empty w)
   have hnil : ∀ W, (binOp .eql 29 (.slice (some ad) l.length c) (.slice none 0 0)).run Tryz.prog W = .ok (.bool false) W := fun W => run_eql_slice_nil W _ _ (some ad) l.length c Tryz.underlying29
   go_enter Tryz.func46, Tryz.ntmps46
   go_wp2_with (at_builtin; refine wpList_append_accs _ rfl _ _ rfl rfl HE.out rfl (H0.out.keep (below_oneF _ _)) (by simp; omega) ?c1)
   case c1 =>
    intro v1 w1 hacc
    have H1 := Box.mk hacc
    clear hacc
    go_wp2_with fail
    go_ret
    obtain ⟨a2, c2, e2, h2, h3⟩ := H1.out.freshB
    exact ⟨a2, c2, by rw [e2]; rfl, h2, h3, H1.out.2⟩
theorem strsIn_twoF (w : World) (n m : ByteArray) (t : TypeId) : StrsIn (w.alloc (.cells #[.string n, .string m] t)) (some ⟨w.heap.size, 0, none⟩) [n, m] := fun j hj => by
 have hj' : j < 2 := by simpa using hj
 match j, hj' with
 | 0, _ => exact ⟨_, rfl, by rw [Addr.add_lit, new_cellF]; rfl⟩
 | 1, _ => exact ⟨_, rfl, by rw [Addr.add_lit, new_cellF]; rfl⟩
theorem same_true (x : List Fld) (a b : Option Addr) (ca cb : Nat) (w : World) (hx : FldsIn w a x) (hy : FldsIn w b x) (h : x.length ≤ 2000000) :
  Calls Tryz.prog 10 #[.slice a x.length ca, .slice b x.length cb] w fun e w' => e = .returned (.bool true) ∧ Below w.heap.size w w' := by
 refine (sameFields_any x x a b ca cb w hx hy h h).mono ?_
 rintro e w' ⟨rfl, hb⟩
 exact ⟨by rw [sameF_self], hb⟩
end Go.Proofs.YtfghgenboahkkaaGreatDoor
namespace Go.Proofs.YtfghgenboahkkaaGreatDoor
open Go.ChangeShapes Go.WideShapes Go.ChangeAt Go.RowKit
theorem fields_none {H : Type} {enc : TypeId × Value → H} {W : World} {a : Option Addr} {len cap : Nat} {d : DataW H} {ps : List MemPlace} {base : Nat}
  (h : DataW.Trod enc Tryz.prog W base (fun _ => true) true 23 (.slice a len cap) d ps) : a = none → len = 0 ∧ cap = 0 := by
 obtain ⟨fuel, hf⟩ := h
 rcases Go.Deep.open_slice_pairs Tryz.underlying23 Tryz.underlying69 (by kernel_rfl) (by kernel_rfl) (by kernel_rfl) (by kernel_rfl) (by kernel_rfl) hf with ⟨hcs, _⟩ | ⟨x, n, c, m, k, V0, V1, D0, D1, P0, P1, hcs, _⟩
 · simp [Value.cells] at hcs
   obtain ⟨rfl, rfl, rfl⟩ := hcs
   exact fun _ => ⟨rfl, rfl⟩
 · simp [Value.cells] at hcs
   obtain ⟨rfl, rfl, rfl⟩ := hcs
   intro e; cases e
theorem open_fieldsC {H : Type} {enc : TypeId × Value → H} {W : World} {a : Option Addr} {len cap : Nat} {d : DataW H} {ps : List MemPlace} {base : Nat}
  (h : DataW.Trod enc Tryz.prog W base (fun _ => true) true 23 (.slice a len cap) d ps) :
  ∃ l : List Fld, len = l.length ∧ FldsC W a l cap ∧ l.length ≤ cap ∧ cap ≤ maxLen ∧ ShortF l ∧ (Rows.uptoBulk d ≤ 1048576 → SmallF l) := by
 obtain ⟨l, rfl, h1, h2, h3, h4, h5⟩ := open_fields h
 refine ⟨l, rfl, ⟨h1, fun e => ?_⟩, h2, h3, h4, fun hb f hf => ⟨Nat.le_trans (h5 f hf).1 hb, Nat.le_trans (h5 f hf).2 hb⟩⟩
 obtain ⟨e1, e2⟩ := fields_none h e
 exact ⟨List.eq_nil_of_length_eq_zero e1, e2⟩
theorem i64_ofF {x : Int} (h : (Lit.int .i64 x).wf = true) : -9223372036854775808 ≤ x ∧ x ≤ 9223372036854775807 := bounds_i64 h
theorem open_intsf {H : Type} {enc : TypeId × Value → H} {W : World} {a : Option Addr} {len cap : Nat} {d : DataW H} {ps : List MemPlace} {base : Nat}
  (h : DataW.Trod enc Tryz.prog W base (fun _ => true) true 22 (.slice a len cap) d ps) : IntsF W a len ∧ len ≤ maxLen := by
 obtain ⟨fuel, hf⟩ := h
 rcases open_ints Tryz.underlying22 Tryz.underlying3 (by kernel_rfl) hf with ⟨hcs, _⟩ | ⟨x, l, c, zs, hcs, _, hl, hm, hz, _, hcell, hwz⟩
 · simp [Value.cells] at hcs
   obtain ⟨rfl, rfl, rfl⟩ := hcs
   exact ⟨fun k hk => absurd hk (Nat.not_lt_zero _), Nat.zero_le _⟩
 · simp [Value.cells] at hcs
   obtain ⟨rfl, rfl, rfl⟩ := hcs
   have hz' : zs.length = cap := by simpa using hz
   refine ⟨fun k hk => ?_, Nat.le_trans hl hm⟩
   have hk' : k < zs.length := by omega
   have e : zs.getD k 0 = zs[k] := by rw [List.getD_eq_getElem?_getD, List.getElem?_eq_getElem hk']; rfl
   refine ⟨x, zs[k], rfl, by rw [hcell k hk', e], i64_ofF (hwz zs[k] (List.getElem_mem _))⟩
set_option maxRecDepth 100000 in
theorem open_request {H : Type} {enc : TypeId × Value → H} {W : World} {r : Reach} {q0 : Nat} {v : Value} {d : DataW H} {ps : List MemPlace} {base : Nat} (hval : Value.okWide Tryz.prog W r q0 31 v)
  (h : DataW.Trod enc Tryz.prog W base (fun _ => true) true 31 v d ps) :
  ∃ (s0 : ByteArray) (s1 : ByteArray) (z2 : Int) (l3 : List Fld) (a3 : Option Addr) (c3 : Nat) (b4 : Bool) (l5 : List UInt8) (a5 : Option Addr) (c5 : Nat), v = .agg #[.string s0, .string s1, .int .i64 z2, .slice a3 l3.length c3, .bool b4, .slice a5 l5.length c5] ∧ s0.size ≤ maxLen ∧ s0.size ≤ Rows.uptoBulk d ∧ s1.size ≤ maxLen ∧ s1.size ≤ Rows.uptoBulk d ∧ (-9223372036854775808 ≤ z2 ∧ z2 ≤ 9223372036854775807) ∧ (FldsC W a3 l3 c3 ∧ l3.length ≤ c3 ∧ c3 ≤ maxLen ∧ ShortF l3 ∧ (Rows.uptoBulk d ≤ 1048576 → SmallF l3)) ∧ (IsBytes W a5 l5 c5 ∧ l5.length ≤ Rows.uptoBulk d) := by
 obtain ⟨cs, rfl, hsz⟩ := okWide_struct Tryz.underlying31 hval
 obtain ⟨fuel, hf⟩ := h
 have hsz2 : cs.size = 6 := by rw [hsz]; kernel_rfl
 obtain ⟨x0, x1, x2, x3, x4, x5, rfl⟩ : ∃ x0 x1 x2 x3 x4 x5, cs = #[x0, x1, x2, x3, x4, x5] := by
  match cs, hsz2 with
  | ⟨[x0, x1, x2, x3, x4, x5]⟩, _ => exact ⟨x0, x1, x2, x3, x4, x5, rfl⟩
 obtain ⟨ys, n, _, hdp, _, hlen, hfs⟩ := DataW.trod_struct Tryz.underlying31 hf
 obtain ⟨y0, y1, y2, y3, y4, y5, rfl⟩ : ∃ y0 y1 y2 y3 y4 y5, ys = [y0, y1, y2, y3, y4, y5] := by
  match ys, hlen with
  | [y0, y1, y2, y3, y4, y5], _ => exact ⟨y0, y1, y2, y3, y4, y5, rfl⟩
 have h0 : DataW.trod enc Tryz.prog W base (fun _ => true) true n 9 [x0] = some y0 := by
  have e : ((Value.agg #[x0, x1, x2, x3, x4, x5]).cells.toList.drop 0).take (Tryz.prog.cellsOf 9) = [x0] := by rw [show Tryz.prog.cellsOf 9 = 1 by kernel_rfl]; rfl
  rw [← e]; exact hfs 0 _ rfl
 have h1 : DataW.trod enc Tryz.prog W base (fun _ => true) true n 9 [x1] = some y1 := by
  have e : ((Value.agg #[x0, x1, x2, x3, x4, x5]).cells.toList.drop 1).take (Tryz.prog.cellsOf 9) = [x1] := by rw [show Tryz.prog.cellsOf 9 = 1 by kernel_rfl]; rfl
  rw [← e]; exact hfs 1 _ rfl
 have h2 : DataW.trod enc Tryz.prog W base (fun _ => true) true n 3 [x2] = some y2 := by
  have e : ((Value.agg #[x0, x1, x2, x3, x4, x5]).cells.toList.drop 2).take (Tryz.prog.cellsOf 3) = [x2] := by rw [show Tryz.prog.cellsOf 3 = 1 by kernel_rfl]; rfl
  rw [← e]; exact hfs 2 _ rfl
 have h3 : DataW.trod enc Tryz.prog W base (fun _ => true) true n 23 [x3] = some y3 := by
  have e : ((Value.agg #[x0, x1, x2, x3, x4, x5]).cells.toList.drop 3).take (Tryz.prog.cellsOf 23) = [x3] := by rw [show Tryz.prog.cellsOf 23 = 1 by kernel_rfl]; rfl
  rw [← e]; exact hfs 3 _ rfl
 have h4 : DataW.trod enc Tryz.prog W base (fun _ => true) true n 4 [x4] = some y4 := by
  have e : ((Value.agg #[x0, x1, x2, x3, x4, x5]).cells.toList.drop 4).take (Tryz.prog.cellsOf 4) = [x4] := by rw [show Tryz.prog.cellsOf 4 = 1 by kernel_rfl]; rfl
  rw [← e]; exact hfs 4 _ rfl
 have h5 : DataW.trod enc Tryz.prog W base (fun _ => true) true n 29 [x5] = some y5 := by
  have e : ((Value.agg #[x0, x1, x2, x3, x4, x5]).cells.toList.drop 5).take (Tryz.prog.cellsOf 29) = [x5] := by rw [show Tryz.prog.cellsOf 29 = 1 by kernel_rfl]; rfl
  rw [← e]; exact hfs 5 _ rfl
 have hd : d = .agg [y0.1, y1.1, y2.1, y3.1, y4.1, y5.1] := by have := congrArg Prod.fst hdp; simpa using this
 obtain ⟨s0, es0, fs0, zs0⟩ := DataW.trod_string Tryz.underlying9 h0
 injection es0 with es0
 subst es0
 have ls0 : s0.data.toList.length = s0.size := by rw [Array.length_toList]; rfl
 obtain ⟨s1, es1, fs1, zs1⟩ := DataW.trod_string Tryz.underlying9 h1
 injection es1 with es1
 subst es1
 have ls1 : s1.data.toList.length = s1.size := by rw [Array.length_toList]; rfl
 obtain ⟨z2, ez2, fz2, wz2⟩ := DataW.trod_int Tryz.underlying3 h2
 injection ez2 with ez2
 subst ez2
 obtain ⟨a3, len3, c3, rfl⟩ : ∃ a len cap, x3 = .slice a len cap := by
  rcases Go.Deep.open_slice_pairs Tryz.underlying23 Tryz.underlying69 (by kernel_rfl) (by kernel_rfl) (by kernel_rfl) (by kernel_rfl) (by kernel_rfl) h3 with ⟨hcs, _⟩ | ⟨x, k, c, m, j, V0, V1, D0, D1, P0, P1, hcs, _⟩
  · injection hcs with hcs; exact ⟨_, _, _, hcs⟩
  · injection hcs with hcs; exact ⟨_, _, _, hcs⟩
 obtain ⟨l3, rfl, hF3, hc3, hm3, hS3, hu3⟩ := open_fieldsC (d := y3.1) (ps := y3.2) ⟨n, h3⟩
 obtain ⟨b4, eb4, fb4⟩ := DataW.trod_bool Tryz.underlying4 h4
 injection eb4 with eb4
 subst eb4
 obtain ⟨a5, len5, c5, rfl⟩ : ∃ a len cap, x5 = .slice a len cap := by
  rcases open_ints Tryz.underlying29 Tryz.underlying5 (by kernel_rfl) h5 with ⟨hcs, _⟩ | ⟨x, k, c, zs, hcs, _⟩
  · injection hcs with hcs; exact ⟨_, _, _, hcs⟩
  · injection hcs with hcs; exact ⟨_, _, _, hcs⟩
 obtain ⟨l5, rfl, hb5, hl5⟩ := open_bytes_bulk (d := y5.1) (ps := y5.2) ⟨n, h5⟩
 subst hd
 subst fs0 fs1 fz2 fb4
 simp only [Rows.uptoBulk, Rows.uptoBulkAll, ls0, ls1]
 exact ⟨s0, s1, z2, l3, a3, c3, b4, l5, a5, c5, rfl, zs0, by omega, zs1, by omega, i64_ofF wz2, ⟨hF3, hc3, hm3, hS3, fun hb => hu3 (by omega)⟩, ⟨hb5, by omega⟩⟩
end Go.Proofs.YtfghgenboahkkaaGreatDoor
namespace Go.Proofs.YtfghgenboahkkaaGreatDoor
open Go.RowKit
def tgB (c : UInt8) : Bool := decide (33 ≤ (c.toNat : Int)) && decide ((c.toNat : Int) ≤ 126) && !decide ((c.toNat : Int) = 35)
def targetS (s : ByteArray) : Bool := s.data.toList.all tgB && (s.data.toList.head? == some 47)
section
variable {Q : Exit → Act → World → Prop} {a : Act} {w : World} {o : Oper} {s : Spec}
theorem loc_addS {x y : Operand} {t : TypeId} (ho : o.op = .binOp .add 9 x y t) {b c : ByteArray} (hx : a.eval x = .string b) (hy : a.eval y = .string c) (hn : b.size + c.size ≤ 4000000000) (hs : s.p (.string (b ++ c)) w) :
  o.wp Tryz.prog a w (fun a' w' => ∃ v, a' = a.put o.dst v ∧ Below w.heap.size w w' ∧ s.p v w') Q :=
 loc_run (v := .string (b ++ c)) (by
  have h := run_string_add_sum (P := Tryz.prog) (w := w) b c (by omega)
  unfold execOp
  simp [ho, hx, hy, eqGuard, binOp, h, Result.andThen]) (Below.refl _ _) hs
theorem loc_cell {x : Operand} {t : TypeId} (ho : o.op = .load t x) {p : Addr} (hx : a.eval x = .pointer (some p)) {v : Value} (hc : w.cell? p = some v) (ht : (isAgg t).run Tryz.prog w = .ok false w) (hs : s.p v w) :
  o.wp Tryz.prog a w (fun a' w' => ∃ v, a' = a.put o.dst v ∧ Below w.heap.size w w' ∧ s.p v w') Q :=
 loc_load ho (v := v) (by
  rw [hx]
  simp [Instr.loadAt, Instr.sureAddr, loadVar, hc, ht]) hs
theorem run_fieldR (W : World) (g i : Nat) (h : i < 6) : (Instr.fieldAt 31 (.pointer (some ⟨g, 0, none⟩)) i).run Tryz.prog W = .ok (.pointer (some ⟨g, i, none⟩)) W := by
 match i, h with
 | 0, _ => simp [Instr.fieldAt, run_underlying Tryz.underlying31, Instr.sureAddr, fieldPlace, Addr.add]
 | 1, _ => simp [Instr.fieldAt, run_underlying Tryz.underlying31, Instr.sureAddr, fieldPlace, Addr.add]
 | 2, _ => simp [Instr.fieldAt, run_underlying Tryz.underlying31, Instr.sureAddr, fieldPlace, Addr.add]
 | 3, _ => simp [Instr.fieldAt, run_underlying Tryz.underlying31, Instr.sureAddr, fieldPlace, Addr.add]
 | 4, _ => simp [Instr.fieldAt, run_underlying Tryz.underlying31, Instr.sureAddr, fieldPlace, Addr.add]
 | 5, _ => simp [Instr.fieldAt, run_underlying Tryz.underlying31, Instr.sureAddr, fieldPlace, Addr.add]
theorem loc_fieldR {x : Operand} {i : Nat} (ho : o.op = .fieldAddr 31 x i) {g : Nat} (hx : a.eval x = .pointer (some ⟨g, 0, none⟩)) (hi : i < 6) (hs : s.p (.pointer (some ⟨g, i, none⟩)) w) :
  o.wp Tryz.prog a w (fun a' w' => ∃ v, a' = a.put o.dst v ∧ Below w.heap.size w w' ∧ s.p v w') Q :=
 loc_run (v := .pointer (some ⟨g, i, none⟩)) (by unfold execOp; rw [ho]; simp only [hx, Sem.run_bind, run_fieldR _ _ _ hi, Result.andThen_ok, Sem.run_pure]) (Below.refl _ _) hs
end
end Go.Proofs.YtfghgenboahkkaaGreatDoor
namespace Go.Proofs.YtfghgenboahkkaaGreatDoor
open Go.RowKit
def Own (B : Nat) (w : World) (v : Value) (l : List UInt8) : Prop := w.ownsRow B 5 1 v l.length (bytesV l)
theorem Own.start (B : Nat) (w : World) : Own B w (.slice none 0 0) [] := World.ownsRow_nil _ _ _ _
theorem Own.same {B : Nat} {w w' : World} {v : Value} {l : List UInt8} (h : Own B w v l) (hs : ∀ k, v.ownBlock = some k → w'.heap[k]? = w.heap[k]?) : Own B w' v l := by
 obtain ⟨h1, h2⟩ := h
 refine ⟨h1, ?_⟩
 rcases h2 with h2 | ⟨g, cap, cur, hv, hg, hc, r⟩
 · exact .inl h2
 · exact .inr ⟨g, cap, cur, hv, hg, by rw [hs g (by rw [hv]; rfl)]; exact hc, r⟩
theorem Own.lt {B : Nat} {w : World} {v : Value} {l : List UInt8} (h : Own B w v l) {k : Nat} (hk : v.ownBlock = some k) : B ≤ k ∧ k < w.heap.size := World.ownsRow.lt h k hk
theorem Own.keep {B : Nat} {w w' : World} {v : Value} {l : List UInt8} (h : Own B w v l) (hb : Below w.heap.size w w') : Own B w' v l :=
 h.same fun k hk => hb.block k (h.lt hk).2
theorem Own.val {B : Nat} {w : World} {v : Value} {l : List UInt8} (h : Own B w v l) : BytesV w v l := by
 obtain ⟨h1, h2⟩ := h
 rcases h2 with ⟨rfl, h2⟩ | ⟨g, cap, cur, rfl, hg, hc, hcap, hm, hsz, ht⟩
 · have : l = [] := List.eq_nil_of_length_eq_zero h2
   subst this
   exact ⟨none, 0, rfl, .inl ⟨rfl, rfl, rfl⟩⟩
 · refine ⟨_, cap, rfl, .inr ⟨_, rfl, hcap, hm, fun j hj => ?_⟩⟩
   have e : cur.toList[j]? = some (Value.int .u8 (l[j].toNat : Int)) := by
    have := congrArg (fun x => x[j]?) ht
    simp only [Nat.mul_one, bytesV] at this
    rw [List.getElem?_take_of_lt hj, List.getElem?_map, List.getElem?_eq_getElem hj] at this
    exact this
   rw [Addr.add_lit]
   simp only [World.cell?, hc, Nat.zero_add]
   simpa using e
theorem cell_same {w w' : World} {p : Addr} (h : w'.heap[p.block]? = w.heap[p.block]?) : w'.cell? p = w.cell? p := by
 unfold World.cell?
 rw [h]
theorem add_block (x : Addr) (j : Nat) : (x.add j).block = x.block := by unfold Addr.add; split <;> rfl
theorem IsBytes.same {w w' : World} {a : Option Addr} {l : List UInt8} {c : Nat} (h : IsBytes w a l c) (hs : ∀ x, a = some x → l ≠ [] → w'.heap[x.block]? = w.heap[x.block]?) : IsBytes w' a l c := by
 rcases h with h | ⟨x, h1, h2, h3, h4⟩
 · exact .inl h
 · refine .inr ⟨x, h1, h2, h3, fun j hj => ?_⟩
   have e : w'.heap[(x.add j).block]? = w.heap[(x.add j).block]? := by
    rw [add_block]
    exact hs x h1 (fun e => by rw [e] at hj; exact absurd hj (Nat.not_lt_zero _))
   rw [cell_same e]
   exact h4 j hj
section
variable {ops : Array Oper} {rest : List Oper} {o : Oper} {act : Act} {Q : Exit → Act → World → Prop}
theorem wpList_append_ownb (w : World) (hgd : o.guard = none) (s x : Operand) (ho : o.op = .call { callee := .builtin .append, args := #[s, x], argTypes := #[29, 29] })
  {B : Nat} {v : Value} {l : List UInt8} (hs : act.eval s = v) (h : Own B w v l) {a : Option Addr} {r : List UInt8} {c : Nat} (hx : act.eval x = .slice a r.length c) (hr : IsBytes w a r c)
  (hn : l.length + r.length ≤ 140737488355328) (hB : B ≤ w.heap.size)
  (K : ∀ v' w', Own B w' v' (l ++ r) → w.grownBy w' v.ownBlock → (v'.ownBlock = v.ownBlock ∨ v'.ownBlock = some w.heap.size) → wpList Tryz.prog ops Q rest (act.put o.dst v') w') : wpList Tryz.prog ops Q (o :: rest) act w := by
 obtain ⟨i0, hi, hz0, hz1, hz2⟩ := info_parts Tryz.info5
 rcases hr with ⟨rfl, rfl, rfl⟩ | ⟨ad, rfl, hr1, hr2, hr3⟩
 · refine wpList_append_own_none hgd s x 29 ho B 5 i0 1 Tryz.underlying29 hi v l.length (bytesV l) hs h hx (K _ _ ?_ (World.grownBy.refl _ _) (.inl rfl))
   rw [List.append_nil]; exact h
 · refine wpList_append_own_at w hgd s x 29 ho B 5 i0 (.int .u8 0) 1 1 Tryz.underlying29 hi hz0 hz1 hz2 rfl (by decide) v l.length (bytesV l) hs h ad r.length c (bytesV r) hx (by rw [bytesV_len, Nat.mul_one]) ?_ ?_ (by unfold maxLen; omega) (by omega) hB ?_
   · intro j u hj
     unfold bytesV at hj
     rw [List.getElem?_map] at hj
     obtain ⟨c', hc', rfl⟩ := Option.map_eq_some_iff.1 hj
     obtain ⟨hlt, rfl⟩ := List.getElem?_eq_some_iff.1 hc'
     exact hr3 j hlt
   · intro u hu
     unfold bytesV at hu
     obtain ⟨c', _, rfl⟩ := List.mem_map.1 hu
     rfl
   · intro v' w' hown hgrow _ h5
     refine K v' w' ?_ hgrow h5
     unfold Own
     rw [List.length_append]
     have e : bytesV (l ++ r) = bytesV l ++ bytesV r := by unfold bytesV; rw [List.map_append]
     rw [e]; exact hown
end
end Go.Proofs.YtfghgenboahkkaaGreatDoor
namespace Go.Proofs.YtfghgenboahkkaaGreatDoor
open Go.RowKit
theorem Own.grown {B : Nat} {w w' : World} {v : Value} {l : List UInt8} {row : Option Nat} (h : Own B w v l) (hg : w.grownBy w' row) (hne : ∀ k, v.ownBlock = some k → some k ≠ row) : Own B w' v l :=
 h.same fun k hk => hg.block k (h.lt hk).2 (hne k hk)
theorem isBytes_oneF (w : World) (c : UInt8) : IsBytes (w.alloc (.cells #[.int .u8 (c.toNat : Int)] 5)) (some ⟨w.heap.size, 0, none⟩) [c] 1 := by
 refine .inr ⟨_, rfl, Nat.le_refl _, by decide, fun j hj => ?_⟩
 obtain rfl : j = 0 := by simpa using hj
 rw [Addr.add_lit, new_cellF]; rfl
set_option maxRecDepth 100000 in
set_option maxHeartbeats 2000000 in
theorem srcBytes_any (g m : Nat) (a : Option Addr) (n c : Nat) (w : World) (h : Src w g a n c) (hm : m ≤ 1000) :
  Calls Tryz.prog 42 #[.pointer (some ⟨g, 0, none⟩), .int .i64 m] w fun e w' => ∃ v l, e = .returned v ∧ Own w.heap.size w' v l ∧ l.length ≤ m ∧ Src w' g a n c ∧ w.grownBy w' (some g) := by
 have H0 := Box.mk h
 have HLOW := Box.mk h.low
 have hlt := h.lt
 clear h
 go_enter Tryz.func42, Tryz.ntmps42
 go_wp2_with fail
 refine (next_any g (m + 1) a n c w H0.out (by omega) (by omega)).mono ?_
 rintro e w1 ⟨k, hk, rfl, hsrc, hg1⟩
 have HS1 := Box.mk hsrc
 have HG1 := Box.mk hg1
 clear hsrc hg1 H0
 go_wp2_with fail
 go_loopw [5, 6] (fun v iv wr => ∃ j : Nat, j ≤ m ∧ iv = .int .i64 j ∧ ∃ l : List UInt8, l.length + j ≤ m ∧ Box (Own w.heap.size wr v l ∧ Src wr g a n c ∧ w.grownBy wr (some g))) (fun _ iv _ => (intOf iv).toNat)
 case atStart => exact ⟨k, by omega, rfl, [], by simp; omega, ⟨Own.start _ _, HS1.out, HG1.out⟩⟩
 case round =>
  clear HS1 HG1
  obtain ⟨j, hj, rfl, l, hl, HM⟩ := hrel
  by_cases hpos : 0 < j
  · go_wp2_with fail
    refine (next_any g 7 a n c wr HM.out.2.1 (by decide) (by decide)).mono ?_
    rintro e w2 ⟨i, hi, rfl, hsrc, hg2⟩
    have HO2 := Box.mk (HM.out.1.grown hg2 (fun q e e2 => by have := (HM.out.1.lt e).1; have := Option.some.inj e2; omega))
    have HS2 := Box.mk hsrc
    have HG2 := Box.mk (grownBy_trans HM.out.2.2 hg2)
    have hsz := HG2.out.size
    clear hsrc hg2 HM
    obtain ⟨y, hy⟩ : ∃ y : UInt8, ∀ hd, (⟨#[97, 98, 13, 10, 48, 59, 32]⟩ : ByteArray)[i]'hd = y := ⟨(⟨#[97, 98, 13, 10, 48, 59, 32]⟩ : ByteArray)[i]'(by show i < 7; exact hi), fun _ => rfl⟩
    have hy1 : (y.toNat : Int) ≤ 255 := by have := y.toNat_lt; omega
    go_wp2_with (at_builtin; refine wpList_append_ownb _ rfl _ _ rfl rfl (HO2.out.keep (below_oneF w2 (.cells #[.int .u8 (y.toNat : Int)] 5))) (r := [y]) rfl (isBytes_oneF w2 y) (by simp; omega) (by simp; omega) ?c3)
    case c3 =>
     intro v' w3 hown hgrow _
     have HO3 := Box.mk hown
     have hgrow2 : w2.grownBy w3 u5.ownBlock := ⟨hgrow.os, hgrow.tape, hgrow.output, Nat.le_trans (by simp) hgrow.size, fun k hk hne => by
      rw [hgrow.block k (by simp; omega) hne]
      exact (below_oneF w2 _).block k hk⟩
     have HS3 := Box.mk (HS2.out.grown hgrow2 (fun e => by have := (HO2.out.lt e.symm).1; omega) (fun x e h0 e2 => by have := (HO2.out.lt e2.symm).1; have := HLOW.out x e h0; omega))
     have HG3 := Box.mk (grownBy_new HG2.out hgrow2 (fun i e => (HO2.out.lt e).1))
     clear hown hgrow hgrow2 HO2 HS2 HG2 hy
     go_wp2_with fail
     go_roundw
     case rel => exact ⟨j - 1, by omega, by go_num, l ++ [y], by simp; omega, ⟨HO3.out, HS3.out, HG3.out⟩⟩
     case measure => simp [intOf]; omega
  · obtain rfl : j = 0 := by omega
    go_wp2_with fail
    go_ret
    exact ⟨_, l, rfl, HM.out.1, by omega, HM.out.2.1, HM.out.2.2⟩
theorem fmtS_len (a : Nat) (h : a ≤ 1000000000) : (fmtS 10 (a : Int)).size ≤ maxLen := fmtS_max (by decide) _ (by omega)
theorem refSum_two (s1 s2 : ByteArray) (a : Addr) (c : Nat) (w : World) (h1 : s1.size ≤ maxLen) (h2 : s2.size ≤ maxLen) (h : StrsIn w (some a) [s1, s2]) :
  Calls Tryz.prog 101 #[.slice (some a) 2 c] w fun e w' => ∃ h : Nat, e = .returned (.int .u64 h) ∧ h < 18446744073709551616 ∧ Below w.heap.size w w' := by
 refine (refSum_any [s1, s2] (some a) c w (by show 2 ≤ maxLen; decide) (fun x hx => ?_) h).mono ?_
 · simp at hx
   rcases hx with rfl | rfl
   · exact h1
   · exact h2
 · rintro e w' ⟨rfl, hb⟩
   exact ⟨_, rfl, (by unfold sumL; rw [List.foldl_cons, List.foldl_cons, List.foldl_nil]; exact sumN_lt _ _), hb⟩
def hexOk (c : UInt8) : Bool := decide (48 ≤ c.toNat ∧ c.toNat ≤ 57 ∨ 97 ≤ c.toNat ∧ c.toNat ≤ 102)
theorem hex_digit {z : Int} (h0 : 0 ≤ z) (h1 : z ≤ 15) : (fmtS 16 z).size = 1 ∧ (fmtS 16 z).data.toList.all hexOk = true := by
 obtain ⟨k, rfl⟩ : ∃ k : Nat, z = k := ⟨z.toNat, by omega⟩
 have hk : k < 16 := by omega
 have h : ∀ m : Fin 16, (fmtS 16 (m.val : Int)).size = 1 ∧ (fmtS 16 (m.val : Int)).data.toList.all hexOk = true := by decide +kernel
 exact h ⟨k, hk⟩
set_option maxRecDepth 100000 in
set_option maxHeartbeats 2000000 in
theorem refNewID_any (a b : Nat) (w : World) (ha : a ≤ 1000000000) (hb : b ≤ 1000000000) :
  Calls Tryz.prog 71 #[.int .i64 a, .int .i64 b] w fun e w' => ∃ s : ByteArray, e = .returned (.string s) ∧ s.size = 16 ∧ s.data.toList.all hexOk = true ∧ Below w.heap.size w w' := by
 go_enter Tryz.func71, Tryz.ntmps71
 go_wp2_with fail
 refine (refDecimal_any a _ (by omega) (by omega)).mono ?_
 rintro e w1 ⟨rfl, hb1⟩
 have HB1 := Box.mk hb1
 clear hb1
 go_wp2_with fail
 refine (refDecimal_any b _ (by omega) (by omega)).mono ?_
 rintro e w2 ⟨rfl, hb2⟩
 have HB2 := Box.mk (below_trans HB1.out hb2)
 have HZ := Box.mk (And.intro (fmtS_len a ha) (fmtS_len b hb))
 clear hb2 HB1
 generalize fmtS 10 a = s1 at *
 generalize fmtS 10 b = s2 at *
 go_wp2_with fail
 refine (refSum_two s1 s2 _ _ _ HZ.out.1 HZ.out.2 (strsIn_twoF w2 s1 s2 _)).mono ?_
 rintro e w3 ⟨h, rfl, hh, hb3⟩
 have HB3 := Box.mk (below_trans (below_twoF HB2.out (.cells #[.string s1, .string s2] 9)) hb3)
 clear hb3 HB2 HZ
 go_wp2_with fail
 go_loopw [6, 7] (fun v iv wr => ∃ k : Nat, k ≤ 16 ∧ iv = .int .i64 k ∧ ∃ s : ByteArray, v = .string s ∧ s.size ≤ 1000 ∧ Box (s.size = k ∧ s.data.toList.all hexOk = true ∧ Below w.heap.size w wr)) (fun _ iv _ => 16 - (intOf iv).toNat)
 case atStart => exact ⟨0, Nat.zero_le _, rfl, ⟨#[]⟩, rfl, by decide, ⟨rfl, rfl, HB3.out⟩⟩
 case round =>
  clear HB3
  obtain ⟨k, hk, rfl, s, rfl, hs, HM⟩ := hrel
  by_cases hlt : k < 16
  · go_wp2_with fail
    obtain ⟨d, hd, hd15⟩ : ∃ d : Nat, wrap64 (bits .and .u64 ((h : Int) / 2 ^ (60 - 4 * k)) 15) = d ∧ d ≤ 15 := by
     have e1 : ((h : Int) / 2 ^ (60 - 4 * k)) = ((h / 2 ^ (60 - 4 * k) : Nat) : Int) := by push_cast; rfl
     have h2 : h / 2 ^ (60 - 4 * k) < 18446744073709551616 := Nat.lt_of_le_of_lt (Nat.div_le_self _ _) hh
     have h3 := bits_and_u64_nat (h / 2 ^ (60 - 4 * k)) 15 h2 (by decide)
     refine ⟨h / 2 ^ (60 - 4 * k) &&& 15, ?_, Nat.and_le_right⟩
     rw [e1, show (15 : Int) = ((15 : Nat) : Int) from rfl, h3]
     have h4 : h / 2 ^ (60 - 4 * k) &&& 15 ≤ 15 := Nat.and_le_right
     generalize h / 2 ^ (60 - 4 * k) &&& 15 = x at *
     simp only [wrap64]; omega
    rw [hd]
    have HD := Box.mk (hex_digit (z := (d : Int)) (by omega) (by omega))
    refine (refHex_any (d : Int) wr (by omega) (by omega)).mono ?_
    rintro e w4 ⟨rfl, hb4⟩
    generalize fmtS 16 (d : Int) = t at *
    have hts : t.size ≤ 10 := by have := HD.out.1; omega
    have HM2 := Box.mk (show (s ++ t).size = k + 1 ∧ (s ++ t).data.toList.all hexOk = true ∧ Below w.heap.size w w4 from ⟨by rw [ByteArray.size_append, HM.out.1, HD.out.1], by rw [ba_app_list, List.all_append, HM.out.2.1, HD.out.2]; rfl, below_trans HM.out.2.2 hb4⟩)
    clear hb4 HM HD hd
    go_wp2_with fail
    go_roundw
    case rel => exact ⟨k + 1, by omega, by go_num, s ++ t, rfl, by have := HM2.out.1; omega, HM2⟩
    case measure => simp [intOf]; omega
  · obtain rfl : k = 16 := by omega
    go_wp2_with fail
    go_ret
    exact ⟨s, rfl, HM.out.1, HM.out.2.1, HM.out.2.2⟩
set_option maxHeartbeats 1000000 in
theorem srcID_any (g : Nat) (a : Option Addr) (n c : Nat) (w : World) (h : Src w g a n c) :
  Calls Tryz.prog 41 #[.pointer (some ⟨g, 0, none⟩)] w fun e w' => ∃ s : ByteArray, e = .returned (.string s) ∧ s.size = 16 ∧ s.data.toList.all hexOk = true ∧ Src w' g a n c ∧ w.grownBy w' (some g) := by
 have H0 := Box.mk h
 clear h
 go_enter Tryz.func41, Tryz.ntmps41
 go_wp2_with fail
 refine (next_any g 8 a n c w H0.out (by decide) (by decide)).mono ?_
 rintro e w1 ⟨k, hk, rfl, hsrc, hg1⟩
 have HS := Box.mk hsrc
 have HG := Box.mk hg1
 clear hsrc hg1 H0
 go_wp2_with fail
 refine (refNewID_any k 7 w1 (by omega) (by decide)).mono ?_
 rintro e w2 ⟨s, rfl, hz, hx, hb⟩
 have HF := Box.mk (And.intro hz (And.intro hx (And.intro (HS.out.keep hb) (grownBy_trans HG.out (grownBy_below hb)))))
 clear hz hx hb
 go_wp2_with fail
 go_ret
 exact ⟨s, rfl, HF.out.1, HF.out.2.1, HF.out.2.2.1, HF.out.2.2.2⟩
def RVar (w : World) (g : Nat) (m t : ByteArray) (z : Int) : Prop := w.heap[g]? = some (.cells #[.string m, .string t, .int .i64 z, .slice none 0 0, .bool false, .slice none 0 0] 31 (0, 0))
theorem RVar.keep {w w' : World} {g : Nat} {m t : ByteArray} {z : Int} (h : RVar w g m t z) (hb : Below w.heap.size w w') : RVar w' g m t z := by
 unfold RVar at *
 rw [hb.block g (Array.getElem?_eq_some_iff.1 h).1]; exact h
theorem sizeR : (Tryz.prog.info? 31).map (·.size) = some 6 := by kernel_rfl
section
variable {Q : Exit → Act → World → Prop} {a : Act} {w : World} {o : Oper} {s : Spec}
end
end Go.Proofs.YtfghgenboahkkaaGreatDoor
namespace Go.Proofs.YtfghgenboahkkaaGreatDoor
open Go.RowKit
theorem trimL_none : ∀ l : List UInt8, l.all (fun c => !blankB c) = true → trimL l = l := fun l h => by
 have hd : ∀ k : List UInt8, k.all (fun c => !blankB c) = true → k.dropWhile blankB = k := fun k hk => by
  cases k with
  | nil => rfl
  | cons a t =>
   rw [List.all_cons, Bool.and_eq_true] at hk
   have : blankB a = false := by simpa using hk.1
   rw [List.dropWhile_cons, this]; rfl
 have hr : rdrop blankB l = l := by
  unfold rdrop
  rw [hd l.reverse (by rw [List.all_reverse]; exact h), List.reverse_reverse]
 unfold trimL
 rw [hr, hd l h]
def hostF : Fld := (⟨#[72, 111, 115, 116]⟩, ⟨#[104]⟩)
def cohort : ByteArray := ⟨#[99, 111, 104, 111, 114, 116, 61]⟩
def cookF (s : ByteArray) : Fld := (⟨#[67, 111, 111, 107, 105, 101]⟩, cohort ++ s)
def expF : Fld := (⟨#[69, 120, 112, 101, 99, 116]⟩, ⟨#[49, 48, 48, 45, 99, 111, 110, 116, 105, 110, 117, 101]⟩)
def IdOk (s : ByteArray) : Prop := s.size = 16 ∧ s.data.toList.all hexOk = true
def RF1 (x : List Fld) : Prop := ∃ y, (∀ f ∈ y, SrcF f) ∧ y.length ≤ 3 ∧ x = y ++ [hostF]
def RF2 (x : List Fld) : Prop := RF1 x ∨ ∃ y s, RF1 y ∧ IdOk s ∧ x = y ++ [cookF s]
def RF3 (x : List Fld) : Prop := RF2 x ∨ ∃ y, RF2 y ∧ x = y ++ [expF]
theorem host_made : MadeF hostF := ⟨by decide +kernel, by decide, by decide⟩
theorem exp_made : MadeF expF := ⟨by decide +kernel, by decide, by decide⟩
theorem hex_byte {c : UInt8} (h : hexOk c = true) : valB c = true ∧ blankB c = false := by
 have hk : ∀ k : Fin 256, hexOk (UInt8.ofNat k.val) = true → valB (UInt8.ofNat k.val) = true ∧ blankB (UInt8.ofNat k.val) = false := by decide +kernel
 have := hk ⟨c.toNat, c.toNat_lt⟩
 simp only [UInt8.ofNat_toNat] at this
 exact this h
theorem cook_made {s : ByteArray} (h : IdOk s) : MadeF (cookF s) := by
 have hl : (cohort ++ s).data.toList = cohort.data.toList ++ s.data.toList := ba_app_list _ _
 have hv : valS (cohort ++ s) = true := by
  unfold valS visS
  have h1 : trimL (cohort ++ s).data.toList = (cohort ++ s).data.toList := trimL_none _ (by
   rw [hl, List.all_append]
   have : cohort.data.toList.all (fun c => !blankB c) = true := by decide
   rw [this, Bool.true_and, List.all_eq_true]
   intro c hc
   rw [(hex_byte (List.all_eq_true.1 h.2 c hc)).2]; rfl)
  have h2 : trimBA (cohort ++ s) = cohort ++ s := ba_ext (by rw [trimBA_list, h1])
  rw [h2]
  simp only [beq_self_eq_true, Bool.and_true]
  rw [hl, List.all_append]
  have : cohort.data.toList.all valB = true := by decide +kernel
  rw [this, Bool.true_and, List.all_eq_true]
  intro c hc
  exact (hex_byte (List.all_eq_true.1 h.2 c hc)).1
 refine ⟨?_, by show 6 ≤ 1000; decide, ?_⟩
 · show fldB _ _ = true
   unfold fldB
   rw [show valS (cookF s).2 = true from hv]
   show (tokS ⟨#[67, 111, 111, 107, 105, 101]⟩ && true) = true
   decide +kernel
 · show (cohort ++ s).size ≤ 1000
   rw [ByteArray.size_append, h.1]; decide
theorem RF1.made {x : List Fld} (h : RF1 x) : (∀ f ∈ x, MadeF f) ∧ x.length ≤ 4 := by
 obtain ⟨y, h1, h2, rfl⟩ := h
 refine ⟨fun f hf => ?_, by rw [List.length_append]; show _ + 1 ≤ 4; omega⟩
 rcases List.mem_append.1 hf with h | h
 · exact (h1 f h).made
 · obtain rfl := List.mem_singleton.1 h; exact host_made
theorem RF2.made {x : List Fld} (h : RF2 x) : (∀ f ∈ x, MadeF f) ∧ x.length ≤ 5 := by
 rcases h with h | ⟨y, s, h1, h2, rfl⟩
 · exact ⟨h.made.1, by have := h.made.2; omega⟩
 · refine ⟨fun f hf => ?_, by have := h1.made.2; rw [List.length_append]; show _ + 1 ≤ 5; omega⟩
   rcases List.mem_append.1 hf with h | h
   · exact h1.made.1 f h
   · obtain rfl := List.mem_singleton.1 h; exact cook_made h2
theorem RF3.made {x : List Fld} (h : RF3 x) : (∀ f ∈ x, MadeF f) ∧ x.length ≤ 6 := by
 rcases h with h | ⟨y, h1, rfl⟩
 · exact ⟨h.made.1, by have := h.made.2; omega⟩
 · refine ⟨fun f hf => ?_, by have := h1.made.2; rw [List.length_append]; show _ + 1 ≤ 6; omega⟩
   rcases List.mem_append.1 hf with h | h
   · exact h1.made.1 f h
   · obtain rfl := List.mem_singleton.1 h; exact exp_made
def methF : List ByteArray := [⟨#[71, 69, 84]⟩, ⟨#[71, 69, 84]⟩, ⟨#[80, 79, 83, 84]⟩, ⟨#[72, 69, 65, 68]⟩, ⟨#[80, 85, 84]⟩]
def targF : List ByteArray := [⟨#[47]⟩, ⟨#[47, 97, 63, 98]⟩, ⟨#[47, 114, 111, 108, 108, 111, 117, 116]⟩, ⟨#[47, 114, 101, 112, 111, 114, 116, 115]⟩]
theorem methF_ok : (methF.all fun s => tokS s && decide (s.size ≤ 1000)) = true := by decide +kernel
theorem targF_ok : (targF.all fun s => targetS s && decide (s.size ≤ 1000)) = true := by decide +kernel
theorem meth_at {s : ByteArray} (h : s ∈ methF) : tokS s = true ∧ s.size ≤ 1000 := by
 have := List.all_eq_true.1 methF_ok s h
 simpa using this
theorem targ_at {s : ByteArray} (h : s ∈ targF) : targetS s = true ∧ s.size ≤ 1000 := by
 have := List.all_eq_true.1 targF_ok s h
 simpa using this
def RqSt (R : List Fld → Prop) (B g : Nat) (a : Option Addr) (n c : Nat) (w0 : World) (gr q : Nat) (m t : ByteArray) (w : World) : Prop :=
 ∃ z vF x, (z = 0 ∨ z = 1) ∧ w.heap[gr]? = some (.cells #[.string m, .string t, .int .i64 z, vF, .bool false, .slice none 0 0] 31 (0, 0)) ∧ OwnF B w vF x ∧ R x ∧
  Src w g a n c ∧ w0.grownBy w (some g) ∧ RVar w q ⟨#[]⟩ ⟨#[]⟩ 0
theorem RqSt.keep {R : List Fld → Prop} {B g : Nat} {a : Option Addr} {n c : Nat} {w0 : World} {gr q : Nat} {m t : ByteArray} {w w' : World} (h : RqSt R B g a n c w0 gr q m t w) (hb : Below w.heap.size w w') : RqSt R B g a n c w0 gr q m t w' := by
 obtain ⟨z, vF, x, h1, h2, h3, h5, h8, h9, h10⟩ := h
 exact ⟨z, vF, x, h1, by rw [hb.block gr (Array.getElem?_eq_some_iff.1 h2).1]; exact h2, h3.keep hb, h5, h8.keep hb, grownBy_trans h9 (grownBy_below hb), h10.keep hb⟩
theorem OwnF.mono {B B' : Nat} {w : World} {v : Value} {l : List Fld} (h : OwnF B w v l) (hb : B' ≤ B) : OwnF B' w v l := by
 obtain ⟨h1, h2⟩ := h
 refine ⟨h1, ?_⟩
 rcases h2 with h2 | ⟨g, cap, cur, hv, hg, hc, r⟩
 · exact .inl h2
 · exact .inr ⟨g, cap, cur, hv, Nat.le_trans hb hg, hc, r⟩
theorem Own.mono {B B' : Nat} {w : World} {v : Value} {l : List UInt8} (h : Own B w v l) (hb : B' ≤ B) : Own B' w v l := by
 obtain ⟨h1, h2⟩ := h
 refine ⟨h1, ?_⟩
 rcases h2 with h2 | ⟨g, cap, cur, hv, hg, hc, r⟩
 · exact .inl h2
 · exact .inr ⟨g, cap, cur, hv, Nat.le_trans hb hg, hc, r⟩
structure RqN (B g : Nat) (a : Option Addr) (n : Nat) (w0 : World) (gr q : Nat) : Prop where
 lo : g < w0.heap.size
 src : ∀ x, a = some x → 0 < n → x.block < w0.heap.size
 hq : q = w0.heap.size
 hgr : q < gr
 top : gr < B
theorem RqSt.next {R : List Fld → Prop} {B g : Nat} {a : Option Addr} {n c : Nat} {w0 : World} {gr q : Nat} {m t : ByteArray} {w w' : World} (h : RqSt R B g a n c w0 gr q m t w) (N : RqN B g a n w0 gr q) (hg : w.grownBy w' (some g)) (hs : Src w' g a n c) :
  RqSt R B g a n c w0 gr q m t w' := by
 obtain ⟨z, vF, x, h1, h2, h3, h5, h8, h9, h10⟩ := h
 have n1 := N.lo
 have n2 := N.hq
 have n3 := N.hgr
 have n4 := N.top
 refine ⟨z, vF, x, h1, ?_, h3.grown hg (fun k hk e => ?_), h5, hs, grownBy_trans h9 hg, ?_⟩
 · rw [hg.block gr (Array.getElem?_eq_some_iff.1 h2).1 (fun e => by have := Option.some.inj e; omega)]; exact h2
 · have := (h3.lt hk).1; have := Option.some.inj e; omega
 · exact (hg.block q (Array.getElem?_eq_some_iff.1 h10).1 (fun e => by have := Option.some.inj e; omega)).trans h10
theorem grownBy_setCell {w : World} {gr i : Nat} {v : Value} : w.grownBy (w.setCell ⟨gr, i, none⟩ v) (some gr) :=
 ⟨rfl, rfl, rfl, by simp [World.setCell], fun k _ hne => heap_setCell_other w ⟨gr, i, none⟩ k _ (fun e => hne (by rw [e]))⟩
theorem RqSt.put {R' : List Fld → Prop} {B g : Nat} {a : Option Addr} {n c : Nat} {w0 : World} {gr q : Nat} {m t : ByteArray} {w : World} (N : RqN B g a n w0 gr q) {z : Int} {vF : Value} {x : List Fld} {cs : Array Value} {i : Nat} {v : Value}
  (hz : z = 0 ∨ z = 1) (hrow : w.heap[gr]? = some (.cells cs 31 (0, 0))) (hcs : cs.setIfInBounds i v = #[.string m, .string t, .int .i64 z, vF, .bool false, .slice none 0 0]) (hF : OwnF B w vF x) (hR : R' x)
  (hS : Src w g a n c) (hG : w0.grownBy w (some g)) (hq : RVar w q ⟨#[]⟩ ⟨#[]⟩ 0) : RqSt R' B g a n c w0 gr q m t (w.setCell ⟨gr, i, none⟩ v) := by
 have n1 := N.lo
 have n2 := N.hq
 have n3 := N.hgr
 have n4 := N.top
 have hg : w.grownBy (w.setCell ⟨gr, i, none⟩ v) (some gr) := grownBy_setCell
 refine ⟨z, vF, x, hz, ?_, hF.grown hg (fun k hk e => ?_), hR, hS.other hg (by omega) (fun y e h0 => by have := N.src y e h0; omega), grownBy_new hG hg (fun j e => by have := Option.some.inj e; omega), ?_⟩
 · rw [← hcs]; exact heap_setCell_same w gr i cs 31 v hrow
 · have := (hF.lt hk).1; have := Option.some.inj e; omega
 · exact (heap_setCell_other w ⟨gr, i, none⟩ q _ (by show q ≠ gr; omega)).trans hq
theorem RqSt.app {R' : List Fld → Prop} {B g : Nat} {a : Option Addr} {n c : Nat} {w0 : World} {gr q : Nat} {m t : ByteArray} {w w' : World} (N : RqN B g a n w0 gr q) {z : Int} {cs : Array Value} {v' : Value} {x' : List Fld} {row : Option Nat}
  (hz : z = 0 ∨ z = 1) (hrow : w.heap[gr]? = some (.cells cs 31 (0, 0))) (hcs : cs.setIfInBounds 3 v' = #[.string m, .string t, .int .i64 z, v', .bool false, .slice none 0 0]) (hr : ∀ k, row = some k → B ≤ k) (hg : w.grownBy w' row) (hF : OwnF B w' v' x') (hR : R' x')
  (hS : Src w g a n c) (hG : w0.grownBy w (some g)) (hq : RVar w q ⟨#[]⟩ ⟨#[]⟩ 0) : RqSt R' B g a n c w0 gr q m t (w'.setCell ⟨gr, 3, none⟩ v') := by
 have n1 := N.lo
 have n2 := N.hq
 have n3 := N.hgr
 have n4 := N.top
 refine RqSt.put N hz ?_ hcs hF hR (hS.grown hg (fun e => by have := hr g e.symm; omega) (fun y e h0 e2 => by have := hr _ e2.symm; have := N.src y e h0; omega)) (grownBy_new hG hg (fun j e => by have := hr j e; omega)) ?_
 · rw [hg.block gr (Array.getElem?_eq_some_iff.1 hrow).1 (fun e => by have := hr gr e.symm; omega)]; exact hrow
 · exact (hg.block q (Array.getElem?_eq_some_iff.1 hq).1 (fun e => by have := hr q e.symm; omega)).trans hq
def ReqMade (w : World) (g : Nat) (a : Option Addr) (n c : Nat) (e : Ending) (w' : World) : Prop :=
 ∃ m t z vF x fr vB l, e = .returned (.agg #[.string m, .string t, .int .i64 z, vF, .bool fr, vB]) ∧ m ∈ methF ∧ t ∈ targF ∧ (z = 0 ∨ z = 1) ∧ OwnF w.heap.size w' vF x ∧ Own w.heap.size w' vB l ∧
  RF3 x ∧ l.length ≤ 30 ∧ (fr = false → l = []) ∧ Src w' g a n c ∧ w.grownBy w' (some g)
theorem ret_rowQ {P : Program} {fn : Func} {R : Ending → World → Prop} {a : Act} {w : World} {p : Tmp} {ty t : TypeId} {g : Nat} {cs : Array Value} {fr : Nat × Nat} {d : TypeDesc}
  (h : fn.results = #[.cell p ty]) (hd : a.defers = []) (hp : a.tmps.getD p undef = .pointer (some ⟨g, 0, none⟩)) (hg : w.heap[g]? = some (.cells cs t fr))
  (hu : P.underlying ty = some d) (hs : (match d with | .struct _ | .array _ _ => true | _ => false) = true) (hi : (P.info? ty).map (·.size) = some cs.size) (hR : R (.returned (.agg cs)) w) : bodyPost P fn R .ret a w :=
 bodyPost_ret (results_cell_row h _ _ g t cs fr d hp hg hu hs hi) hd hR
def RetFwd (w : World) (m t : ByteArray) (fr : Bool) (bl : List UInt8) (F : List Fld) (e : Ending) (w' : World) : Prop :=
 ∃ v b c, e = .returned (.agg #[.string m, .string t, .int .i64 1, v, .bool fr, .slice b bl.length c]) ∧ OwnF w.heap.size w' v F ∧ IsBytes w' b bl c ∧ Below w.heap.size w w'
def Spec.fwd (B : Nat) (m t : ByteArray) (vF : Value) (fr : Bool) (bl : List UInt8) : Spec :=
 ⟨fun v w => ∃ b c, v = .agg #[.string m, .string t, .int .i64 1, vF, .bool fr, .slice b bl.length c] ∧ IsBytes w b bl c ∧ ∀ y, b = some y → B ≤ y.block, fun v w w' h hb => by
  obtain ⟨b, c, h1, h2, h3⟩ := h
  exact ⟨b, c, h1, h2.keep hb, h3⟩⟩
def Spec.clone (B : Nat) (bl : List UInt8) : Spec :=
 ⟨fun v w => ∃ b c, v = .slice b bl.length c ∧ IsBytes w b bl c ∧ ∀ y, b = some y → B ≤ y.block, fun v w w' h hb => by
  obtain ⟨b, c, h1, h2, h3⟩ := h
  exact ⟨b, c, h1, h2.keep hb, h3⟩⟩
section
variable {Q : Exit → Act → World → Prop} {act : Act} {w : World} {o : Oper} {s : Spec}
theorem loc_buildR6 {x y z f b : Operand} (ho : o.op = .build 31 #[(0, x), (1, y), (2, .const (.int .i64 1)), (3, z), (4, f), (5, b)]) {m t : ByteArray} {fa ba : Option Addr} {fn fc bn bc : Nat} {fr : Bool} (hx : act.eval x = .string m) (hy : act.eval y = .string t) (hz : act.eval z = .slice fa fn fc) (hf : act.eval f = .bool fr) (hb : act.eval b = .slice ba bn bc)
  (hs : s.p (.agg #[.string m, .string t, .int .i64 1, .slice fa fn fc, .bool fr, .slice ba bn bc]) w) :
  o.wp Tryz.prog act w (fun a' w' => ∃ v, a' = act.put o.dst v ∧ Below w.heap.size w w' ∧ s.p v w') Q := by
 refine loc_run (v := .agg #[.string m, .string t, .int .i64 1, .slice fa fn fc, .bool fr, .slice ba bn bc]) ?_ (Below.refl _ _) hs
 have hbb := run_build (P := Tryz.prog) w 31 #[(0, .string m), (1, .string t), (2, .int .i64 1), (3, .slice fa fn fc), (4, .bool fr), (5, .slice ba bn bc)] #[.string m, .string t, .int .i64 1, .slice fa fn fc, .bool fr, .slice ba bn bc] (by kernel_rfl)
 unfold execOp
 simp only [ho, List.map_toArray, List.map_cons, List.map_nil, hx, hy, hz, hf, hb, show act.eval (.const (.int .i64 1)) = .int .i64 1 from rfl, Sem.run_bind, hbb, Result.andThen_ok, Sem.run_pure]
end
theorem oneR6 (m t : ByteArray) (fr : Bool) (fa ba : Option Addr) (fn fc bn bc : Nat) : (#[.string m, .string t, .int .i64 1, .slice fa fn fc, .bool fr, .slice ba bn bc] : Array Value).all (·.oneCell') = true := by simp [Value.oneCell']
theorem AccF.own {w0 w : World} {v : Value} {l : List Fld} (h : AccF w0 w v l) : OwnF w0.heap.size w v l := h.1
theorem small_total {l : List Fld} (h : SmallF l) (hl : l.length ≤ 1000) (n : ByteArray) : total (valuesL l n) ≤ 2000000000 := Nat.le_trans (total_values h n) (Nat.le_trans (Nat.mul_le_mul_right _ hl) (by decide))
theorem lengthField_any (s : ByteArray) (w : World) : Calls Tryz.prog 44 #[.string s] w fun e w' => e = .returned (.agg #[.string ⟨#[67, 111, 110, 116, 101, 110, 116, 45, 76, 101, 110, 103, 116, 104]⟩, .string s]) ∧ Below w.heap.size w w' := by
 go_enter Tryz.func44, Tryz.ntmps44
 go_wp2_with fail
 exact ret_rowQ rfl rfl rfl (heap_alloc_new _ _) Tryz.underlying69 rfl (by kernel_rfl) ⟨rfl, below_oneF _ _⟩
set_option maxRecDepth 100000 in
set_option maxHeartbeats 4000000 in
theorem hForward_any (m t peer : ByteArray) (z : Int) (l : List Fld) (a : Option Addr) (cap : Nat) (fr : Bool) (bl : List UInt8) (ba : Option Addr) (bc : Nat) (w : World) (mm : Int) (h : FldsIn w a l) (hz : SmallF l) (hl : l.length ≤ 1000) (hp : peer.size ≤ 4000000000) (hm : MaxOk w mm) (ht : Tabs w) (hb : IsBytes w ba bl bc) (hbl : bl.length ≤ 4000000000) :
  Calls Tryz.prog 16 #[.agg #[.string m, .string t, .int .i64 z, .slice a l.length cap, .bool fr, .slice ba bl.length bc], .string peer] w (RetFwd w m t fr bl (fwdL l fr (bl.length : Int) peer)) := by
 obtain ⟨W2, hW2⟩ : ∃ W2, W2 = (w.alloc (.cells #[.string m, .string t, .int .i64 z, .slice a l.length cap, .bool fr, .slice ba bl.length bc] 31)).alloc (.cells #[.string ⟨#[]⟩, .string ⟨#[]⟩, .int .i64 0, .slice none 0 0, .bool false, .slice none 0 0] 31) := ⟨_, rfl⟩
 have HB2 := Box.mk (show Below w.heap.size w W2 by rw [hW2]; exact below_twoF (below_oneF w _) _)
 have HR2 := Box.mk (show W2.heap[w.heap.size]? = some (.cells #[.string m, .string t, .int .i64 z, .slice a l.length cap, .bool fr, .slice ba bl.length bc] 31 (0, 0)) by
  rw [hW2]; exact ((below_oneF (w.alloc _) _).block _ (by rw [World.size_alloc]; omega)).trans (heap_alloc_new w _))
 have HQ2 := Box.mk (show RVar W2 (w.heap.size + 1) ⟨#[]⟩ ⟨#[]⟩ 0 by
  have h1 := heap_alloc_new (w.alloc (.cells #[.string m, .string t, .int .i64 z, .slice a l.length cap, .bool fr, .slice ba bl.length bc] 31)) (.cells #[.string ⟨#[]⟩, .string ⟨#[]⟩, .int .i64 0, .slice none 0 0, .bool false, .slice none 0 0] 31)
  rw [World.size_alloc] at h1
  rw [hW2]; exact h1)
 have HS2 := Box.mk (show W2.heap.size = w.heap.size + 2 by rw [hW2, World.size_alloc, World.size_alloc])
 have H0 := Box.mk (And.intro (h.keep HB2.out) (hb.keep HB2.out))
 have HM := Box.mk (And.intro (hm.keep HB2.out) (tabs_below ht HB2.out))
 have hsl := stripL_len l
 have HZ := Box.mk (And.intro hz (stripL_small hz))
 have HT := Box.mk (small_total hz hl cnN)
 have HW2 := Box.mk hW2
 clear h hm ht hb hW2 hz
 go_enter Tryz.func16, Tryz.ntmps16
 go_wp2_with fail
 rw [← HW2.out]
 clear HW2
 generalize hg : w.heap.size = g at *
 have HG := Box.mk hg
 clear hg
 refine (hStrip_any l a cap W2 mm H0.out.1 HZ.out.1.short (by omega) HM.out.1 (by have := HT.out; omega)).mono ?_
 rintro e w3 ⟨v3, rfl, hv3⟩
 obtain ⟨a3, c3, rfl, hs3⟩ := hv3.shapeC
 have HB3 := Box.mk hv3.2
 obtain ⟨s1, HS1⟩ : ∃ s1, Box (stripL l = s1) := ⟨_, ⟨rfl⟩⟩
 rw [HS1.out] at hs3 HZ hsl ⊢
 have HF3 := Box.mk hs3.1
 have HT1 := Box.mk (small_total HZ.out.2 (by omega) xffP)
 have HT2 := Box.mk (ext_total xff_via (last := peer) (Nat.le_trans (small_total HZ.out.2 (by omega) viaP) (by decide)))
 have HZ2 := Box.mk (extL_short (n := xffP) HZ.out.2.short (by decide) (Nat.le_trans HT1.out (by decide)) hp)
 have hl2 := extL_len s1 xffP peer
 clear hv3 hs3
 go_wp2_with fail
 refine (hExt_any s1 xffP peer a3 c3 w3 mm HF3.out HZ.out.2.short (by decide) (by omega) (HM.out.1.keep HB3.out) (by have := HT1.out; omega) hp).mono ?_
 rintro e w4 ⟨v4, rfl, hv4⟩
 obtain ⟨a4, c4, rfl, hs4⟩ := hv4.shapeC
 have HB4 := Box.mk (below_trans HB3.out hv4.2)
 obtain ⟨s2, HS2e⟩ : ∃ s2, Box (extL s1 xffP peer = s2) := ⟨_, ⟨rfl⟩⟩
 rw [HS2e.out] at hs4 HZ2 HT2 hl2 ⊢
 have HF4 := Box.mk hs4.1
 clear hv4 hs4 HF3 HB3
 go_wp2_with fail
 refine (hVia_any s2 a4 c4 w4 mm HF4.out HZ2.out (by omega) (HM.out.1.keep HB4.out) HT2.out).mono ?_
 rintro e w5 ⟨v5, rfl, hv5⟩
 obtain ⟨s3, HS3⟩ : ∃ s3, Box (viaL s2 = s3) := ⟨_, ⟨rfl⟩⟩
 rw [HS3.out] at hv5
 have hl3 : s3.length ≤ 2000 := by rw [← HS3.out]; have := extL_len s2 viaP selfP; unfold viaL; omega
 have HA5 := Box.mk (AccF.lift HB4.out hv5)
 have hR5 := (HA5.out.2.block g (Array.getElem?_eq_some_iff.1 HR2.out).1).trans HR2.out
 have hc4 : w5.cell? ⟨g, 4, none⟩ = some (.bool fr) := by rw [cell_of_row _ _ _ _ _ _ hR5]; rfl
 have hc5 : w5.cell? ⟨g, 5, none⟩ = some (.slice ba bl.length bc) := by rw [cell_of_row _ _ _ _ _ _ hR5]; rfl
 have HFE := Box.mk (show fwdL l fr (bl.length : Int) peer = s3 ++ (if fr then [lenF (bl.length : Int)] else []) by unfold fwdL; rw [HS1.out, HS2e.out, HS3.out])
 clear hv5 HF4 HB4 hR5 hl2 hsl HT1 HT2 HZ2
 cases fr
 case false =>
  obtain ⟨s4, hs4⟩ : ∃ s4, s4 = s3 := ⟨_, rfl⟩
  have HFE2 := Box.mk (show fwdL l false (bl.length : Int) peer = s4 by rw [HFE.out, hs4]; simp)
  rw [← hs4] at HA5
  have hl4 : s4.length ≤ 2001 := by rw [hs4]; omega
  clear hs4
  go_upto_region 4 with fail
  clear hc4 hc5
  generalize w5 = W at *
  obtain ⟨fa, fc, hV, hx1, hx2⟩ := HA5.out.own.shape
  subst hV
  clear hx1 hx2
  have HO := Box.mk HA5.out.own
  have HBW := Box.mk (below_trans (show Below w.heap.size w W2 by rw [HG.out]; exact HB2.out) HA5.out.2)
  have HR5 := Box.mk ((HA5.out.2.block g (Array.getElem?_eq_some_iff.1 HR2.out).1).trans HR2.out)
  have HRC := Box.mk (fun (w' : World) (hb : Below W.heap.size W w') => (hb.block g (Array.getElem?_eq_some_iff.1 HR5.out).1).trans HR5.out)
  have HQ5 := Box.mk (HQ2.out.keep HA5.out.2)
  have HI5 := Box.mk (H0.out.2.keep HA5.out.2)
  have HSW := Box.mk HA5.out.2.size
  clear HA5 H0 HM HT HZ HS1 HS2e HS3 HFE HR2 HQ2
  rename_i K hK
  refine wp_region_store (S := [some (.val (.pointer (some ⟨g, 0, none⟩))), some (.val (.string m)), some (.val (.pointer (some ⟨g, 1, none⟩))), some (.val (.string t)), some (.val (.slice fa s4.length fc)), some (.val (.pointer (some ⟨g, 4, none⟩))), some (.val (.bool false)), some (.val (.pointer (some ⟨g, 5, none⟩))), some (.val (.slice ba bl.length bc)),
   some (.of (.clone W.heap.size bl)), some (.of (.fwd W.heap.size m t (.slice fa s4.length fc) false bl)), none]) 11 []
   (fun w' => Below g w w' ∧ OwnF (g + 2) w' (.slice fa s4.length fc) s4 ∧ ∃ b c, w'.heap[g + 1]? = some (.cells #[.string m, .string t, .int .i64 1, .slice fa s4.length fc, .bool false, .slice b bl.length c] 31 (0, 0)) ∧ IsBytes w' b bl c)
   (by kernel_rfl) (by kernel_rfl) (by kernel_rfl) (by kernel_rfl) rfl rfl rfl ?_ trivial ?_ ?_
  · refine ⟨?_, ?_, ?_, ?_, ?_, ?_, ?_, ?_, ?_, ?_, ?_, trivial⟩ <;> intro a w8 hb hf hd
    · exact ⟨wanted_none rfl, loc_fieldR rfl (hf.base 2 rfl) (by decide) rfl⟩
    · exact ⟨wanted_none rfl, loc_cell rfl (hd 0 rfl) (by rw [cell_of_row _ _ _ _ _ _ (HRC.out _ hb)]; rfl) (Tryz.isAgg9 _) rfl⟩
    · exact ⟨wanted_none rfl, loc_fieldR rfl (hf.base 2 rfl) (by decide) rfl⟩
    · exact ⟨wanted_none rfl, loc_cell rfl (hd 2 rfl) (by rw [cell_of_row _ _ _ _ _ _ (HRC.out _ hb)]; rfl) (Tryz.isAgg9 _) rfl⟩
    · exact ⟨wanted_none rfl, loc_move rfl (hf.base 5 rfl)⟩
    · exact ⟨wanted_none rfl, loc_fieldR rfl (hf.base 2 rfl) (by decide) rfl⟩
    · exact ⟨wanted_none rfl, loc_cell rfl (hd 5 rfl) (by rw [cell_of_row _ _ _ _ _ _ (HRC.out _ hb)]; rfl) (Tryz.isAgg4 _) rfl⟩
    · exact ⟨wanted_none rfl, loc_fieldR rfl (hf.base 2 rfl) (by decide) rfl⟩
    · exact ⟨wanted_none rfl, loc_cell rfl (hd 7 rfl) (by rw [cell_of_row _ _ _ _ _ _ (HRC.out _ hb)]; rfl) (Tryz.isAgg29 _) rfl⟩
    · refine ⟨wanted_none rfl, loc_call rfl (by kernel_rfl) ?_⟩
      show Calls _ _ #[a.eval (.tmp 30)] w8 _
      rw [show a.eval (.tmp 30) = .slice ba bl.length bc from hd 8 rfl]
      refine (cloneB_new bl ba bc w8 (HI5.out.keep hb) hbl).mono ?_
      rintro e w' ⟨b, c, rfl, h1, h2, h3⟩
      exact ⟨_, rfl, h3, b, c, rfl, h1, fun y e => Nat.le_trans hb.size (h2 y e)⟩
    · obtain ⟨b, c, e1, e2, e3⟩ := hd 9 rfl
      exact ⟨wanted_none rfl, loc_buildR6 rfl (hd 1 rfl) (hd 3 rfl) (hd 4 rfl) (hd 6 rfl) e1 ⟨b, c, rfl, e2, e3⟩⟩
  · refine ⟨rfl, fun a w8 hb hf hd => ⟨wanted_none rfl, ?_⟩⟩
    obtain ⟨b, c, e1, e2, e3⟩ := hd 10 rfl
    have hq := HQ5.out.keep hb
    refine wp_store_row 31 _ _ rfl (g + 1) #[.string m, .string t, .int .i64 1, .slice fa s4.length fc, .bool false, .slice b bl.length c] (hf.base 4 rfl) e1 31 _ hq sizeR rfl (oneR6 _ _ _ _ _ _ _ _ _) ⟨rfl, ?_, ?_, b, c, ?_, ?_⟩
    · have h1 := below_trans HBW.out hb
      rw [HG.out] at h1
      exact below_setRow h1 (Nat.le_succ g) _
    · have h1 := HO.out
      rw [HS2.out] at h1
      exact (h1.keep hb).grown (grownBy_setRowF _ _ _) (fun k hk e => by have := (h1.lt hk).1; have := Option.some.inj e; omega)
    · exact setRow_heap _ _ _ _ _ _ hq
    · exact e2.same fun y e _ => setRow_other _ _ _ _ (by have := e3 y e; have := HSW.out; have := HS2.out; omega)
  · intro a w8 hp hf hh
    refine hK a w8 ?_
    go_wp2_with fail
    obtain ⟨p1, p2, b, c, p3, p4⟩ := hp
    refine ret_rowQ rfl hf.defers (hf.base 4 rfl) p3 Tryz.underlying31 rfl sizeR ?_
    rw [HFE2.out]
    refine ⟨_, b, c, rfl, p2.mono (by rw [HG.out]; omega), p4, by rw [HG.out]; exact p1⟩
 case true =>
  go_wp2_with fail
  refine (decimal_any (bl.length : Int) w5 (by omega) (by omega) (tabs_below HM.out.2 HA5.out.2)).mono ?_
  rintro e w6 ⟨rfl, hb6⟩
  obtain ⟨ds, HDS⟩ : ∃ ds, Box (fmtS 10 (bl.length : Int) = ds) := ⟨_, ⟨rfl⟩⟩
  rw [HDS.out]
  go_wp2_with fail
  refine (lengthField_any ds w6).mono ?_
  rintro e w7 ⟨rfl, hb7⟩
  have HA7 := Box.mk (HA5.out.keep (below_trans hb6 hb7))
  clear hb6 hb7
  obtain ⟨a7, c7, hv7, hs7⟩ := HA7.out.shapeC
  subst hv7
  go_wp2_with fail
  have hbf := below_oneF w7 (.cells #[.string (lenF 0).1, .string ds] 69)
  refine (fWith_acc s3 [((lenF 0).1, ds)] a7 _ c7 1 _ (hs7.keep hbf) ⟨fldsIn_one w7 _ _, fun e => by cases e⟩ (by omega) (by show 1 ≤ 1000000; decide)).mono ?_
  rintro e w8 ⟨v8, rfl, hv8⟩
  obtain ⟨s4, hs4⟩ : ∃ s4, s4 = s3 ++ [((lenF 0).1, ds)] := ⟨_, rfl⟩
  rw [← hs4] at hv8
  have HFE2 := Box.mk (show fwdL l true (bl.length : Int) peer = s4 by rw [HFE.out, hs4, ← HDS.out]; rfl)
  have hl4 : s4.length ≤ 2001 := by rw [hs4, List.length_append]; show _ + 1 ≤ _; omega
  have HA8 := Box.mk (AccF.lift (below_trans HA7.out.2 hbf) hv8)
  clear hv8 hbf hs4 hs7 HA7 HA5
  go_upto_region 4 with fail
  clear hc4 hc5
  have HA5 := HA8
  clear HA8
  generalize w8 = W at *
  obtain ⟨fa, fc, hV, hx1, hx2⟩ := HA5.out.own.shape
  subst hV
  clear hx1 hx2
  have HO := Box.mk HA5.out.own
  have HBW := Box.mk (below_trans (show Below w.heap.size w W2 by rw [HG.out]; exact HB2.out) HA5.out.2)
  have HR5 := Box.mk ((HA5.out.2.block g (Array.getElem?_eq_some_iff.1 HR2.out).1).trans HR2.out)
  have HRC := Box.mk (fun (w' : World) (hb : Below W.heap.size W w') => (hb.block g (Array.getElem?_eq_some_iff.1 HR5.out).1).trans HR5.out)
  have HQ5 := Box.mk (HQ2.out.keep HA5.out.2)
  have HI5 := Box.mk (H0.out.2.keep HA5.out.2)
  have HSW := Box.mk HA5.out.2.size
  clear HA5 H0 HM HT HZ HS1 HS2e HS3 HFE HR2 HQ2
  rename_i K hK
  refine wp_region_store (S := [some (.val (.pointer (some ⟨g, 0, none⟩))), some (.val (.string m)), some (.val (.pointer (some ⟨g, 1, none⟩))), some (.val (.string t)), some (.val (.slice fa s4.length fc)), some (.val (.pointer (some ⟨g, 4, none⟩))), some (.val (.bool true)), some (.val (.pointer (some ⟨g, 5, none⟩))), some (.val (.slice ba bl.length bc)),
   some (.of (.clone W.heap.size bl)), some (.of (.fwd W.heap.size m t (.slice fa s4.length fc) true bl)), none]) 11 []
   (fun w' => Below g w w' ∧ OwnF (g + 2) w' (.slice fa s4.length fc) s4 ∧ ∃ b c, w'.heap[g + 1]? = some (.cells #[.string m, .string t, .int .i64 1, .slice fa s4.length fc, .bool true, .slice b bl.length c] 31 (0, 0)) ∧ IsBytes w' b bl c)
   (by kernel_rfl) (by kernel_rfl) (by kernel_rfl) (by kernel_rfl) rfl rfl rfl ?_ trivial ?_ ?_
  · refine ⟨?_, ?_, ?_, ?_, ?_, ?_, ?_, ?_, ?_, ?_, ?_, trivial⟩ <;> intro a w8 hb hf hd
    · exact ⟨wanted_none rfl, loc_fieldR rfl (hf.base 2 rfl) (by decide) rfl⟩
    · exact ⟨wanted_none rfl, loc_cell rfl (hd 0 rfl) (by rw [cell_of_row _ _ _ _ _ _ (HRC.out _ hb)]; rfl) (Tryz.isAgg9 _) rfl⟩
    · exact ⟨wanted_none rfl, loc_fieldR rfl (hf.base 2 rfl) (by decide) rfl⟩
    · exact ⟨wanted_none rfl, loc_cell rfl (hd 2 rfl) (by rw [cell_of_row _ _ _ _ _ _ (HRC.out _ hb)]; rfl) (Tryz.isAgg9 _) rfl⟩
    · exact ⟨wanted_none rfl, loc_move rfl (hf.base 5 rfl)⟩
    · exact ⟨wanted_none rfl, loc_fieldR rfl (hf.base 2 rfl) (by decide) rfl⟩
    · exact ⟨wanted_none rfl, loc_cell rfl (hd 5 rfl) (by rw [cell_of_row _ _ _ _ _ _ (HRC.out _ hb)]; rfl) (Tryz.isAgg4 _) rfl⟩
    · exact ⟨wanted_none rfl, loc_fieldR rfl (hf.base 2 rfl) (by decide) rfl⟩
    · exact ⟨wanted_none rfl, loc_cell rfl (hd 7 rfl) (by rw [cell_of_row _ _ _ _ _ _ (HRC.out _ hb)]; rfl) (Tryz.isAgg29 _) rfl⟩
    · refine ⟨wanted_none rfl, loc_call rfl (by kernel_rfl) ?_⟩
      show Calls _ _ #[a.eval (.tmp 30)] w8 _
      rw [show a.eval (.tmp 30) = .slice ba bl.length bc from hd 8 rfl]
      refine (cloneB_new bl ba bc w8 (HI5.out.keep hb) hbl).mono ?_
      rintro e w' ⟨b, c, rfl, h1, h2, h3⟩
      exact ⟨_, rfl, h3, b, c, rfl, h1, fun y e => Nat.le_trans hb.size (h2 y e)⟩
    · obtain ⟨b, c, e1, e2, e3⟩ := hd 9 rfl
      exact ⟨wanted_none rfl, loc_buildR6 rfl (hd 1 rfl) (hd 3 rfl) (hd 4 rfl) (hd 6 rfl) e1 ⟨b, c, rfl, e2, e3⟩⟩
  · refine ⟨rfl, fun a w8 hb hf hd => ⟨wanted_none rfl, ?_⟩⟩
    obtain ⟨b, c, e1, e2, e3⟩ := hd 10 rfl
    have hq := HQ5.out.keep hb
    refine wp_store_row 31 _ _ rfl (g + 1) #[.string m, .string t, .int .i64 1, .slice fa s4.length fc, .bool true, .slice b bl.length c] (hf.base 4 rfl) e1 31 _ hq sizeR rfl (oneR6 _ _ _ _ _ _ _ _ _) ⟨rfl, ?_, ?_, b, c, ?_, ?_⟩
    · have h1 := below_trans HBW.out hb
      rw [HG.out] at h1
      exact below_setRow h1 (Nat.le_succ g) _
    · have h1 := HO.out
      rw [HS2.out] at h1
      exact (h1.keep hb).grown (grownBy_setRowF _ _ _) (fun k hk e => by have := (h1.lt hk).1; have := Option.some.inj e; omega)
    · exact setRow_heap _ _ _ _ _ _ hq
    · exact e2.same fun y e _ => setRow_other _ _ _ _ (by have := e3 y e; have := HSW.out; have := HS2.out; omega)
  · intro a w8 hp hf hh
    refine hK a w8 ?_
    go_wp2_with fail
    obtain ⟨p1, p2, b, c, p3, p4⟩ := hp
    refine ret_rowQ rfl hf.defers (hf.base 4 rfl) p3 Tryz.underlying31 rfl sizeR ?_
    rw [HFE2.out]
    refine ⟨_, b, c, rfl, p2.mono (by rw [HG.out]; omega), p4, by rw [HG.out]; exact p1⟩
end Go.Proofs.YtfghgenboahkkaaGreatDoor
namespace Go.Proofs.YtfghgenboahkkaaGreatDoor
open Go.RowKit
def Spec.nope : Spec := ⟨fun _ _ => False, fun _ _ _ h _ => h⟩
def Spec.ids (f : ByteArray → Value) : Spec := ⟨fun v _ => ∃ s, IdOk s ∧ v = f s, fun _ _ _ h _ => h⟩
def CookS (w : World) (v : Value) : Prop := ∃ s b c, IdOk s ∧ v = .slice (some ⟨b, 0, none⟩) 1 c ∧ w.cell? ⟨b, 0, none⟩ = some (.string (cookF s).1) ∧ w.cell? ⟨b, 1, none⟩ = some (.string (cookF s).2)
def Spec.cooks : Spec := ⟨fun v w => CookS w v, fun _ _ _ h hb => by
 obtain ⟨s, b, c, h1, h2, h3, h4⟩ := h
 exact ⟨s, b, c, h1, h2, below_cell hb h3, below_cell hb h4⟩⟩
def CookA (B : Nat) (x : List Fld) (w : World) (v : Value) : Prop := ∃ s, IdOk s ∧ OwnF B w v (x ++ [cookF s])
def Spec.capp (B : Nat) (x : List Fld) : Spec := ⟨fun v w => CookA B x w v, fun _ _ _ h hb => by
 obtain ⟨s, h1, h2⟩ := h
 exact ⟨s, h1, h2.keep hb⟩⟩
section
variable {Q : Exit → Act → World → Prop} {act : Act} {w : World} {o : Oper} {s : Spec} {K : Act → World → Prop}
theorem loc_slice1F {x : Operand} (ho : o.op = .buildSlice 23 1 #[(0, x)]) {f : Fld} (hx : act.eval x = .agg #[.string f.1, .string f.2]) (hs : ∀ w', w'.cell? ⟨w.heap.size, 0, none⟩ = some (.string f.1) → w'.cell? ⟨w.heap.size, 1, none⟩ = some (.string f.2) → s.p (.slice (some ⟨w.heap.size, 0, none⟩) 1 1) w') :
  o.wp Tryz.prog act w (fun a' w' => ∃ v, a' = act.put o.dst v ∧ Below w.heap.size w w' ∧ s.p v w') Q := by
 obtain ⟨i0, hi, hz0, hz1, hz2⟩ := info_parts Tryz.info69
 have hrun := run_buildSlice (P := Tryz.prog) w 23 69 1 #[(0, .agg #[.string f.1, .string f.2])] #[.string f.1, .string f.2] i0 _ Tryz.underlying23 hi hz0 (by rw [hz1]; decide) (by rw [hz1]; decide) (by rw [hz1]; simp [Instr.fill, Value.cells, Array.range_succ, show Array.range 0 = #[] from rfl])
 refine loc_run (v := .slice (some ⟨w.heap.size, 0, none⟩) 1 1) (w' := w.alloc (.cells #[.string f.1, .string f.2] 69)) ?_ (below_oneF _ _) (hs _ (by rw [new_cellF]; rfl) (by rw [new_cellF]; rfl))
 unfold execOp
 simp only [ho, List.map_toArray, List.map_cons, List.map_nil, hx]
 rw [Sem.run_bind, hrun]; rfl
theorem wp_append_oneF {x y : Operand} (ho : o.op = .call { callee := .builtin .append, args := #[x, y], argTypes := #[23, 23] }) {B : Nat} {l : List Fld} (hx : OwnF B w (act.eval x) l) {b c : Nat} {f : Fld} (hy : act.eval y = .slice (some ⟨b, 0, none⟩) 1 c)
  (h0 : w.cell? ⟨b, 0, none⟩ = some (.string f.1)) (h1 : w.cell? ⟨b, 1, none⟩ = some (.string f.2)) (hn : l.length + 1 ≤ 4398046511104) (hB : B ≤ w.heap.size)
  (h : ∀ v' w', OwnF B w' v' (l ++ [f]) → w.grownBy w' (act.eval x).ownBlock → K (act.put o.dst v') w') : o.wp Tryz.prog act w K Q := by
 obtain ⟨i0, hi, hz0, hz1, hz2⟩ := info_parts Tryz.info69
 refine wp_append_lies w x y 23 ho B 69 i0 _ 2 32 Tryz.underlying23 hi hz0 hz1 hz2 rfl (by decide) (act.eval x) l.length (cellsF l) rfl hx ⟨b, 0, none⟩ 1 c [.string f.1, .string f.2] hy rfl ?_ ?_ (by decide) (by unfold maxLen; omega) (by omega) hB w.heap.size rfl ?_
 · intro j u hj
   match j, hj with
   | 0, hj => simp at hj; subst hj; rw [Addr.add_lit]; exact h0
   | 1, hj => simp at hj; subst hj; rw [Addr.add_lit]; exact h1
   | j + 2, hj => simp at hj
 · intro u hu; simp at hu; rcases hu with rfl | rfl <;> rfl
 · intro g cap w' hown hgrow hg hlt
   refine h _ w' ?_ hgrow
   unfold OwnF
   rw [List.length_append, cellsF_app]; exact hown
theorem wp_store_slice {P : Program} {ty : TypeId} {x y : Operand} (ho : o.op = .store ty x y) {p : Addr} {sa : Option Addr} {sn sc : Nat} {u : Value} (hx : act.eval x = .pointer (some p)) (hy : act.eval y = .slice sa sn sc) (hi : (P.info? ty).map (·.size) = some 1)
  (hc : w.cell? p = some u) (hf : w.frozen? p = false) (h : K (act.put o.dst undef) (w.setCell p (.slice sa sn sc))) : o.wp P act w K Q := by
 have hz : (sizeOf ty).run P w = .ok 1 w := by
  cases hq : P.info? ty with
  | none => rw [hq] at hi; cases hi
  | some i => rw [hq] at hi; simp at hi; simp [sizeOf, typeInfo, hq, hi]
 unfold Oper.wp execOp
 simp_all [Instr.storeAt, Instr.sureAddr, storeVar, storeCells, Value.cells, go_sem]
theorem chain_call {f : FuncId} {args : List Operand} {ts : Array TypeId} {P : Program} (ho : o.op = .call { callee := .value (.func f), args := args.toArray, argTypes := ts })
  (hf : (P.funcs[f]?).map (fun fn => fn.name != "runtime.NumGoroutine" && fn.body.isSome) = some true) (h : Calls P f (args.map act.eval).toArray w fun e w' => ∃ v, e = .returned v ∧ K (act.put o.dst v) w') : o.wp P act w K Q := by
 have hrun : (execOp act.eval o).run P w = .ok (.enter f (args.map act.eval).toArray) w := by
  unfold execOp; rw [ho]
  cases hfn : P.funcs[f]? with
  | none => rw [hfn] at hf; cases hf
  | some fn =>
   rw [hfn] at hf
   simp only [Option.map_some, Option.some.injEq, Bool.and_eq_true, bne_iff_ne, ne_eq] at hf
   have hb : fn.body ≠ none := fun e => by rw [e] at hf; exact absurd hf.2 (by simp)
   simp [resolve, Deferred.ofValue, invoke, callFunc, show act.eval (.func f) = .func (.func f) #[] #[] from rfl, hfn, hf.1, hb]
 unfold Oper.wp
 rw [hrun, Oper.upon_enter]
 refine h.mono ?_
 rintro e w' ⟨v, rfl, hk⟩
 exact hk
end
theorem agg_fields (w : World) : (isAgg 23).run Tryz.prog w = .ok false w := by
 unfold isAgg; rw [Sem.run_bind, run_underlying Tryz.underlying23 w]; rfl
theorem RqSt.src {R : List Fld → Prop} {B g : Nat} {a : Option Addr} {n c : Nat} {w0 : World} {gr q : Nat} {m t : ByteArray} {w : World} (h : RqSt R B g a n c w0 gr q m t w) : Src w g a n c := by
 obtain ⟨_, _, _, _, _, _, _, h, _, _⟩ := h
 exact h
theorem RqSt.weaken {R R' : List Fld → Prop} {B g : Nat} {a : Option Addr} {n c : Nat} {w0 : World} {gr q : Nat} {m t : ByteArray} {w : World} (h : RqSt R B g a n c w0 gr q m t w) (hr : ∀ x, R x → R' x) : RqSt R' B g a n c w0 gr q m t w := by
 obtain ⟨z, vF, x, h1, h2, h3, h5, h⟩ := h
 exact ⟨z, vF, x, h1, h2, h3, hr x h5, h⟩
structure RqJ (g : Nat) (a : Option Addr) (n c : Nat) (w0 : World) (gr q : Nat) (m t : ByteArray) (z : Int) (vF : Value) (w : World) : Prop where
 row : w.heap[gr]? = some (.cells #[.string m, .string t, .int .i64 z, vF, .bool false, .slice none 0 0] 31 (0, 0))
 src : Src w g a n c
 grown : w0.grownBy w (some g)
 res : RVar w q ⟨#[]⟩ ⟨#[]⟩ 0
theorem RqJ.keep {g : Nat} {a : Option Addr} {n c : Nat} {w0 : World} {gr q : Nat} {m t : ByteArray} {z : Int} {vF : Value} {w w' : World} (h : RqJ g a n c w0 gr q m t z vF w) (hb : Below w.heap.size w w') : RqJ g a n c w0 gr q m t z vF w' :=
 ⟨by rw [hb.block gr (Array.getElem?_eq_some_iff.1 h.row).1]; exact h.row, h.src.keep hb, grownBy_trans h.grown (grownBy_below hb), h.res.keep hb⟩
theorem RqJ.next {B g : Nat} {a : Option Addr} {n c : Nat} {w0 : World} {gr q : Nat} {m t : ByteArray} {z : Int} {vF : Value} {w w' : World} (h : RqJ g a n c w0 gr q m t z vF w) (N : RqN B g a n w0 gr q) (hg : w.grownBy w' (some g)) (hs : Src w' g a n c) : RqJ g a n c w0 gr q m t z vF w' := by
 have n1 := N.lo
 have n2 := N.hq
 have n3 := N.hgr
 exact ⟨(hg.block gr (Array.getElem?_eq_some_iff.1 h.row).1 (fun e => by have := Option.some.inj e; omega)).trans h.row, hs, grownBy_trans h.grown hg, (hg.block q (Array.getElem?_eq_some_iff.1 h.res).1 (fun e => by have := Option.some.inj e; omega)).trans h.res⟩
theorem RqJ.app {B g : Nat} {a : Option Addr} {n c : Nat} {w0 : World} {gr q : Nat} {m t : ByteArray} {z : Int} {vF : Value} {row : Option Nat} {w w' : World} (h : RqJ g a n c w0 gr q m t z vF w) (N : RqN B g a n w0 gr q) (hg : w.grownBy w' row) (hr : ∀ k, row = some k → B ≤ k) : RqJ g a n c w0 gr q m t z vF w' := by
 have n1 := N.lo
 have n2 := N.hq
 have n3 := N.hgr
 have n4 := N.top
 exact ⟨(hg.block gr (Array.getElem?_eq_some_iff.1 h.row).1 (fun e => by have := hr _ e.symm; omega)).trans h.row, h.src.grown hg (fun e => by have := hr g e.symm; omega) (fun y e h0 e2 => by have := hr _ e2.symm; have := N.src y e h0; omega), grownBy_new h.grown hg (fun j e => by have := hr j e; omega), (hg.block q (Array.getElem?_eq_some_iff.1 h.res).1 (fun e => by have := hr q e.symm; omega)).trans h.res⟩
structure RqK (B g : Nat) (a : Option Addr) (n c : Nat) (w0 : World) (gr q : Nat) (vF : Value) (x : List Fld) (cs : Array Value) (w : World) : Prop where
 row : w.heap[gr]? = some (.cells cs 31 (0, 0))
 own : OwnF B w vF x
 src : Src w g a n c
 grown : w0.grownBy w (some g)
 res : RVar w q ⟨#[]⟩ ⟨#[]⟩ 0
theorem RqK.set {B g : Nat} {a : Option Addr} {n c : Nat} {w0 : World} {gr q : Nat} {vF : Value} {x : List Fld} {cs : Array Value} {w : World} (h : RqK B g a n c w0 gr q vF x cs w) (N : RqN B g a n w0 gr q) (i : Nat) (v : Value) :
  RqK B g a n c w0 gr q vF x (cs.setIfInBounds i v) (w.setCell ⟨gr, i, none⟩ v) := by
 have n1 := N.lo
 have n2 := N.hq
 have n3 := N.hgr
 have n4 := N.top
 have hg : w.grownBy (w.setCell ⟨gr, i, none⟩ v) (some gr) := grownBy_setCell
 exact ⟨heap_setCell_same w gr i cs 31 v h.row, h.own.grown hg (fun k hk e => by have := (h.own.lt hk).1; have := Option.some.inj e; omega), h.src.other hg (by omega) (fun y e h0 => by have := N.src y e h0; omega), grownBy_new h.grown hg (fun j e => by have := Option.some.inj e; omega), (heap_setCell_other w ⟨gr, i, none⟩ q _ (by show q ≠ gr; omega)).trans h.res⟩
theorem RqK.next {B g : Nat} {a : Option Addr} {n c : Nat} {w0 : World} {gr q : Nat} {vF : Value} {x : List Fld} {cs : Array Value} {w w' : World} (h : RqK B g a n c w0 gr q vF x cs w) (N : RqN B g a n w0 gr q) (hg : w.grownBy w' (some g)) (hs : Src w' g a n c) : RqK B g a n c w0 gr q vF x cs w' := by
 have n1 := N.lo
 have n2 := N.hq
 have n3 := N.hgr
 have n4 := N.top
 exact ⟨(hg.block gr (Array.getElem?_eq_some_iff.1 h.row).1 (fun e => by have := Option.some.inj e; omega)).trans h.row, h.own.grown hg (fun k hk e => by have := (h.own.lt hk).1; have := Option.some.inj e; omega), hs, grownBy_trans h.grown hg, (hg.block q (Array.getElem?_eq_some_iff.1 h.res).1 (fun e => by have := Option.some.inj e; omega)).trans h.res⟩
theorem Own.set {B g i : Nat} {w : World} {v u : Value} {l : List UInt8} (h : Own B w v l) (hg : g < B) : Own B (w.setCell ⟨g, i, none⟩ u) v l :=
 h.grown grownBy_setCell (fun k hk e => by have := (h.lt hk).1; have := Option.some.inj e; omega)
def RqFin (B g : Nat) (a : Option Addr) (n c : Nat) (w0 : World) (gr q : Nat) (m t : ByteArray) (w : World) : Prop :=
 ∃ z vF x fr vB l, (z = 0 ∨ z = 1) ∧ RqK B g a n c w0 gr q vF x #[.string m, .string t, .int .i64 z, vF, .bool fr, vB] w ∧ Own B w vB l ∧ RF3 x ∧ l.length ≤ 30 ∧ (fr = false → l = [])
set_option maxRecDepth 100000 in
set_option maxHeartbeats 4000000 in
theorem srcReq_any (g : Nat) (a : Option Addr) (n c : Nat) (w : World) (h : Src w g a n c) :
  Calls Tryz.prog 14 #[.pointer (some ⟨g, 0, none⟩)] w (ReqMade w g a n c) := by
 have H0 := Box.mk h
 have HLOW := Box.mk h.low
 have hlt := h.lt
 clear h
 go_enter Tryz.func14, Tryz.ntmps14
 go_wp2_with fail
 obtain ⟨W, hW⟩ : ∃ W, W = (w.alloc (.cells #[.string ⟨#[]⟩, .string ⟨#[]⟩, .int .i64 0, .slice none 0 0, .bool false, .slice none 0 0] 31)).alloc (.cells (methF.map Value.string).toArray 9) := ⟨_, rfl⟩
 have HBW := Box.mk (show Below w.heap.size w W by rw [hW]; exact below_twoF (below_oneF w _) _)
 have HQ := Box.mk (show RVar W w.heap.size ⟨#[]⟩ ⟨#[]⟩ 0 by rw [hW]; exact (show RVar (w.alloc _) _ _ _ _ from heap_alloc_new _ _).keep (below_oneF _ _))
 have HL := Box.mk (show StrsIn W (some ⟨w.heap.size + 1, 0, none⟩) methF by
  have h1 := strsIn_newF (w.alloc (.cells #[.string ⟨#[]⟩, .string ⟨#[]⟩, .int .i64 0, .slice none 0 0, .bool false, .slice none 0 0] 31)) methF 9
  rw [World.size_alloc] at h1
  rw [hW]; exact h1)
 have HS := Box.mk (H0.out.keep HBW.out)
 change Calls _ _ _ ((w.alloc (.cells #[.string ⟨#[]⟩, .string ⟨#[]⟩, .int .i64 0, .slice none 0 0, .bool false, .slice none 0 0] 31)).alloc (.cells (methF.map Value.string).toArray 9)) _
 rw [← hW]
 clear hW
 refine (of_n g (w.heap.size + 1) 5 methF 5 a n c W HS.out HL.out (by omega) rfl (by decide) (by decide)).mono ?_
 rintro e w1 ⟨m, hm, rfl, hsrc, hg1⟩
 have HNM := Box.mk hm
 have HS1 := Box.mk hsrc
 have HG1 := Box.mk (show w.grownBy w1 (some g) from grownBy_trans (grownBy_below HBW.out) hg1)
 have HQ1 := Box.mk (show RVar w1 w.heap.size ⟨#[]⟩ ⟨#[]⟩ 0 from (hg1.block _ (Array.getElem?_eq_some_iff.1 HQ.out).1 (fun e => by have := Option.some.inj e; omega)).trans HQ.out)
 clear hm hsrc hg1 HS HL HQ HBW H0
 go_wp2_with fail
 obtain ⟨W, hW⟩ : ∃ W, W = w1.alloc (.cells (targF.map Value.string).toArray 9) := ⟨_, rfl⟩
 have HBW := Box.mk (show Below w1.heap.size w1 W by rw [hW]; exact below_oneF w1 _)
 have HL := Box.mk (show StrsIn W (some ⟨w1.heap.size, 0, none⟩) targF by rw [hW]; exact strsIn_newF w1 targF 9)
 have HS2 := Box.mk (HS1.out.keep HBW.out)
 have hlt1 := HS1.out.lt
 change Calls _ _ _ (w1.alloc (.cells (targF.map Value.string).toArray 9)) _
 rw [← hW]
 clear hW
 refine (of_n g w1.heap.size 4 targF 4 a n c W HS2.out HL.out (by omega) rfl (by decide) (by decide)).mono ?_
 rintro e w2 ⟨t, ht, rfl, hsrc, hg2⟩
 have HTM := Box.mk ht
 have HS3 := Box.mk hsrc
 have HG3 := Box.mk (show w.grownBy w2 (some g) from grownBy_trans HG1.out (grownBy_trans (grownBy_below HBW.out) hg2))
 have HQ3 := Box.mk (show RVar w2 w.heap.size ⟨#[]⟩ ⟨#[]⟩ 0 from (hg2.block _ (Array.getElem?_eq_some_iff.1 (HQ1.out.keep HBW.out)).1 (fun e => by have := Option.some.inj e; omega)).trans (HQ1.out.keep HBW.out))
 clear ht hsrc hg2 HS2 HL HQ1 HBW HS1 HG1
 have hgr := HG3.out.size
 have hq2 : w.heap.size < w2.heap.size := (Array.getElem?_eq_some_iff.1 HQ3.out).1
 go_wp2_with fail
 have HN := Box.mk (show RqN (w2.heap.size + 1) g a n w w2.heap.size w.heap.size from ⟨hlt, HLOW.out, rfl, hq2, Nat.lt_succ_self _⟩)
 have HST := Box.mk (show RqSt (fun x => x = []) (w2.heap.size + 1) g a n c w w2.heap.size w.heap.size m t (w2.alloc (.cells #[.string m, .string t, .int .i64 1, .slice none 0 0, .bool false, .slice none 0 0] 31)) from
  ⟨1, _, [], .inr rfl, heap_alloc_new _ _, OwnF.start _ _, rfl, HS3.out.keep (below_oneF _ _), grownBy_trans HG3.out (grownBy_below (below_oneF _ _)), HQ3.out.keep (below_oneF _ _)⟩)
 obtain ⟨W, hW⟩ : ∃ W, W = w2.alloc (.cells #[.string m, .string t, .int .i64 1, .slice none 0 0, .bool false, .slice none 0 0] 31) := ⟨_, rfl⟩
 have hgs : w2.heap.size < W.heap.size := by rw [hW, World.size_alloc]; omega
 have hsW := Box.mk (show Src W g a n c by rw [hW]; exact HS3.out.keep (below_oneF _ _))
 change Calls _ _ _ (w2.alloc (.cells #[.string m, .string t, .int .i64 1, .slice none 0 0, .bool false, .slice none 0 0] 31)) _
 rw [← hW] at HST ⊢
 clear hW HS3 HG3 HQ3
 generalize hgr0 : w2.heap.size = gr at *
 clear hgr0 hgr
 generalize hq0 : w.heap.size = q at *
 have HQ0 := Box.mk hq0
 clear hq0
 refine (next_any g 6 a n c W hsW.out (by decide) (by decide)).mono ?_
 rintro e w3 ⟨k, hk, rfl, hsrc, hg3⟩
 have HST3 := Box.mk (HST.out.next HN.out hg3 hsrc)
 clear hsrc hg3 hsW HST
 go_upto_if 13 with fail
 go_cut [] (fun wx => Box (RqSt (fun x => x = []) (gr + 1) g a n c w gr q m t wx))
 case first =>
  obtain ⟨z, vF, x, h1, h2, h3, h5, h8, h9, h10⟩ := HST3.out
  have H2 := Box.mk h2
  have HA := Box.mk (And.intro h3 (And.intro h8 (And.intro h9 h10)))
  have hf := frozen_of_row w3 gr 2 _ _ h2
  have hc2 : w3.cell? ⟨gr, 2, none⟩ = some (.int .i64 z) := by rw [cell_of_row _ _ _ _ _ _ h2]; rfl
  subst h5
  clear h1 h2 h3 h8 h9 h10
  by_cases hk0 : k = 0
  · have e0 : (((k : Nat) : Int) == 0) = true := by rw [hk0]; rfl
    clear hk0
    go_wp2_with fail
    go_meet
    exact ⟨RqSt.put HN.out (.inl rfl) H2.out rfl HA.out.1 rfl HA.out.2.1 HA.out.2.2.1 HA.out.2.2.2⟩
  · have e0 : (((k : Nat) : Int) == 0) = false := by rw [beq_eq_false_iff_ne]; omega
    clear hk0
    go_wp2_with fail
    go_meet
    exact HST3
 case rest =>
  obtain ⟨z, vF, x, h1, h2, h3, h5, h8, h9, h10⟩ := hcut.out
  have hgc : gr < wc.heap.size := (Array.getElem?_eq_some_iff.1 h2).1
  have HA := Box.mk (And.intro h1 (And.intro h2 (And.intro h8 (And.intro h9 h10))))
  clear h1 h2 h3 h5 h8 h9 h10 HST3 hcut
  go_wp2_with fail
  refine (srcFieldsS_any g 3 a n c wc HA.out.2.2.1 (by decide)).mono ?_
  rintro e w4 ⟨v4, y, rfl, hy, hyl, hyf, hsrc, hg4⟩
  have HY := Box.mk (hy.mono (show gr + 1 ≤ wc.heap.size from hgc))
  have HRF := Box.mk (show RF1 (y ++ [hostF]) from ⟨y, hyf, hyl, rfl⟩)
  have HROW := Box.mk ((hg4.block gr hgc (fun e => by have := Option.some.inj e; omega)).trans HA.out.2.1)
  have HQ4 := Box.mk (show RVar w4 q ⟨#[]⟩ ⟨#[]⟩ 0 from (hg4.block q (by omega) (fun e => by have := Option.some.inj e; omega)).trans HA.out.2.2.2.2)
  have HS4 := Box.mk hsrc
  have HG4 := Box.mk (grownBy_trans HA.out.2.2.2.1 hg4)
  have hsz4 := hg4.size
  have HZ := Box.mk HA.out.1
  clear hy hyf hsrc hg4 HA
  go_wp2_with (at_builtin; refine wpList_append_ownf _ rfl _ _ rfl rfl (HY.out.keep (below_oneF w4 (.cells #[.string hostF.1, .string hostF.2] 69))) rfl (y := hostF) ?c1 ?c2 (by omega) (by simp; omega) ?c3)
  case c1 => simp [hostF]
  case c2 => simp [hostF]
  case c3 =>
   intro v5 w5 hown hgrow
   obtain ⟨X, hX⟩ : ∃ X, y ++ [hostF] = X := ⟨_, rfl⟩
   rw [hX] at hown HRF
   clear hX
   have hb4 := below_oneF w4 (.cells #[.string hostF.1, .string hostF.2] 69)
   have HST6 := Box.mk (RqSt.app (R' := RF1) HN.out HZ.out ((hb4.block gr (Nat.lt_of_lt_of_le hgc hsz4)).trans HROW.out) rfl (fun k hk => (HY.out.lt hk).1) hgrow hown HRF.out (HS4.out.keep hb4) (grownBy_trans HG4.out (grownBy_below hb4)) (HQ4.out.keep hb4))
   have hrow := (hgrow.block gr (by rw [World.size_alloc]; omega) (fun e => by have := (HY.out.lt e.symm).1; omega)).trans ((hb4.block gr (Nat.lt_of_lt_of_le hgc hsz4)).trans HROW.out)
   have hf := frozen_of_row w5 gr 3 _ _ hrow
   have hc3 : w5.cell? ⟨gr, 3, none⟩ = some vF := by rw [cell_of_row _ _ _ _ _ _ hrow]; rfl
   obtain ⟨sa, sc, hv5, _, _⟩ := hown.shape
   subst hv5
   clear hown hgrow hrow hb4 HY HRF HROW HQ4 HS4 HG4 HZ
   go_wp2_with fail
   have hgc6 : gr < (w5.setCell ⟨gr, 3, none⟩ (.slice sa X.length sc)).heap.size := by
    obtain ⟨_, _, _, _, h2, _⟩ := HST6.out
    exact (Array.getElem?_eq_some_iff.1 h2).1
   clear hf hc3
   generalize w5.setCell ⟨gr, 3, none⟩ (.slice sa X.length sc) = W6 at *
   refine (next_any g 2 a n c W6 HST6.out.src (by decide) (by decide)).mono ?_
   rintro e w7 ⟨k2, hk2, rfl, hsrc, hg7⟩
   have HST7 := Box.mk (HST6.out.next HN.out hg7 hsrc)
   clear hsrc hg7 HST6 hgc6
   go_upto_if 23 with fail
   go_cut [] (fun wx => Box (RqSt RF2 (gr + 1) g a n c w gr q m t wx))
   case first =>
    by_cases hk0 : k2 = 0
    · have e0 : (((k2 : Nat) : Int) == 0) = true := by rw [hk0]; rfl
      clear hk0
      obtain ⟨z, vF, x, h1, h2, h3, h5, h8, h9, h10⟩ := HST7.out
      have HZ := Box.mk h1
      have HJ := Box.mk (show RqJ g a n c w gr q m t z vF w7 from ⟨h2, h8, h9, h10⟩)
      have HF := Box.mk h3
      have HR := Box.mk h5
      have hx4 := h5.made.2
      clear h1 h2 h3 h5 h8 h9 h10 HST7
      go_wp2_with fail
      rename_i J hJ _
      have hgw : gr < w7.heap.size := (Array.getElem?_eq_some_iff.1 HJ.out.row).1
      refine wp_region_phases [3, 7, 9] (fun p => match p with | 0 => [0, 1, 2] | 1 => [0, 1, 4, 5, 6] | 2 => [8] | _ => [])
       (fun p => match p with
        | 0 => [.val (.pointer (some ⟨gr, 3, none⟩)), .val vF, .val (.pointer (some ⟨g, 0, none⟩)), .nope, .nope, .nope, .nope, .nope, .nope, .any]
        | 1 => [.val (.pointer (some ⟨gr, 3, none⟩)), .val vF, .any, .ids (fun s => .string s), .ids (fun s => .string (cohort ++ s)), .ids (fun s => .agg #[.string (cookF s).1, .string (cookF s).2]), .cooks, .nope, .nope, .any]
        | 2 => [.any, .any, .any, .any, .any, .any, .any, .capp (gr + 1) x, .val (.pointer (some ⟨gr, 3, none⟩)), .any]
        | _ => [.any, .any, .any, .any, .any, .any, .any, .any, .any, .any])
       (fun p => match p with
        | 0 => fun wx => RqJ g a n c w gr q m t z vF wx ∧ OwnF (gr + 1) wx vF x ∧ gr < wx.heap.size
        | 1 => fun wx => RqJ g a n c w gr q m t z vF wx ∧ OwnF (gr + 1) wx vF x ∧ gr < wx.heap.size
        | 2 => fun wx => RqJ g a n c w gr q m t z vF wx
        | _ => fun wx => RqSt RF2 (gr + 1) g a n c w gr q m t wx)
       (by kernel_rfl) (by kernel_rfl) (by kernel_rfl) (by kernel_rfl) (by kernel_rfl) (by kernel_rfl) ?_ ⟨HJ.out, HF.out, hgw⟩ ?_ ?_ ?_
      · intro p w1 w2 h hb
        match p, h with
        | 0, h => exact ⟨h.1.keep hb, h.2.1.keep hb, Nat.lt_of_lt_of_le h.2.2 hb.size⟩
        | 1, h => exact ⟨h.1.keep hb, h.2.1.keep hb, Nat.lt_of_lt_of_le h.2.2 hb.size⟩
        | 2, h => exact RqJ.keep h hb
        | (_ + 3), h => exact RqSt.keep h hb
      · intro p hp
        match p, hp with
        | 0, _ =>
         refine ⟨?_, ?_, ?_, trivial⟩ <;> intro a1 w1 hv hf hd
         · exact ⟨wanted_none rfl, loc_fieldR rfl (hf.base 3 rfl) (by decide) rfl⟩
         · exact ⟨wanted_none rfl, loc_cell rfl (hd 0 rfl) (by rw [cell_of_row _ _ _ _ _ _ hv.1.row]; rfl) (agg_fields _) rfl⟩
         · exact ⟨wanted_none rfl, loc_move rfl (hf.base 0 rfl)⟩
        | 1, _ =>
         refine ⟨?_, ?_, ?_, ?_, ?_, trivial⟩ <;> intro a1 w1 hv hf hd
         · exact ⟨wanted_none rfl, loc_fieldR rfl (hf.base 3 rfl) (by decide) rfl⟩
         · exact ⟨wanted_none rfl, loc_cell rfl (hd 0 rfl) (by rw [cell_of_row _ _ _ _ _ _ hv.1.row]; rfl) (agg_fields _) rfl⟩
         · obtain ⟨s, hs, e⟩ := hd 3 rfl
           exact ⟨wanted_none rfl, loc_addS (b := cohort) rfl rfl e (by rw [hs.1]; decide) ⟨s, hs, rfl⟩⟩
         · obtain ⟨s, hs, e⟩ := hd 4 rfl
           exact ⟨wanted_none rfl, loc_buildF (b := (cookF s).1) (c := (cookF s).2) rfl rfl e ⟨s, hs, rfl⟩⟩
         · obtain ⟨s, hs, e⟩ := hd 5 rfl
           exact ⟨wanted_none rfl, loc_slice1F (f := cookF s) rfl e fun w' h0 h1 => ⟨s, _, _, hs, rfl, h0, h1⟩⟩
        | 2, _ =>
         refine ⟨?_, trivial⟩
         intro a1 w1 hv hf hd
         exact ⟨wanted_none rfl, loc_fieldR rfl (hf.base 3 rfl) (by decide) rfl⟩
        | 3, _ => exact trivial
      · intro p hp
        match p, hp with
        | 0, _ =>
         intro a2 w2 hv hf hd
         refine ⟨wanted_none rfl, chain_call rfl (by kernel_rfl) ?_⟩
         show Calls _ _ #[a2.eval (.tmp 26)] w2 _
         rw [show a2.eval (.tmp 26) = .pointer (some ⟨g, 0, none⟩) from hd 2 rfl]
         refine (srcID_any g a n c w2 hv.1.src).mono ?_
         rintro e w' ⟨s, rfl, h16, hhex, hsrc, hg⟩
         exact ⟨_, rfl, _, rfl, ⟨hv.1.next HN.out hg hsrc, hv.2.1.grown hg (fun k hk e => by have := (hv.2.1.lt hk).1; have := Option.some.inj e; omega), Nat.lt_of_lt_of_le hv.2.2 hg.size⟩, ⟨s, ⟨h16, hhex⟩, rfl⟩,
          ⟨.inr fun _ _ h => h, .inr fun _ _ h => h, .inr fun _ _ _ => trivial, .inl rfl, .inr fun _ _ h => h.elim, .inr fun _ _ h => h.elim, .inr fun _ _ h => h.elim, .inr fun _ _ h => h.elim, .inr fun _ _ h => h.elim, .inr fun _ _ _ => trivial, trivial⟩⟩
        | 1, _ =>
         intro a2 w2 hv hf hd
         have e25 : a2.eval (.tmp 25) = vF := hd 1 rfl
         obtain ⟨s, b, cb, hs, e30, h0, h1⟩ := hd 6 rfl
         refine ⟨wanted_none rfl, wp_append_oneF rfl (by show OwnF (gr + 1) w2 (a2.eval (.tmp 25)) x; rw [e25]; exact hv.2.1) e30 h0 h1 (by omega) hv.2.2 fun v' w3 hown hgrow => ?_⟩
         rw [show a2.eval (.tmp 25) = vF from e25] at hgrow
         exact ⟨v', rfl, hv.1.app HN.out hgrow (fun k hk => (hv.2.1.lt hk).1), ⟨s, hs, hown⟩,
          ⟨.inr fun _ _ _ => trivial, .inr fun _ _ _ => trivial, .inr fun _ _ _ => trivial, .inr fun _ _ _ => trivial, .inr fun _ _ _ => trivial, .inr fun _ _ _ => trivial, .inr fun _ _ _ => trivial, .inl rfl, .inr fun _ _ h => h.elim, .inr fun _ _ _ => trivial, trivial⟩⟩
        | 2, _ =>
         intro a2 w2 hv hf hd
         obtain ⟨s, hs, hown⟩ := hd 7 rfl
         obtain ⟨sa, sc, e31, _, _⟩ := hown.shape
         have e32 : a2.eval (.tmp 32) = .pointer (some ⟨gr, 3, none⟩) := hd 8 rfl
         refine ⟨wanted_none rfl, wp_store_slice (u := vF) rfl e32 e31 (by kernel_rfl) (by rw [cell_of_row _ _ _ _ _ _ hv.row]; rfl) (frozen_of_row w2 gr 3 _ _ hv.row) ?_⟩
         rw [e31] at hown
         exact ⟨undef, rfl, RqSt.put HN.out HZ.out hv.row rfl hown (.inr ⟨x, s, HR.out, hs, rfl⟩) hv.src hv.grown hv.res, trivial,
          ⟨.inr fun _ _ _ => trivial, .inr fun _ _ _ => trivial, .inr fun _ _ _ => trivial, .inr fun _ _ _ => trivial, .inr fun _ _ _ => trivial, .inr fun _ _ _ => trivial, .inr fun _ _ _ => trivial, .inr fun _ _ _ => trivial, .inr fun _ _ _ => trivial, .inl rfl, trivial⟩⟩
      · intro a2 w2 hv hf hh
        clear hh
        rw [fr_putAll hf]
        clear hf
        simp only [putAll]
        generalize a2.eval (.tmp 24) = u24
        generalize a2.eval (.tmp 25) = u25
        generalize a2.eval (.tmp 26) = u26
        generalize a2.eval (.tmp 27) = u27
        generalize a2.eval (.tmp 28) = u28
        generalize a2.eval (.tmp 29) = u29
        generalize a2.eval (.tmp 30) = u30
        generalize a2.eval (.tmp 31) = u31
        generalize a2.eval (.tmp 32) = u32
        clear a2
        simp only [Act.put, List.setIfInBounds_toArray, List.set_cons_succ, List.set_cons_zero]
        refine hJ _ _ ?_
        go_meet
        exact ⟨hv⟩
    · have e0 : (((k2 : Nat) : Int) == 0) = false := by rw [beq_eq_false_iff_ne]; omega
      clear hk0
      go_wp2_with fail
      go_meet
      exact ⟨HST7.out.weaken fun _ h => .inl h⟩
   case rest =>
    have HSTC := Box.mk hcut.out
    clear hcut HST7
    go_wp2_with fail
    refine (next_any g 5 a n c wc HSTC.out.src (by decide) (by decide)).mono ?_
    rintro e w8 ⟨k3, hk3, rfl, hsrc, hg8⟩
    have HST8 := Box.mk (HSTC.out.next HN.out hg8 hsrc)
    clear hsrc hg8 HSTC
    go_upto_if 35 with fail
    go_cut [] (fun wx => Box (RqSt RF3 (gr + 1) g a n c w gr q m t wx))
    case first =>
     by_cases hk0 : k3 = 0
     · have e0 : (((k3 : Nat) : Int) == 0) = true := by rw [hk0]; rfl
       clear hk0
       obtain ⟨z, vF, x, h1, h2, h3, h5, h8, h9, h10⟩ := HST8.out
       have hgw : gr < w8.heap.size := (Array.getElem?_eq_some_iff.1 h2).1
       have hb8 := below_oneF w8 (.cells #[.string expF.1, .string expF.2] 69)
       have hc3 : w8.cell? ⟨gr, 3, none⟩ = some vF := by rw [cell_of_row _ _ _ _ _ _ h2]; rfl
       have HA := Box.mk (And.intro h1 (And.intro h2 (And.intro h3 (And.intro h5 (And.intro h8 (And.intro h9 h10))))))
       have HB8 := Box.mk hb8
       have hx5 := h5.made.2
       clear h1 h2 h3 h5 h8 h9 h10 hb8 HST8
       go_wp2_with (at_builtin; refine wpList_append_ownf _ rfl _ _ rfl rfl (HA.out.2.2.1.keep HB8.out) rfl (y := expF) ?d1 ?d2 (by omega) (by simp; omega) ?d3)
       case d1 => simp [expF]
       case d2 => simp [expF]
       case d3 =>
        intro v9 w9 hown hgrow
        obtain ⟨X9, hX⟩ : ∃ X9, x ++ [expF] = X9 := ⟨_, rfl⟩
        have HRF9 := Box.mk (show RF3 X9 by rw [← hX]; exact .inr ⟨x, HA.out.2.2.2.1, rfl⟩)
        rw [hX] at hown
        clear hX
        have HST9 := Box.mk (RqSt.app (R' := RF3) HN.out HA.out.1 ((HB8.out.block gr hgw).trans HA.out.2.1) rfl (fun k hk => (HA.out.2.2.1.lt hk).1) hgrow hown HRF9.out (HA.out.2.2.2.2.1.keep HB8.out) (grownBy_trans HA.out.2.2.2.2.2.1 (grownBy_below HB8.out)) (HA.out.2.2.2.2.2.2.keep HB8.out))
        have hrow := (hgrow.block gr (by rw [World.size_alloc]; omega) (fun e => by have := (HA.out.2.2.1.lt e.symm).1; omega)).trans ((HB8.out.block gr hgw).trans HA.out.2.1)
        have hf := frozen_of_row w9 gr 3 _ _ hrow
        have hc3 : w9.cell? ⟨gr, 3, none⟩ = some vF := by rw [cell_of_row _ _ _ _ _ _ hrow]; rfl
        obtain ⟨sa9, sc9, hv9, _, _⟩ := hown.shape
        subst hv9
        clear hown hgrow hrow HA HRF9
        go_wp2_with fail
        go_meet
        exact HST9
     · have e0 : (((k3 : Nat) : Int) == 0) = false := by rw [beq_eq_false_iff_ne]; omega
       clear hk0
       go_wp2_with fail
       go_meet
       exact ⟨HST8.out.weaken fun _ h => .inl h⟩
    case rest =>
     have HSTC := Box.mk hcut.out
     clear hcut HST8
     go_wp2_with fail
     refine (next_any g 4 a n c wc HSTC.out.src (by decide) (by decide)).mono ?_
     rintro e wa ⟨k4, hk4, rfl, hsrc, hga⟩
     obtain ⟨z, vF, x, h1, h2, h3, h5, h8, h9, h10⟩ := HSTC.out.next HN.out hga hsrc
     have HK := Box.mk (show RqK (gr + 1) g a n c w gr q vF x #[.string m, .string t, .int .i64 z, vF, .bool false, .slice none 0 0] wa from ⟨h2, h3, h8, h9, h10⟩)
     have HZ := Box.mk h1
     have HR := Box.mk h5
     have hf4 := frozen_of_row wa gr 4 _ _ h2
     have hf5 := frozen_of_row wa gr 5 _ _ h2
     clear h1 h2 h3 h5 h8 h9 h10 hsrc hga HSTC
     go_upto_block 0 with fail
     go_cut [] (fun wx => Box (RqFin (gr + 1) g a n c w gr q m t wx))
     case first =>
      have hc4 : wa.cell? ⟨gr, 4, none⟩ = some (.bool false) := by rw [cell_of_row _ _ _ _ _ _ HK.out.row]; rfl
      have hc5 : wa.cell? ⟨gr, 5, none⟩ = some (.slice none 0 0) := by rw [cell_of_row _ _ _ _ _ _ HK.out.row]; rfl
      have hc2 : wa.cell? ⟨gr, 2, none⟩ = some (.int .i64 z) := by rw [cell_of_row _ _ _ _ _ _ HK.out.row]; rfl
      by_cases hk0 : k4 = 0
      · have e0 : (((k4 : Nat) : Int) == 0) = true := by rw [hk0]; rfl
        clear hk0 hf4 hf5 hc4 hc5 hc2
        go_wp2_with fail
        refine (srcBytes_any g 30 a n c wa HK.out.src (by decide)).mono ?_
        rintro e wb ⟨vB, l, rfl, hB, hl, hsrc, hgb⟩
        have HKB := Box.mk (HK.out.next HN.out hgb hsrc)
        have HBB := Box.mk (hB.mono (show gr + 1 ≤ wa.heap.size from (Array.getElem?_eq_some_iff.1 HK.out.row).1))
        clear hB hsrc hgb HK
        obtain ⟨sB, cB, hvB, _⟩ := HBB.out.val
        subst hvB
        have hf4 := frozen_of_row wb gr 4 _ _ HKB.out.row
        have hf5 := frozen_of_row wb gr 5 _ _ HKB.out.row
        have hc4 : wb.cell? ⟨gr, 4, none⟩ = some (.bool false) := by rw [cell_of_row _ _ _ _ _ _ HKB.out.row]; rfl
        have hc5 : wb.cell? ⟨gr, 5, none⟩ = some (.slice none 0 0) := by rw [cell_of_row _ _ _ _ _ _ HKB.out.row]; rfl
        go_wp2_with fail
        go_meet
        exact ⟨⟨z, vF, x, true, _, l, HZ.out, (HKB.out.set HN.out 4 _).set HN.out 5 _, (HBB.out.set (Nat.lt_succ_self _)).set (Nat.lt_succ_self _), HR.out, hl, fun h => by cases h⟩⟩
      · have e0 : (((k4 : Nat) : Int) == 0) = false := by rw [beq_eq_false_iff_ne]; omega
        by_cases hk1 : k4 = 1
        · have e1 : (((k4 : Nat) : Int) == 1) = true := by rw [hk1]; rfl
          clear hk0 hk1
          rcases HZ.out with rfl | rfl
          · go_wp2_with fail
            go_meet
            exact ⟨⟨0, vF, x, false, _, [], .inl rfl, (HK.out.set HN.out 4 _).set HN.out 5 _, Own.start _ _, HR.out, by decide, fun _ => rfl⟩⟩
          · have HK5 := Box.mk ((HK.out.set HN.out 4 (.bool true)).set HN.out 5 (.slice none 0 0))
            go_wp2_with fail
            generalize (wa.setCell ⟨gr, 4, none⟩ (.bool true)).setCell ⟨gr, 5, none⟩ (.slice none 0 0) = wq at *
            refine (srcBytes_any g 30 a n c wq HK5.out.src (by decide)).mono ?_
            rintro e wb ⟨vB, l, rfl, hB, hl, hsrc, hgb⟩
            have HKB := Box.mk (HK5.out.next HN.out hgb hsrc)
            have HBB := Box.mk (hB.mono (show gr + 1 ≤ wq.heap.size from (Array.getElem?_eq_some_iff.1 HK5.out.row).1))
            clear hB hsrc hgb HK HK5 hf4 hf5 hc4 hc5 hc2
            obtain ⟨sB, cB, hvB, _⟩ := HBB.out.val
            subst hvB
            have hf5 := frozen_of_row wb gr 5 _ _ HKB.out.row
            have hc5 : wb.cell? ⟨gr, 5, none⟩ = some (.slice none 0 0) := by rw [cell_of_row _ _ _ _ _ _ HKB.out.row]; rfl
            go_wp2_with fail
            go_meet
            exact ⟨⟨1, vF, x, true, _, l, .inr rfl, HKB.out.set HN.out 5 _, HBB.out.set (Nat.lt_succ_self _), HR.out, hl, fun h => by cases h⟩⟩
        · have e1 : (((k4 : Nat) : Int) == 1) = false := by rw [beq_eq_false_iff_ne]; omega
          clear hk0 hk1
          go_wp2_with fail
          go_meet
          exact ⟨⟨z, vF, x, false, _, [], HZ.out, HK.out, Own.start _ _, HR.out, by decide, fun _ => rfl⟩⟩
     case rest =>
      obtain ⟨z, vF, x, fr, vB, l, h1, hk, hB, hR, hl, hfr⟩ := hcut.out
      obtain ⟨sF, cF, hvF, _, _⟩ := hk.own.shape
      obtain ⟨sB, cB, hvB, _⟩ := hB.val
      subst hvF hvB
      have hrow := hk.row
      have hres := hk.res
      have HK2 := Box.mk hk
      have HB2 := Box.mk (And.intro hB (And.intro hR (And.intro hl hfr)))
      have HZ2 := Box.mk h1
      clear hk hB hR hl hfr h1 hcut HK HZ HR
      go_wp2_with (first | (refine wpList_load_row rfl 31 _ rfl gr rfl 31 _ (0, 0) _ hrow Tryz.underlying31 rfl sizeR ?_) | (refine wpList_store_row rfl 31 _ _ rfl q #[.string m, .string t, .int .i64 z, .slice sF x.length cF, .bool fr, .slice sB l.length cB] rfl rfl 31 _ hres sizeR rfl (by simp [Value.oneCell']) ?_))
      (try simp only [Exit.inBlock, Exit.then])
      refine bodyPost_ret (results_cell_row rfl _ _ q _ _ _ _ rfl (setRow_heap _ _ _ _ _ _ hres) Tryz.underlying31 rfl sizeR) rfl ?_
      have hnew := grownBy_setRowF wc q #[.string m, .string t, .int .i64 z, .slice sF x.length cF, .bool fr, .slice sB l.length cB]
      have hq9 := HQ0.out
      have n3 := HN.out.hgr
      exact ⟨m, t, z, _, x, fr, _, l, rfl, HNM.out, HTM.out, HZ2.out, (HK2.out.own.grown hnew (fun k hk e => by have := (HK2.out.own.lt hk).1; have := Option.some.inj e; omega)).mono (by omega), (HB2.out.1.grown hnew (fun k hk e => by have := (HB2.out.1.lt hk).1; have := Option.some.inj e; omega)).mono (by omega),
       HB2.out.2.1, HB2.out.2.2.1, HB2.out.2.2.2, HK2.out.src.other hnew (by omega) (fun y e h0 => by have := HLOW.out y e h0; omega), grownBy_new HK2.out.grown hnew (fun i e => by have := Option.some.inj e; omega)⟩
end Go.Proofs.YtfghgenboahkkaaGreatDoor
