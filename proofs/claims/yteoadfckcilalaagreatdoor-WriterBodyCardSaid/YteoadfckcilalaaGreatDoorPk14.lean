/- The law WriterBody. -/
import Derived.Test.YteoadfckcilalaaGreatDoorPk1
import Derived.Test.YteoadfckcilalaaGreatDoorPk2
import Derived.Test.YteoadfckcilalaaGreatDoorPk3
import Derived.Test.YteoadfckcilalaaGreatDoorPk4
import Derived.Test.YteoadfckcilalaaGreatDoorPk5
import Derived.Test.YteoadfckcilalaaGreatDoorPk6
import Derived.Test.YteoadfckcilalaaGreatDoorPk7
import Derived.Test.YteoadfckcilalaaGreatDoorPk8
import Derived.Test.YteoadfckcilalaaGreatDoorPk9
import Derived.Test.YteoadfckcilalaaGreatDoorPk10
import Derived.Test.YteoadfckcilalaaGreatDoorPk11
import Derived.Test.YteoadfckcilalaaGreatDoorPk12
import Derived.Test.YteoadfckcilalaaGreatDoorPk13
import Derived.Test.YteoadfckcilalaaGreatDoorRows
import Derived.WalkKit
import Derived.WalkSpells
import Derived.WalkLawsBesides
import Derived.BigQuiet
import Derived.Deep.QuietTactic
import Derived.Lib.Bytealg
import Derived.Lib.IndexLaws
import Derived.Lib.Hide
import Derived.Laws.IdiomStrings
import Derived.Lib.SlTrimSet
import Derived.Lib.IndexBytes
import Derived.Lib.Split
import Derived.Deep.AppendLies
import Derived.Shelf.Strings.SlTrimAscii
import Derived.Shelf.Strings.SplitShaped
import Derived.Shelf.LaysM
import Derived.Shelf.Strings.BuilderK
import Derived.Shelf.Strconv.Itoa4
import Derived.Shelf.Strings.Prefix
import Derived.Shelf.Bytes.SlIndexWhole
import Derived.Test.YteoadfckcilalaaGreatDoorProg
import Derived.Lib.SplitLaws
import Derived.WalkSmall
import Derived.ProofKit
import Derived.OpenShut
import Derived.Lib.Strings
import Derived.SliceStrings
import Derived.Deep.Quiet
import Derived.Tactics
import Derived.KernelRfl
import Derived.Below
import Derived.Laws.Bits64
import Derived.Lib.SlBytesConst
import Derived.Maps.AppendAt
import Derived.Laws.AppendOwnNone
import Derived.Great.BuildSlice
import Derived.Laws.Rows
import Derived.Laws.BitsAllLaws
import Derived.Laws.Shifts
import Derived.Maps.OwnOps
import Derived.Maps.OwnSet
import Derived.Deep.SlicePairs
import Derived.Lib.AppendZerosOnto
import Derived.Lib.AppendStr
import Derived.Laws.CopyOwn
import Derived.OwnWalk
import Derived.Laws.Strings3
import Derived.Laws.Concat
import Derived.Lib.ItoaMem
import Derived.IntWalk
import Derived.Laws.RangeAny
import Derived.LoopTactic
import Derived.Sort.Grow
import Derived.Lib.ConvBytes
import Derived.Lib.LaidTab
import Derived.LaidSub
import Derived.Laws.Bits64b
import Derived.Deep.DeepCutAuto
import Derived.Deep.CutBlock
import Derived.Lib.FrozenHead2
import Derived.Deep.RegionHeld3
import Derived.Deep.Matrix
import Derived.MakeChecks
import Derived.Deep.MidRow
import Derived.Laws.Tables
import Derived.Deep.WholeRow
import Derived.StillTailTactics
import Derived.Lib.LazyBuf
import Derived.ArgAppend
namespace Go.Proofs.YteoadfckcilalaaGreatDoor
open Go.RowKit

set_option linter.unusedVariables false
theorem run_fieldRAt (w : World) (g b i : Nat) (hi : i < 6) : (Instr.fieldAt 29 (.pointer (some ⟨g, b, none⟩)) i).run Tryz.prog w = .ok (.pointer (some ⟨g, b + i, none⟩)) w := by
  match i, hi with
  | 0, _ => simp [Instr.fieldAt, run_underlying Tryz.underlying29, Instr.sureAddr, fieldPlace, Addr.add]
  | 1, _ => simp [Instr.fieldAt, run_underlying Tryz.underlying29, Instr.sureAddr, fieldPlace, Addr.add]
  | 2, _ => simp [Instr.fieldAt, run_underlying Tryz.underlying29, Instr.sureAddr, fieldPlace, Addr.add]
  | 3, _ => simp [Instr.fieldAt, run_underlying Tryz.underlying29, Instr.sureAddr, fieldPlace, Addr.add]
  | 4, _ => simp [Instr.fieldAt, run_underlying Tryz.underlying29, Instr.sureAddr, fieldPlace, Addr.add]
  | 5, _ => simp [Instr.fieldAt, run_underlying Tryz.underlying29, Instr.sureAddr, fieldPlace, Addr.add]
section
variable {Q : Exit → Act → World → Prop} {a : Act} {w : World} {o : Oper} {s : Spec}
theorem loc_fieldRAt {x : Operand} {i : Nat} (ho : o.op = .fieldAddr 29 x i) {g b : Nat} (hx : a.eval x = .pointer (some ⟨g, b, none⟩)) (hi : i < 6) (hs : s.p (.pointer (some ⟨g, b + i, none⟩)) w) :
    o.wp Tryz.prog a w (fun a' w' => ∃ v, a' = a.put o.dst v ∧ Below w.heap.size w w' ∧ s.p v w') Q :=
  loc_run (v := .pointer (some ⟨g, b + i, none⟩)) (by unfold execOp; rw [ho]; simp only [hx, Sem.run_bind, run_fieldRAt _ _ _ _ hi, Result.andThen_ok, Sem.run_pure]) (Below.refl _ _) hs
end
theorem loc_eql_boolW {Q : Exit → Act → World → Prop} {a : Act} {w : World} {o : Oper} {s : Spec} {x y : Operand} {t : TypeId} (ho : o.op = .binOp .eql 4 x y t) {b : Bool} (hx : a.eval x = .bool b) (hy : a.eval y = .bool b) (hs : s.p (.bool true) w) :
    o.wp Tryz.prog a w (fun a' w' => ∃ v, a' = a.put o.dst v ∧ Below w.heap.size w w' ∧ s.p v w') Q :=
  loc_run (v := .bool true) (by
    unfold execOp
    simp only [ho, hx, hy]
    have he : (Op.equalIn Op.maxDepth 4 (.bool b) (.bool b)).run Tryz.prog w = .ok true w := by
      rw [show Op.maxDepth = 9999 + 1 from rfl]
      unfold Op.equalIn
      rw [Sem.run_bind, run_underlying Tryz.underlying4]
      cases b <;> rfl
    simp [eqGuard, binOp, Op.equal, he]) (Below.refl _ _) hs
theorem agg_boolW (w : World) : (isAgg 4).run Tryz.prog w = .ok false w := by
  unfold isAgg; rw [Sem.run_bind, run_underlying Tryz.underlying4 w]; rfl
set_option maxRecDepth 100000 in
set_option maxHeartbeats 2000000 in
theorem writerBody_any (a : Option Addr) (n c : Nat) (mm : Int) (w : World) (hi : IntsF w a n) (hn : n ≤ maxLen) (hk : HdOk w mm) (htb : Tabs w) (hre : ReasT w) :
    Calls Tryz.prog 7 #[.slice a n c] w fun e w' => e = .returned (.bool true) ∧ Below w.heap.size w w' := by
  have HS0 := Box.mk (src_box (c := c) hi hn)
  have HB0 := Box.mk (below_oneF w (.cells #[.slice a n c, .int .i64 0] 56))
  have HOK := Box.mk hk
  have HTB := Box.mk htb
  have HRE := Box.mk hre
  clear hi hn hk htb hre
  go_enter Tryz.func7, Tryz.ntmps7
  go_wp2_with fail
  refine (srcReq_any w.heap.size a n c _ HS0.out).mono ?_
  rintro e w5 ⟨m, t, z, v5, x, fr, vB, bl, rfl, hm, ht, hz, ho5, hbo, hR3, hbl, hfr, hs5, hg5⟩
  obtain ⟨fa, fc, rfl, hfc, _⟩ := ho5.shape
  obtain ⟨ba, bc, rfl, hbv⟩ := hbo.val
  obtain ⟨h400, hh4, hsm, hnx⟩ := body_first (fr := fr) (l := bl) hm ht hz hR3 hbl
  obtain ⟨y, hy⟩ : ∃ y, y = x ++ lenT fr bl := ⟨_, rfl⟩
  rw [← hy] at h400 hh4 hsm hnx
  have HYE := Box.mk hy
  have HMF := Box.mk (And.intro h400 (And.intro hh4 (And.intro hsm (fmtReq_made hm ht hz).2)))
  have HNX := Box.mk hnx
  have HSZ := Box.mk (And.intro (meth_at hm).2 (And.intro (targ_at ht).2 (And.intro hR3.made.2 (And.intro hbl hz))))
  have HB5 := Box.mk (below_box HB0.out hg5)
  obtain ⟨q, hq⟩ : ∃ q, q = w5.heap.size := ⟨_, rfl⟩
  obtain ⟨W6, hW6⟩ : ∃ W6, W6 = (w5.alloc (.cells #[.string ⟨#[]⟩, .string ⟨#[]⟩, .int .i64 0, .slice none 0 0, .bool false, .slice none 0 0] 29)).setRow w5.heap.size #[.string m, .string t, .int .i64 z, .slice fa x.length fc, .bool fr, .slice ba bl.length bc] := ⟨_, rfl⟩
  have HV6 := Box.mk (show (w5.alloc (.cells #[.string ⟨#[]⟩, .string ⟨#[]⟩, .int .i64 0, .slice none 0 0, .bool false, .slice none 0 0] 29)).heap[w5.heap.size]? = some (.cells #[.string ⟨#[]⟩, .string ⟨#[]⟩, .int .i64 0, .slice none 0 0, .bool false, .slice none 0 0] 29 (0, 0)) from heap_alloc_new _ _)
  have hb56 : Below w5.heap.size w5 W6 := by rw [hW6]; exact below_setRow (below_oneF _ _) (Nat.le_refl _) _
  have HQ6 := Box.mk (show W6.heap[q]? = some (.cells #[.string m, .string t, .int .i64 z, .slice fa x.length fc, .bool fr, .slice ba bl.length bc] 29 (0, 0)) by rw [hW6, hq]; exact setRow_heap _ _ _ _ _ _ HV6.out)
  have HF6 := Box.mk (hfc.keep hb56)
  have HD6 := Box.mk (hbv.keep hb56)
  have HB6 := Box.mk (below_trans HB5.out hb56)
  clear hm ht hz ho5 hbo hR3 hbl hfr hs5 hg5 hfc hbv hb56 HS0 HB0 HB5 h400 hh4 hsm hnx hy
  go_upto_region 2 with (refine wpList_store_row rfl 29 _ _ rfl w5.heap.size #[.string m, .string t, .int .i64 z, .slice fa x.length fc, .bool fr, .slice ba bl.length bc] rfl rfl 29 _ HV6.out sizeR rfl (by simp [Value.oneCell']) ?_)
  rw [← hW6, ← hq]
  rw [← hq] at hW6
  clear hW6 HV6 hq
  go_wp2_with (refine wpList_load_row rfl 29 _ rfl q rfl 29 #[.string m, .string t, .int .i64 z, .slice fa x.length fc, .bool fr, .slice ba bl.length bc] (0, 0) _ HQ6.out Tryz.underlying29 rfl sizeR ?_)
  refine (meas_any m t z x fr bl fa ba fc bc W6 HF6.out (by have := HSZ.out.2.2.1; omega) HSZ.out.2.2.2.1).mono ?_
  rintro e w7 ⟨xa, xc, he, hx7, hb7⟩
  rw [← HYE.out] at he hx7
  subst he
  have HX7 := Box.mk hx7
  have HB7 := Box.mk (below_trans HB6.out hb7)
  have HD7 := Box.mk (HD6.out.keep hb7)
  have HQ7 := Box.mk ((hb7.block q (lt_row HQ6.out)).trans HQ6.out)
  have HXL := Box.mk (show y.length ≤ 100 by rw [HYE.out]; have := HSZ.out.2.2.1; unfold lenT; rw [List.length_append]; split <;> simp <;> omega)
  clear hx7 hb7 HF6 HD6 HB6 HQ6
  go_wp2_with fail
  refine (projReq_any m t z fr y bl xa ba xc bc mm w7 (by have := HSZ.out.1; omega) (by have := HSZ.out.2.1; omega) HX7.out HMF.out.2.2.1 HXL.out (by have := HMF.out.2.2.2; omega) HD7.out (by have := HMF.out.1; have := HSZ.out.2.2.2.1; omega) (HOK.out.keep HB7.out)).mono ?_
  rintro e w8 ⟨v, rfl, ho8, hb8⟩
  obtain ⟨h, hh⟩ : ∃ h, h = headB (fmtReq m t z) y := ⟨_, rfl⟩
  rw [← hh] at ho8
  have HH4 := Box.mk (show 4 ≤ h.length ∧ h.length ≤ 400 from by rw [hh]; exact ⟨HMF.out.2.1, HMF.out.1⟩)
  have HNX2 := Box.mk (show ∃ s : RS, nextX (begR false ⟨#[]⟩) (h ++ bl) 1000 1000 1000 = ⟨0, s, 1, [], h.length⟩ ∧ s.m = m ∧ s.t = t ∧ s.fr = fr by rw [hh]; exact HNX.out)
  rw [show wrB h bl = h ++ bl from if_neg (by have := HH4.out.1; omega)] at ho8
  obtain ⟨b, hb⟩ : ∃ b, b = h ++ bl := ⟨_, rfl⟩
  rw [← hb] at ho8
  have HBL := Box.mk (show b.length = h.length + bl.length ∧ b.drop h.length = bl from by rw [hb]; exact ⟨List.length_append, List.drop_left⟩)
  have HNX3 := Box.mk (show ∃ s : RS, nextX (begR false ⟨#[]⟩) b 1000 1000 1000 = ⟨0, s, 1, [], h.length⟩ ∧ s.m = m ∧ s.t = t ∧ s.fr = fr by rw [hb]; exact HNX2.out)
  obtain ⟨va, vc, rfl, hvb⟩ := ho8.form
  have HVB := Box.mk hvb
  have HB8 := Box.mk (below_trans HB7.out hb8)
  have HD8 := Box.mk (HD7.out.keep hb8)
  have HQ8 := Box.mk ((hb8.block q (lt_row HQ7.out)).trans HQ7.out)
  clear hh hb hb8 hvb ho8 HX7 HB7 HD7 HQ7 HMF HNX HNX2 HXL
  go_wp2_with fail
  refine (forRequest_any w8).mono ?_
  rintro e w9 ⟨rfl, hb9⟩
  have HB9 := Box.mk (below_trans HB8.out hb9)
  have HD9 := Box.mk (HD8.out.keep hb9)
  have HVB9 := Box.mk (HVB.out.keep hb9)
  have HQ9 := Box.mk ((hb9.block q (lt_row HQ8.out)).trans HQ8.out)
  clear hb9 HVB HB8 HD8 HQ8
  go_wp2_with fail
  refine (projNext_any (fun _ => True) (begR false ⟨#[]⟩) b 1000 1000 1000 va vc none none none 0 0 0 w9 mm HVB9.out (by have := HBL.out.1; have := HH4.out.2; have := HSZ.out.2.2.2.1; omega) (begR_mem ..) (HOK.out.keep HB9.out) (begR_ok ..) (by decide) (by decide) (fun _ _ => trivial)).mono ?_
  rintro e w10 ⟨f4, c4, g4, d4, l4, e4, pa, pc, he, hrm, hpd, hb10⟩
  obtain ⟨s, hs, hsm, hst, hsf⟩ := HNX3.out
  rw [hs] at he hrm hpd
  dsimp only at he hrm hpd
  subst he
  obtain ⟨cr, hcr⟩ : ∃ cr : Array Value, cr = #[.bool s.rep, .string s.meth, .int .i64 s.ph, .string s.m, .string s.t, .int .i64 s.z, .slice f4 (List.length s.xs) c4, .bool s.fr, .slice none 0 0, .int .i64 s.st, .string s.rs, .int .i64 s.z2, .slice g4 (List.length s.ys) d4, .slice none 0 0, .int .i64 s.fk, .int .i64 s.fl, .int .i64 s.left, .int .i64 s.size, .int .i64 s.ck.ph, .int .i64 s.ck.left, .int .i64 s.ck.tr, .slice l4 (List.length s.ck.line) e4] := ⟨_, rfl⟩
  have hcr22 : cr.size = 22 := by rw [hcr]; rfl
  have hcr1 : cr.all (·.oneCell') = true := by rw [hcr]; exact oneRd ..
  have hc3 : cr[3]? = some (.string m) := by rw [hcr, ← hsm]; rfl
  have hc4 : cr[4]? = some (.string t) := by rw [hcr, ← hst]; rfl
  have hc7 : cr[7]? = some (.bool fr) := by rw [hcr, ← hsf]; rfl
  rw [← hcr]
  obtain ⟨pr, hpr⟩ : ∃ pr : Array Value, pr = #[.int .i64 1, .slice pa 0 pc] := ⟨_, rfl⟩
  have hp0 : pr[0]? = some (.int .i64 1) := by rw [hpr]; rfl
  have hpr2 : pr.size = 2 := by rw [hpr]; rfl
  have hpr1 : pr.all (·.oneCell') = true := by rw [hpr]; simp [Value.oneCell']
  have HSR := Box.mk (show (Tryz.prog.info? 37).map (·.size) = some cr.size by rw [hcr22]; exact sizeRd)
  have HSP := Box.mk (show (Tryz.prog.info? 41).map (·.size) = some pr.size by rw [hpr2]; exact sizePt)
  simp only [List.length_nil]
  rw [← hpr]
  obtain ⟨W10, hW10⟩ : ∃ W10, W10 = (w10.alloc (.cells #[.bool false, .string ⟨#[]⟩, .int .i64 0, .string ⟨#[]⟩, .string ⟨#[]⟩, .int .i64 0, .slice none 0 0, .bool false, .slice none 0 0, .int .i64 0, .string ⟨#[]⟩, .int .i64 0, .slice none 0 0, .slice none 0 0, .int .i64 0, .int .i64 0, .int .i64 0, .int .i64 0, .int .i64 0, .int .i64 0, .int .i64 0, .slice none 0 0] 37)).alloc (.cells #[.int .i64 0, .slice none 0 0] 41) := ⟨_, rfl⟩
  have HX10 := Box.mk (show RVr W10 w10.heap.size #[.bool false, .string ⟨#[]⟩, .int .i64 0, .string ⟨#[]⟩, .string ⟨#[]⟩, .int .i64 0, .slice none 0 0, .bool false, .slice none 0 0, .int .i64 0, .string ⟨#[]⟩, .int .i64 0, .slice none 0 0, .slice none 0 0, .int .i64 0, .int .i64 0, .int .i64 0, .int .i64 0, .int .i64 0, .int .i64 0, .int .i64 0, .slice none 0 0] by
    rw [hW10]; exact ((below_oneF (w10.alloc (.cells #[.bool false, .string ⟨#[]⟩, .int .i64 0, .string ⟨#[]⟩, .string ⟨#[]⟩, .int .i64 0, .slice none 0 0, .bool false, .slice none 0 0, .int .i64 0, .string ⟨#[]⟩, .int .i64 0, .slice none 0 0, .slice none 0 0, .int .i64 0, .int .i64 0, .int .i64 0, .int .i64 0, .int .i64 0, .int .i64 0, .int .i64 0, .slice none 0 0] 37)) _).block _ (by rw [World.size_alloc]; omega)).trans (heap_alloc_new _ _))
  have HP10 := Box.mk (show PVr (W10.setRow w10.heap.size cr) (w10.heap.size + 1) #[.int .i64 0, .slice none 0 0] by
    have h := heap_alloc_new (w10.alloc (.cells #[.bool false, .string ⟨#[]⟩, .int .i64 0, .string ⟨#[]⟩, .string ⟨#[]⟩, .int .i64 0, .slice none 0 0, .bool false, .slice none 0 0, .int .i64 0, .string ⟨#[]⟩, .int .i64 0, .slice none 0 0, .slice none 0 0, .int .i64 0, .int .i64 0, .int .i64 0, .int .i64 0, .int .i64 0, .int .i64 0, .int .i64 0, .slice none 0 0] 37)) (.cells #[.int .i64 0, .slice none 0 0] 41)
    rw [World.size_alloc] at h
    exact (setRow_other _ _ _ _ (by omega)).trans (by rw [hW10]; exact h))
  obtain ⟨W11, hW11⟩ : ∃ W11, W11 = (W10.setRow w10.heap.size cr).setRow (w10.heap.size + 1) pr := ⟨_, rfl⟩
  have hb11 : Below w10.heap.size w10 W11 := by rw [hW11]; exact below_setRow (below_setRow (by rw [hW10]; exact below_twoF (below_oneF _ _) _) (Nat.le_refl _) _) (by omega) _
  have hrow : RVr W11 w10.heap.size cr := by rw [hW11]; exact (setRow_other _ _ _ _ (by omega)).trans (setRow_heap _ _ _ _ _ _ HX10.out)
  have hprow : PVr W11 (w10.heap.size + 1) pr := by rw [hW11]; exact setRow_heap _ _ _ _ _ _ HP10.out
  have hb911 := below_trans hb10 hb11
  have HROW := Box.mk hrow
  have HB11 := Box.mk (below_trans HB9.out hb911)
  have HD11 := Box.mk (HD9.out.keep hb911)
  have HV11 := Box.mk (HVB9.out.keep hb911)
  have HQ11 := Box.mk ((hb911.block q (lt_row HQ9.out)).trans HQ9.out)
  have HC3 := Box.mk hc3
  have HC4 := Box.mk hc4
  have HC7 := Box.mk hc7
  have p0 : W11.cell? ⟨w10.heap.size + 1, 0, none⟩ = some (.int .i64 1) := by rw [cell_of_row _ _ _ _ _ _ hprow]; exact hp0
  have HW11 := Box.mk hW11
  have HW10 := Box.mk hW10
  have hle : h.length ≤ b.length := by have := HBL.out.1; omega
  rw [hW10] at HX10 HP10
  clear hs hrm hpd hb10 hcr hc3 hc4 hc7 hpr hp0 hb11 hrow hprow hb911 hsm hst hsf hW10 hW11 HB9 HD9 HVB9 HQ9 HNX3
  go_upto_region 4 with (first | (refine wpList_store_row rfl 37 _ _ rfl w10.heap.size cr rfl rfl 37 _ HX10.out HSR.out hcr22.symm hcr1 ?_) | (refine wpList_store_row rfl 41 _ _ rfl (w10.heap.size + 1) pr rfl rfl 41 _ HP10.out HSP.out hpr2.symm hpr1 ?_))
  rw [← HW10.out, ← HW11.out]
  clear HW10 HW11 HX10 HP10 HSR HSP hcr22 hcr1 hpr2 hpr1
  generalize w10.heap.size = g at *
  have hn0 : ((h.length : Int) < 0) = False := by simp
  go_upto_region 6 with fail
  clear p0 hn0
  have HLE := Box.mk hle
  rename_i K hK
  have ROWQ : ∀ (a1 : Act) (w3 : World), Below W11.heap.size W11 w3 → w3.heap[q]? = some (.cells #[.string m, .string t, .int .i64 z, .slice fa x.length fc, .bool fr, .slice ba bl.length bc] 29 (0, 0)) := fun _ w3 hb => (hb.block q (lt_row HQ11.out)).trans HQ11.out
  refine wp_region_local (S := [.val (.pointer (some ⟨g, 3, none⟩)), .val (.pointer (some ⟨g, 3 + 0, none⟩)), .val (.string m), .val (.pointer (some ⟨q, 0, none⟩)), .val (.string m), .val (.bool true), .val (.bool true), .val (.pointer (some ⟨g, 3, none⟩)), .val (.pointer (some ⟨g, 3 + 1, none⟩)), .val (.string t), .val (.pointer (some ⟨q, 1, none⟩)), .val (.string t), .val (.bool true), .val (.bool true), .val (.bool true), .val (.pointer (some ⟨g, 3, none⟩)), .val (.pointer (some ⟨g, 3 + 4, none⟩)), .val (.bool fr), .val (.pointer (some ⟨q, 4, none⟩)), .val (.bool fr), .val (.bool true), .val (.bool true), .val (.bool true), .bytes b, .val (.int .i64 (h.length : Int)), .bytes bl, .val (.string ⟨bl.toArray⟩), .val (.pointer (some ⟨q, 5, none⟩)), .bytes bl, .val (.string ⟨bl.toArray⟩), .val (.bool true), .val (.bool true), .val (.bool true), .val (.bool true), .val (.bool true), .val (.bool true)])
    (by kernel_rfl) (by kernel_rfl) (by kernel_rfl) ?_ ?_
  · refine ⟨?_, ?_, ?_, ?_, ?_, ?_, ?_, ?_, ?_, ?_, ?_, ?_, ?_, ?_, ?_, ?_, ?_, ?_, ?_, ?_, ?_, ?_, ?_, ?_, ?_, ?_, ?_, ?_, ?_, ?_, ?_, ?_, ?_, ?_, ?_, ?_, trivial⟩ <;> intro a1 w3 hb hf hd
    · exact ⟨wanted_none rfl, loc_fieldRd rfl (hf.base 5 rfl) (by decide) rfl rfl⟩
    · exact ⟨wanted_none rfl, loc_fieldRAt rfl (hd 0 rfl) (by decide) rfl⟩
    · exact ⟨wanted_none rfl, loc_cell rfl (hd 1 rfl) (by rw [(HROW.out.keep hb).cell]; exact HC3.out) (agg_string _) rfl⟩
    · exact ⟨wanted_none rfl, loc_fieldR rfl (hf.base 3 rfl) (by decide) rfl⟩
    · exact ⟨wanted_none rfl, loc_cell rfl (hd 3 rfl) (by rw [cell_of_row _ _ _ _ _ _ (ROWQ a1 w3 hb)]; rfl) (agg_string _) rfl⟩
    · exact ⟨wanted_none rfl, loc_eql_str rfl (hd 2 rfl) (hd 4 rfl) rfl⟩
    · exact ⟨wanted_none rfl, loc_move rfl (hd 5 rfl)⟩
    · exact ⟨wanted_true rfl rfl (hd 6 rfl), loc_fieldRd rfl (hf.base 5 rfl) (by decide) rfl rfl⟩
    · exact ⟨wanted_true rfl rfl (hd 6 rfl), loc_fieldRAt rfl (hd 7 rfl) (by decide) rfl⟩
    · exact ⟨wanted_true rfl rfl (hd 6 rfl), loc_cell rfl (hd 8 rfl) (by rw [(HROW.out.keep hb).cell]; exact HC4.out) (agg_string _) rfl⟩
    · exact ⟨wanted_true rfl rfl (hd 6 rfl), loc_fieldR rfl (hf.base 3 rfl) (by decide) rfl⟩
    · exact ⟨wanted_true rfl rfl (hd 6 rfl), loc_cell rfl (hd 10 rfl) (by rw [cell_of_row _ _ _ _ _ _ (ROWQ a1 w3 hb)]; rfl) (agg_string _) rfl⟩
    · exact ⟨wanted_true rfl rfl (hd 6 rfl), loc_eql_str rfl (hd 9 rfl) (hd 11 rfl) rfl⟩
    · exact ⟨wanted_none rfl, loc_pick rfl (hd 6 rfl) (hd 12 rfl)⟩
    · exact ⟨wanted_none rfl, loc_move rfl (hd 13 rfl)⟩
    · exact ⟨wanted_true rfl rfl (hd 14 rfl), loc_fieldRd rfl (hf.base 5 rfl) (by decide) rfl rfl⟩
    · exact ⟨wanted_true rfl rfl (hd 14 rfl), loc_fieldRAt rfl (hd 15 rfl) (by decide) rfl⟩
    · exact ⟨wanted_true rfl rfl (hd 14 rfl), loc_cell rfl (hd 16 rfl) (by rw [(HROW.out.keep hb).cell]; exact HC7.out) (agg_boolW _) rfl⟩
    · exact ⟨wanted_true rfl rfl (hd 14 rfl), loc_fieldR rfl (hf.base 3 rfl) (by decide) rfl⟩
    · exact ⟨wanted_true rfl rfl (hd 14 rfl), loc_cell rfl (hd 18 rfl) (by rw [cell_of_row _ _ _ _ _ _ (ROWQ a1 w3 hb)]; rfl) (agg_boolW _) rfl⟩
    · exact ⟨wanted_true rfl rfl (hd 14 rfl), loc_eql_boolW rfl (hd 17 rfl) (hd 19 rfl) rfl⟩
    · exact ⟨wanted_none rfl, loc_pick rfl (hd 14 rfl) (hd 20 rfl)⟩
    · exact ⟨wanted_none rfl, loc_move rfl (hd 21 rfl)⟩
    · exact ⟨wanted_true rfl rfl (hd 22 rfl), loc_move rfl ⟨_, _, hf.base 4 rfl, HV11.out.keep hb⟩⟩
    · exact ⟨wanted_true rfl rfl (hd 22 rfl), loc_move rfl (hf.base 7 rfl)⟩
    · exact ⟨wanted_true rfl rfl (hd 22 rfl), loc_from rfl (hd 23 rfl) (hd 24 rfl) hle fun v hv => by rw [HBL.out.2] at hv; exact hv⟩
    · exact ⟨wanted_true rfl rfl (hd 22 rfl), loc_string rfl (hd 25 rfl) rfl⟩
    · exact ⟨wanted_true rfl rfl (hd 22 rfl), loc_fieldR rfl (hf.base 3 rfl) (by decide) rfl⟩
    · exact ⟨wanted_true rfl rfl (hd 22 rfl), loc_cell rfl (hd 27 rfl) (by rw [cell_of_row _ _ _ _ _ _ (ROWQ a1 w3 hb)]; rfl) (agg_slcG _) ⟨_, _, rfl, HD11.out.keep hb⟩⟩
    · exact ⟨wanted_true rfl rfl (hd 22 rfl), loc_string rfl (hd 28 rfl) rfl⟩
    · exact ⟨wanted_true rfl rfl (hd 22 rfl), loc_eql_str rfl (hd 26 rfl) (hd 29 rfl) rfl⟩
    · exact ⟨wanted_none rfl, loc_pick rfl (hd 22 rfl) (hd 30 rfl)⟩
    · exact ⟨wanted_none rfl, loc_move rfl (hd 31 rfl)⟩
    · refine ⟨wanted_true rfl rfl (hd 32 rfl), loc_call rfl (by kernel_rfl) ?_⟩
      show Calls _ _ #[] w3 _
      refine (awakeW_any w3 (tabs_below HTB.out (below_trans HB11.out hb)) (HRE.out.keep (below_trans HB11.out hb))).mono ?_
      rintro e w' ⟨rfl, hb'⟩
      exact ⟨_, rfl, hb', rfl⟩
    · exact ⟨wanted_none rfl, loc_pick rfl (hd 32 rfl) (hd 33 rfl)⟩
    · exact ⟨wanted_none rfl, loc_assign rfl (hd 34 rfl)⟩
  · intro a1 w3 hb hf hh
    refine hK a1 w3 ?_
    go_wp2_with fail
    exact local_ret rfl hf.defers (show a1.eval (.tmp 2) = .bool true from hh 35 (by decide)) ⟨rfl, below_trans HB11.out hb⟩
end Go.Proofs.YteoadfckcilalaaGreatDoor
