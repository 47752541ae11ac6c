/- The project's reader: copyOf. The project's reader: Next. Finish, the first readers. Reading a message in pieces: heads, and all rounds. The names of fields that were read are not empty. Queues: single operations on a queue's variable; Peek and SameQueue. Queues: Take. Regions of the laws that call Next. Writing messages: Make and Text of package writer. -/
import Derived.Test.YteoadfckcilalaaGreatDoorPk1
import Derived.Test.YteoadfckcilalaaGreatDoorPk2
import Derived.Test.YteoadfckcilalaaGreatDoorPk3
import Derived.Test.YteoadfckcilalaaGreatDoorPk4
import Derived.Test.YteoadfckcilalaaGreatDoorPk5
import Derived.Test.YteoadfckcilalaaGreatDoorPk6
import Derived.Test.YteoadfckcilalaaGreatDoorPk7
import Derived.Test.YteoadfckcilalaaGreatDoorPk8
import Derived.Test.YteoadfckcilalaaGreatDoorPk9
import Derived.Test.YteoadfckcilalaaGreatDoorPk10
import Derived.Test.YteoadfckcilalaaGreatDoorPk11
import Derived.Test.YteoadfckcilalaaGreatDoorRows
import Derived.WalkKit
import Derived.WalkSpells
import Derived.WalkLawsBesides
import Derived.BigQuiet
import Derived.Deep.QuietTactic
import Derived.Lib.Bytealg
import Derived.Lib.IndexLaws
import Derived.Lib.Hide
import Derived.Laws.IdiomStrings
import Derived.Lib.SlTrimSet
import Derived.Lib.IndexBytes
import Derived.Lib.Split
import Derived.Deep.AppendLies
import Derived.Shelf.Strings.SlTrimAscii
import Derived.Shelf.Strings.SplitShaped
import Derived.Shelf.LaysM
import Derived.Shelf.Strings.BuilderK
import Derived.Shelf.Strconv.Itoa4
import Derived.Shelf.Strings.Prefix
import Derived.Shelf.Bytes.SlIndexWhole
import Derived.Test.YteoadfckcilalaaGreatDoorProg
import Derived.Lib.SplitLaws
import Derived.WalkSmall
import Derived.ProofKit
import Derived.OpenShut
import Derived.Lib.Strings
import Derived.SliceStrings
import Derived.Deep.Quiet
import Derived.Tactics
import Derived.KernelRfl
import Derived.Below
import Derived.Laws.Bits64
import Derived.Lib.SlBytesConst
import Derived.Maps.AppendAt
import Derived.Laws.AppendOwnNone
import Derived.Great.BuildSlice
import Derived.Laws.Rows
import Derived.Laws.BitsAllLaws
import Derived.Laws.Shifts
import Derived.Maps.OwnOps
import Derived.Maps.OwnSet
import Derived.Deep.SlicePairs
import Derived.Lib.AppendZerosOnto
import Derived.Lib.AppendStr
import Derived.Laws.CopyOwn
import Derived.OwnWalk
import Derived.Laws.Strings3
import Derived.Laws.Concat
import Derived.Lib.ItoaMem
import Derived.Deep.RegionHeld3
import Derived.IntWalk
import Derived.Laws.RangeAny
import Derived.LoopTactic
import Derived.Sort.Grow
import Derived.Lib.ConvBytes
import Derived.Deep.DeepCutAuto
import Derived.Deep.MidRow
import Derived.Laws.Tables
import Derived.Deep.WholeRow
import Derived.StillTailTactics
import Derived.Deep.CutBlock
import Derived.Lib.LaidTab
import Derived.LaidSub
import Derived.Laws.Bits64b
import Derived.Lib.FrozenHead2
import Derived.Deep.Matrix
import Derived.Lib.LazyBuf
import Derived.ArgAppend
import Derived.MakeChecks
namespace Go.Proofs.YteoadfckcilalaaGreatDoor
open Go.RowKit

set_option linter.unusedVariables false
set_option maxRecDepth 100000 in
set_option maxHeartbeats 4000000 in
theorem cloneY_nil (w : World) : Calls Tryz.prog 56 #[.slice none 0 0] w fun e w' => e = .returned (.slice none 0 0) ∧ w = w' := by
  have hnil : ∀ W, (binOp .eql 23 (.slice none 0 0) (.slice none 0 0)).run Tryz.prog W = .ok (.bool true) W := fun W => run_eql_slice_nil W _ _ none 0 0 Tryz.underlying23
  go_enter Tryz.func56, Tryz.ntmps56
  go_wp2_with fail
  go_ret
  exact ⟨rfl, rfl⟩
set_option maxRecDepth 100000 in
set_option maxHeartbeats 4000000 in
theorem copyOf_any (B : Nat → Prop) (s : RS) (fa ga la : Option Addr) (fc gc lc : Nat) (w : World) (hm : RMem B w s fa ga la lc) (hs : OkR s) :
    Calls Tryz.prog 36 #[.agg #[.bool s.rep, .string s.meth, .int .i64 s.ph, .string s.m, .string s.t, .int .i64 s.z, .slice fa (List.length s.xs) fc, .bool s.fr, .slice none 0 0, .int .i64 s.st, .string s.rs, .int .i64 s.z2, .slice ga (List.length s.ys) gc, .slice none 0 0, .int .i64 s.fk, .int .i64 s.fl, .int .i64 s.left, .int .i64 s.size, .int .i64 s.ck.ph, .int .i64 s.ck.left, .int .i64 s.ck.tr, .slice la (List.length s.ck.line) lc]] w fun e w' => ∃ f1 d1 f3 d3 f5 d5, e = .returned (.agg #[.bool s.rep, .string s.meth, .int .i64 s.ph, .string s.m, .string s.t, .int .i64 s.z, .slice f1 (List.length s.xs) d1, .bool s.fr, .slice none 0 0, .int .i64 s.st, .string s.rs, .int .i64 s.z2, .slice f3 (List.length s.ys) d3, .slice none 0 0, .int .i64 s.fk, .int .i64 s.fl, .int .i64 s.left, .int .i64 s.size, .int .i64 s.ck.ph, .int .i64 s.ck.left, .int .i64 s.ck.tr, .slice f5 (List.length s.ck.line) d5]) ∧ RMem (fun k => w.heap.size ≤ k) w' s f1 f3 f5 d5 ∧ (∀ y, f5 = some y → w.heap.size ≤ y.block) ∧ Below w.heap.size w w' := by
  obtain ⟨cs, hcs⟩ : ∃ cs : Array Value, cs = #[.bool s.rep, .string s.meth, .int .i64 s.ph, .string s.m, .string s.t, .int .i64 s.z, .slice fa (List.length s.xs) fc, .bool s.fr, .slice none 0 0, .int .i64 s.st, .string s.rs, .int .i64 s.z2, .slice ga (List.length s.ys) gc, .slice none 0 0, .int .i64 s.fk, .int .i64 s.fl, .int .i64 s.left, .int .i64 s.size, .int .i64 s.ck.ph, .int .i64 s.ck.left, .int .i64 s.ck.tr, .slice la (List.length s.ck.line) lc] := ⟨_, rfl⟩
  have HCS := Box.mk hcs
  have hcs1 : cs.all (·.oneCell') = true := by rw [hcs]; exact oneRd ..
  rw [← hcs]
  clear hcs
  obtain ⟨W0, hW0⟩ : ∃ W0, W0 = (w.alloc (.cells cs 37)).alloc (.cells #[.bool false, .string ⟨#[]⟩, .int .i64 0, .string ⟨#[]⟩, .string ⟨#[]⟩, .int .i64 0, .slice none 0 0, .bool false, .slice none 0 0, .int .i64 0, .string ⟨#[]⟩, .int .i64 0, .slice none 0 0, .slice none 0 0, .int .i64 0, .int .i64 0, .int .i64 0, .int .i64 0, .int .i64 0, .int .i64 0, .int .i64 0, .slice none 0 0] 37) := ⟨_, rfl⟩
  have HB0 := Box.mk (show Below w.heap.size w W0 by rw [hW0]; exact below_twoF (below_oneF _ _) _)
  have HV0 := Box.mk (show RVr W0 w.heap.size cs by rw [hW0]; exact RVr.keep (heap_alloc_new w (.cells cs 37)) (below_oneF _ _))
  have HR0 := Box.mk (show RVr W0 (w.heap.size + 1) #[.bool false, .string ⟨#[]⟩, .int .i64 0, .string ⟨#[]⟩, .string ⟨#[]⟩, .int .i64 0, .slice none 0 0, .bool false, .slice none 0 0, .int .i64 0, .string ⟨#[]⟩, .int .i64 0, .slice none 0 0, .slice none 0 0, .int .i64 0, .int .i64 0, .int .i64 0, .int .i64 0, .int .i64 0, .int .i64 0, .int .i64 0, .slice none 0 0] by
    have h := heap_alloc_new (w.alloc (.cells cs 37)) (.cells #[.bool false, .string ⟨#[]⟩, .int .i64 0, .string ⟨#[]⟩, .string ⟨#[]⟩, .int .i64 0, .slice none 0 0, .bool false, .slice none 0 0, .int .i64 0, .string ⟨#[]⟩, .int .i64 0, .slice none 0 0, .slice none 0 0, .int .i64 0, .int .i64 0, .int .i64 0, .int .i64 0, .int .i64 0, .int .i64 0, .int .i64 0, .slice none 0 0] 37)
    rw [World.size_alloc] at h
    rw [hW0]; exact h)
  have HW0 := Box.mk hW0
  have HM := Box.mk hm
  have hx64 := hs.xs.2
  have hy64 := hs.ys.2
  have hlw : w.heap.size + 1 < W0.heap.size := HR0.out.lt
  have hln : s.ck.line.length ≤ 129 := hs.ck.len
  clear hW0 hm hs
  go_enter Tryz.func36, Tryz.ntmps36
  go_upto_region 1 with fail
  rw [← HW0.out]
  clear HW0
  have hv1 : W0.cell? ⟨w.heap.size, 6, none⟩ = some (.slice fa (List.length s.xs) fc) := by rw [RVr.cell HV0.out, HCS.out]; rfl
  go_wp2_with fail
  refine (cloneF_any s.xs fa fc W0 (HM.out.f1.keep HB0.out) (by omega)).mono ?_
  rintro e w1c ⟨f1, d1, rfl, hf1, hn1, hb1⟩
  have hv1b : w1c.cell? ⟨w.heap.size, 6, none⟩ = some (.slice fa (List.length s.xs) fc) := by rw [RVr.cell (HV0.out.keep hb1), HCS.out]; rfl
  have hz1b : w1c.frozen? ⟨w.heap.size, 6, none⟩ = false := frozen_of_row w1c _ 6 _ _ (HV0.out.keep hb1)
  clear hv1
  go_upto_region 2 with (refine wpList_store_slice rfl _ _ _ rfl rfl rfl (by kernel_rfl) hv1b hz1b ?_)
  obtain ⟨c1, hc1⟩ : ∃ y0 : Array Value, y0 = #[.bool s.rep, .string s.meth, .int .i64 s.ph, .string s.m, .string s.t, .int .i64 s.z, .slice f1 (List.length s.xs) d1, .bool s.fr, .slice none 0 0, .int .i64 s.st, .string s.rs, .int .i64 s.z2, .slice ga (List.length s.ys) gc, .slice none 0 0, .int .i64 s.fk, .int .i64 s.fl, .int .i64 s.left, .int .i64 s.size, .int .i64 s.ck.ph, .int .i64 s.ck.left, .int .i64 s.ck.tr, .slice la (List.length s.ck.line) lc] := ⟨_, rfl⟩
  have Hc1 := Box.mk hc1
  clear hc1
  obtain ⟨W1, hW1⟩ : ∃ W1, W1 = w1c.setCell ⟨w.heap.size, 6, none⟩ (.slice f1 (List.length s.xs) d1) := ⟨_, rfl⟩
  have HV1 := Box.mk (show RVr W1 w.heap.size c1 by rw [hW1]; have h := RVr.put (i := 6) (v := .slice f1 (List.length s.xs) d1) (HV0.out.keep hb1); rw [show cs.setIfInBounds 6 (.slice f1 (List.length s.xs) d1) = c1 by rw [HCS.out, Hc1.out]; rfl] at h; exact h)
  have hoth1 : ∀ k, k ≠ w.heap.size → W1.heap[k]? = w1c.heap[k]? := fun k hk => by rw [hW1]; exact heap_setCell_other _ _ _ _ (by show k ≠ w.heap.size; exact hk)
  have HR1 := Box.mk (show RVr W1 (w.heap.size + 1) #[.bool false, .string ⟨#[]⟩, .int .i64 0, .string ⟨#[]⟩, .string ⟨#[]⟩, .int .i64 0, .slice none 0 0, .bool false, .slice none 0 0, .int .i64 0, .string ⟨#[]⟩, .int .i64 0, .slice none 0 0, .slice none 0 0, .int .i64 0, .int .i64 0, .int .i64 0, .int .i64 0, .int .i64 0, .int .i64 0, .int .i64 0, .slice none 0 0] from (hoth1 _ (by omega)).trans (HR0.out.keep hb1))
  have HB1 := Box.mk (show Below w.heap.size w W1 by rw [hW1]; exact (below_trans HB0.out hb1).setCell (p := ⟨w.heap.size, 6, none⟩) (Nat.le_refl _) _)
  have hlw1 : w.heap.size + 1 < W1.heap.size := HR1.out.lt
  have HF1_1 := Box.mk (show FldsIn W1 f1 s.xs ∧ ∀ y, f1 = some y → w.heap.size + 1 < y.block from ⟨hf1.same fun y e => hoth1 _ (by have := hn1 y e; omega), fun y e => by have := hn1 y e; omega⟩)
  rw [← hW1]
  clear hW1 hv1b hz1b hoth1 HV0 HR0 HB0 hb1 hf1 hn1
  have hv2 : W1.cell? ⟨w.heap.size, 8, none⟩ = some (.slice none 0 0) := by rw [RVr.cell HV1.out, Hc1.out]; rfl
  go_wp2_with fail
  refine (cloneY_nil W1).mono ?_
  rintro e w2c ⟨rfl, hww2⟩
  have hb2 : Below W1.heap.size W1 w2c := by rw [← hww2]; exact Below.refl _ _
  clear hww2
  have hv2b : w2c.cell? ⟨w.heap.size, 8, none⟩ = some (.slice none 0 0) := by rw [RVr.cell (HV1.out.keep hb2), Hc1.out]; rfl
  have hz2b : w2c.frozen? ⟨w.heap.size, 8, none⟩ = false := frozen_of_row w2c _ 8 _ _ (HV1.out.keep hb2)
  clear hv2
  go_upto_region 3 with (refine wpList_store_slice rfl _ _ _ rfl rfl rfl (by kernel_rfl) hv2b hz2b ?_)
  obtain ⟨c2, hc2⟩ : ∃ y0 : Array Value, y0 = #[.bool s.rep, .string s.meth, .int .i64 s.ph, .string s.m, .string s.t, .int .i64 s.z, .slice f1 (List.length s.xs) d1, .bool s.fr, .slice none 0 0, .int .i64 s.st, .string s.rs, .int .i64 s.z2, .slice ga (List.length s.ys) gc, .slice none 0 0, .int .i64 s.fk, .int .i64 s.fl, .int .i64 s.left, .int .i64 s.size, .int .i64 s.ck.ph, .int .i64 s.ck.left, .int .i64 s.ck.tr, .slice la (List.length s.ck.line) lc] := ⟨_, rfl⟩
  have Hc2 := Box.mk hc2
  clear hc2
  obtain ⟨W2, hW2⟩ : ∃ W2, W2 = w2c.setCell ⟨w.heap.size, 8, none⟩ (.slice none 0 0) := ⟨_, rfl⟩
  have HV2 := Box.mk (show RVr W2 w.heap.size c2 by rw [hW2]; have h := RVr.put (i := 8) (v := .slice none 0 0) (HV1.out.keep hb2); rw [show c1.setIfInBounds 8 (.slice none 0 0) = c2 by rw [Hc1.out, Hc2.out]; rfl] at h; exact h)
  have hoth2 : ∀ k, k ≠ w.heap.size → W2.heap[k]? = w2c.heap[k]? := fun k hk => by rw [hW2]; exact heap_setCell_other _ _ _ _ (by show k ≠ w.heap.size; exact hk)
  have HR2 := Box.mk (show RVr W2 (w.heap.size + 1) #[.bool false, .string ⟨#[]⟩, .int .i64 0, .string ⟨#[]⟩, .string ⟨#[]⟩, .int .i64 0, .slice none 0 0, .bool false, .slice none 0 0, .int .i64 0, .string ⟨#[]⟩, .int .i64 0, .slice none 0 0, .slice none 0 0, .int .i64 0, .int .i64 0, .int .i64 0, .int .i64 0, .int .i64 0, .int .i64 0, .int .i64 0, .slice none 0 0] from (hoth2 _ (by omega)).trans (HR1.out.keep hb2))
  have HB2 := Box.mk (show Below w.heap.size w W2 by rw [hW2]; exact (below_trans HB1.out hb2).setCell (p := ⟨w.heap.size, 8, none⟩) (Nat.le_refl _) _)
  have hlw2 : w.heap.size + 1 < W2.heap.size := HR2.out.lt
  have HF1_2 := Box.mk (show FldsIn W2 f1 s.xs ∧ ∀ y, f1 = some y → w.heap.size + 1 < y.block from ⟨(HF1_1.out.1.keep hb2).same fun y e => hoth2 _ (by have := HF1_1.out.2 y e; omega), HF1_1.out.2⟩)
  rw [← hW2]
  clear hW2 hv2b hz2b hoth2 HV1 HR1 HB1 hb2 HF1_1 Hc1
  have hv3 : W2.cell? ⟨w.heap.size, 12, none⟩ = some (.slice ga (List.length s.ys) gc) := by rw [RVr.cell HV2.out, Hc2.out]; rfl
  go_wp2_with fail
  refine (cloneF_any s.ys ga gc W2 (HM.out.f2.keep HB2.out) (by omega)).mono ?_
  rintro e w3c ⟨f3, d3, rfl, hf3, hn3, hb3⟩
  have hv3b : w3c.cell? ⟨w.heap.size, 12, none⟩ = some (.slice ga (List.length s.ys) gc) := by rw [RVr.cell (HV2.out.keep hb3), Hc2.out]; rfl
  have hz3b : w3c.frozen? ⟨w.heap.size, 12, none⟩ = false := frozen_of_row w3c _ 12 _ _ (HV2.out.keep hb3)
  clear hv3
  go_upto_region 4 with (refine wpList_store_slice rfl _ _ _ rfl rfl rfl (by kernel_rfl) hv3b hz3b ?_)
  obtain ⟨c3, hc3⟩ : ∃ y0 : Array Value, y0 = #[.bool s.rep, .string s.meth, .int .i64 s.ph, .string s.m, .string s.t, .int .i64 s.z, .slice f1 (List.length s.xs) d1, .bool s.fr, .slice none 0 0, .int .i64 s.st, .string s.rs, .int .i64 s.z2, .slice f3 (List.length s.ys) d3, .slice none 0 0, .int .i64 s.fk, .int .i64 s.fl, .int .i64 s.left, .int .i64 s.size, .int .i64 s.ck.ph, .int .i64 s.ck.left, .int .i64 s.ck.tr, .slice la (List.length s.ck.line) lc] := ⟨_, rfl⟩
  have Hc3 := Box.mk hc3
  clear hc3
  obtain ⟨W3, hW3⟩ : ∃ W3, W3 = w3c.setCell ⟨w.heap.size, 12, none⟩ (.slice f3 (List.length s.ys) d3) := ⟨_, rfl⟩
  have HV3 := Box.mk (show RVr W3 w.heap.size c3 by rw [hW3]; have h := RVr.put (i := 12) (v := .slice f3 (List.length s.ys) d3) (HV2.out.keep hb3); rw [show c2.setIfInBounds 12 (.slice f3 (List.length s.ys) d3) = c3 by rw [Hc2.out, Hc3.out]; rfl] at h; exact h)
  have hoth3 : ∀ k, k ≠ w.heap.size → W3.heap[k]? = w3c.heap[k]? := fun k hk => by rw [hW3]; exact heap_setCell_other _ _ _ _ (by show k ≠ w.heap.size; exact hk)
  have HR3 := Box.mk (show RVr W3 (w.heap.size + 1) #[.bool false, .string ⟨#[]⟩, .int .i64 0, .string ⟨#[]⟩, .string ⟨#[]⟩, .int .i64 0, .slice none 0 0, .bool false, .slice none 0 0, .int .i64 0, .string ⟨#[]⟩, .int .i64 0, .slice none 0 0, .slice none 0 0, .int .i64 0, .int .i64 0, .int .i64 0, .int .i64 0, .int .i64 0, .int .i64 0, .int .i64 0, .slice none 0 0] from (hoth3 _ (by omega)).trans (HR2.out.keep hb3))
  have HB3 := Box.mk (show Below w.heap.size w W3 by rw [hW3]; exact (below_trans HB2.out hb3).setCell (p := ⟨w.heap.size, 12, none⟩) (Nat.le_refl _) _)
  have hlw3 : w.heap.size + 1 < W3.heap.size := HR3.out.lt
  have HF1_3 := Box.mk (show FldsIn W3 f1 s.xs ∧ ∀ y, f1 = some y → w.heap.size + 1 < y.block from ⟨(HF1_2.out.1.keep hb3).same fun y e => hoth3 _ (by have := HF1_2.out.2 y e; omega), HF1_2.out.2⟩)
  have HF3_3 := Box.mk (show FldsIn W3 f3 s.ys ∧ ∀ y, f3 = some y → w.heap.size + 1 < y.block from ⟨hf3.same fun y e => hoth3 _ (by have := hn3 y e; omega), fun y e => by have := hn3 y e; omega⟩)
  rw [← hW3]
  clear hW3 hv3b hz3b hoth3 HV2 HR2 HB2 hb3 hf3 hn3 HF1_2 Hc2
  have hv4 : W3.cell? ⟨w.heap.size, 13, none⟩ = some (.slice none 0 0) := by rw [RVr.cell HV3.out, Hc3.out]; rfl
  go_wp2_with fail
  refine (cloneY_nil W3).mono ?_
  rintro e w4c ⟨rfl, hww4⟩
  have hb4 : Below W3.heap.size W3 w4c := by rw [← hww4]; exact Below.refl _ _
  clear hww4
  have hv4b : w4c.cell? ⟨w.heap.size, 13, none⟩ = some (.slice none 0 0) := by rw [RVr.cell (HV3.out.keep hb4), Hc3.out]; rfl
  have hz4b : w4c.frozen? ⟨w.heap.size, 13, none⟩ = false := frozen_of_row w4c _ 13 _ _ (HV3.out.keep hb4)
  clear hv4
  go_upto_region 5 with (refine wpList_store_slice rfl _ _ _ rfl rfl rfl (by kernel_rfl) hv4b hz4b ?_)
  obtain ⟨c4, hc4⟩ : ∃ y0 : Array Value, y0 = #[.bool s.rep, .string s.meth, .int .i64 s.ph, .string s.m, .string s.t, .int .i64 s.z, .slice f1 (List.length s.xs) d1, .bool s.fr, .slice none 0 0, .int .i64 s.st, .string s.rs, .int .i64 s.z2, .slice f3 (List.length s.ys) d3, .slice none 0 0, .int .i64 s.fk, .int .i64 s.fl, .int .i64 s.left, .int .i64 s.size, .int .i64 s.ck.ph, .int .i64 s.ck.left, .int .i64 s.ck.tr, .slice la (List.length s.ck.line) lc] := ⟨_, rfl⟩
  have Hc4 := Box.mk hc4
  clear hc4
  obtain ⟨W4, hW4⟩ : ∃ W4, W4 = w4c.setCell ⟨w.heap.size, 13, none⟩ (.slice none 0 0) := ⟨_, rfl⟩
  have HV4 := Box.mk (show RVr W4 w.heap.size c4 by rw [hW4]; have h := RVr.put (i := 13) (v := .slice none 0 0) (HV3.out.keep hb4); rw [show c3.setIfInBounds 13 (.slice none 0 0) = c4 by rw [Hc3.out, Hc4.out]; rfl] at h; exact h)
  have hoth4 : ∀ k, k ≠ w.heap.size → W4.heap[k]? = w4c.heap[k]? := fun k hk => by rw [hW4]; exact heap_setCell_other _ _ _ _ (by show k ≠ w.heap.size; exact hk)
  have HR4 := Box.mk (show RVr W4 (w.heap.size + 1) #[.bool false, .string ⟨#[]⟩, .int .i64 0, .string ⟨#[]⟩, .string ⟨#[]⟩, .int .i64 0, .slice none 0 0, .bool false, .slice none 0 0, .int .i64 0, .string ⟨#[]⟩, .int .i64 0, .slice none 0 0, .slice none 0 0, .int .i64 0, .int .i64 0, .int .i64 0, .int .i64 0, .int .i64 0, .int .i64 0, .int .i64 0, .slice none 0 0] from (hoth4 _ (by omega)).trans (HR3.out.keep hb4))
  have HB4 := Box.mk (show Below w.heap.size w W4 by rw [hW4]; exact (below_trans HB3.out hb4).setCell (p := ⟨w.heap.size, 13, none⟩) (Nat.le_refl _) _)
  have hlw4 : w.heap.size + 1 < W4.heap.size := HR4.out.lt
  have HF1_4 := Box.mk (show FldsIn W4 f1 s.xs ∧ ∀ y, f1 = some y → w.heap.size + 1 < y.block from ⟨(HF1_3.out.1.keep hb4).same fun y e => hoth4 _ (by have := HF1_3.out.2 y e; omega), HF1_3.out.2⟩)
  have HF3_4 := Box.mk (show FldsIn W4 f3 s.ys ∧ ∀ y, f3 = some y → w.heap.size + 1 < y.block from ⟨(HF3_3.out.1.keep hb4).same fun y e => hoth4 _ (by have := HF3_3.out.2 y e; omega), HF3_3.out.2⟩)
  rw [← hW4]
  clear hW4 hv4b hz4b hoth4 HV3 HR3 HB3 hb4 HF1_3 HF3_3 Hc3
  have hv5 : W4.cell? ⟨w.heap.size, 21, none⟩ = some (.slice la (List.length s.ck.line) lc) := by rw [RVr.cell HV4.out, Hc4.out]; rfl
  go_wp2_with fail
  refine (cloneY_any s.ck.line la lc W4 (HM.out.ln.keep HB4.out) (by omega)).mono ?_
  rintro e w5c ⟨f5, d5, rfl, hf5, hn5, hb5⟩
  have HNL := Box.mk (show ∀ y, f5 = some y → w.heap.size ≤ y.block from fun y e => by have := hn5 y e; omega)
  clear hn5
  have hv5b : w5c.cell? ⟨w.heap.size, 21, none⟩ = some (.slice la (List.length s.ck.line) lc) := by rw [RVr.cell (HV4.out.keep hb5), Hc4.out]; rfl
  have hz5b : w5c.frozen? ⟨w.heap.size, 21, none⟩ = false := frozen_of_row w5c _ 21 _ _ (HV4.out.keep hb5)
  clear hv5
  go_upto_region 6 with (refine wpList_store_slice rfl _ _ _ rfl rfl rfl (by kernel_rfl) hv5b hz5b ?_)
  obtain ⟨c5, hc5⟩ : ∃ y0 : Array Value, y0 = #[.bool s.rep, .string s.meth, .int .i64 s.ph, .string s.m, .string s.t, .int .i64 s.z, .slice f1 (List.length s.xs) d1, .bool s.fr, .slice none 0 0, .int .i64 s.st, .string s.rs, .int .i64 s.z2, .slice f3 (List.length s.ys) d3, .slice none 0 0, .int .i64 s.fk, .int .i64 s.fl, .int .i64 s.left, .int .i64 s.size, .int .i64 s.ck.ph, .int .i64 s.ck.left, .int .i64 s.ck.tr, .slice f5 (List.length s.ck.line) d5] := ⟨_, rfl⟩
  have Hc5 := Box.mk hc5
  clear hc5
  obtain ⟨W5, hW5⟩ : ∃ W5, W5 = w5c.setCell ⟨w.heap.size, 21, none⟩ (.slice f5 (List.length s.ck.line) d5) := ⟨_, rfl⟩
  have HV5 := Box.mk (show RVr W5 w.heap.size c5 by rw [hW5]; have h := RVr.put (i := 21) (v := .slice f5 (List.length s.ck.line) d5) (HV4.out.keep hb5); rw [show c4.setIfInBounds 21 (.slice f5 (List.length s.ck.line) d5) = c5 by rw [Hc4.out, Hc5.out]; rfl] at h; exact h)
  have hoth5 : ∀ k, k ≠ w.heap.size → W5.heap[k]? = w5c.heap[k]? := fun k hk => by rw [hW5]; exact heap_setCell_other _ _ _ _ (by show k ≠ w.heap.size; exact hk)
  have HR5 := Box.mk (show RVr W5 (w.heap.size + 1) #[.bool false, .string ⟨#[]⟩, .int .i64 0, .string ⟨#[]⟩, .string ⟨#[]⟩, .int .i64 0, .slice none 0 0, .bool false, .slice none 0 0, .int .i64 0, .string ⟨#[]⟩, .int .i64 0, .slice none 0 0, .slice none 0 0, .int .i64 0, .int .i64 0, .int .i64 0, .int .i64 0, .int .i64 0, .int .i64 0, .int .i64 0, .slice none 0 0] from (hoth5 _ (by omega)).trans (HR4.out.keep hb5))
  have HB5 := Box.mk (show Below w.heap.size w W5 by rw [hW5]; exact (below_trans HB4.out hb5).setCell (p := ⟨w.heap.size, 21, none⟩) (Nat.le_refl _) _)
  have hlw5 : w.heap.size + 1 < W5.heap.size := HR5.out.lt
  have HF1_5 := Box.mk (show FldsIn W5 f1 s.xs ∧ ∀ y, f1 = some y → w.heap.size + 1 < y.block from ⟨(HF1_4.out.1.keep hb5).same fun y e => hoth5 _ (by have := HF1_4.out.2 y e; omega), HF1_4.out.2⟩)
  have HF3_5 := Box.mk (show FldsIn W5 f3 s.ys ∧ ∀ y, f3 = some y → w.heap.size + 1 < y.block from ⟨(HF3_4.out.1.keep hb5).same fun y e => hoth5 _ (by have := HF3_4.out.2 y e; omega), HF3_4.out.2⟩)
  have HF5_5 := Box.mk (show IsBytes W5 f5 s.ck.line d5 from hf5.same fun y e hl => hoth5 _ (row_awayR (HV4.out.keep hb5) (by rw [Hc4.out]; exact noU8_22 rfl) hf5 y e hl))
  rw [← hW5]
  clear hW5 hv5b hz5b hoth5 HV4 HR4 HB4 hb5 hf5 HF1_4 HF3_4 Hc4
  have hcs22 : c5.size = 22 := by rw [Hc5.out]; rfl
  have hc51 : c5.all (·.oneCell') = true := by rw [Hc5.out]; exact oneRd ..
  have HSZ := Box.mk (show (Tryz.prog.info? 37).map (·.size) = some c5.size by rw [hcs22]; exact sizeRd)
  go_wp2_with (first | refine wpList_load_row rfl 37 _ rfl w.heap.size rfl 37 c5 (0, 0) _ HV5.out Tryz.underlying37 rfl HSZ.out ?_ | refine wpList_store_row rfl 37 _ _ rfl (w.heap.size + 1) c5 rfl rfl 37 _ HR5.out HSZ.out (by rw [hcs22]; rfl) hc51 ?_)
  (try simp only [Exit.inBlock, Exit.then])
  refine bodyPost_ret (results_r rfl _ _ (w.heap.size + 1) 37 c5 (0, 0) _ rfl (setRow_heap _ _ _ _ _ _ HR5.out) Tryz.underlying37 rfl HSZ.out) rfl ?_
  have hsame : ∀ k, k ≠ w.heap.size + 1 → (W5.setRow (w.heap.size + 1) c5).heap[k]? = W5.heap[k]? := fun k hk => setRow_other _ _ _ _ hk
  exact ⟨f1, d1, f3, d3, f5, d5, by rw [Hc5.out], ⟨HF1_5.out.1.same fun y e => hsame _ (by have := HF1_5.out.2 y e; omega), HF3_5.out.1.same fun y e => hsame _ (by have := HF3_5.out.2 y e; omega), HF5_5.out.same fun y e hl => hsame _ (row_awayR HR5.out (noU8_22 rfl) HF5_5.out y e hl), fun y e _ => by have := HF1_5.out.2 y e; omega, fun y e _ => by have := HF3_5.out.2 y e; omega⟩, HNL.out, below_setRow HB5.out (by omega) _⟩
end Go.Proofs.YteoadfckcilalaaGreatDoor
namespace Go.Proofs.YteoadfckcilalaaGreatDoor
open Go.RowKit

set_option linter.unusedVariables false
/-- What the project's Next returns, in memory: the line is its own. -/
def RetXF (B : Nat → Prop) (w : World) (x : NX) (e : Ending) (w' : World) : Prop :=
  ∃ fa fc ga gc la lc pa pc, e = .returned (.tuple #[.agg #[.bool x.r.rep, .string x.r.meth, .int .i64 x.r.ph, .string x.r.m, .string x.r.t, .int .i64 x.r.z, .slice fa (List.length x.r.xs) fc, .bool x.r.fr, .slice none 0 0, .int .i64 x.r.st, .string x.r.rs, .int .i64 x.r.z2, .slice ga (List.length x.r.ys) gc, .slice none 0 0, .int .i64 x.r.fk, .int .i64 x.r.fl, .int .i64 x.r.left, .int .i64 x.r.size, .int .i64 x.r.ck.ph, .int .i64 x.r.ck.left, .int .i64 x.r.ck.tr, .slice la (List.length x.r.ck.line) lc], .agg #[.int .i64 x.kind, .slice pa (List.length x.data) pc], .int .i64 x.n, .int .i64 x.er]) ∧ RMem B w' x.r fa ga la lc ∧ (∀ y, la = some y → x.r.ck.line ≠ [] → w.heap.size ≤ y.block) ∧ IsBytes w' pa x.data pc ∧ Below w.heap.size w w'
section
variable {ops : Array Oper} {rest : List Oper} {o : Oper} {act : Act} {Q : Exit → Act → World → Prop}
theorem wpList_callV {P : Program} {w : World} (hgd : o.guard = none) {y : Operand} {f : FuncId} {args : List Operand} {ts : Array TypeId} (ho : o.op = .call { callee := .value y, args := args.toArray, argTypes := ts }) (hy : act.eval y = .func (.func f) #[] #[])
    (hf : (P.funcs[f]?).map (fun fn => fn.name != "runtime.NumGoroutine" && fn.body.isSome) = some true) {R : Ending → World → Prop} (h : Calls P f (args.map act.eval).toArray w R) (hK : ∀ e w', R e w' → ∃ v, e = .returned v ∧ wpList P ops Q rest (act.put o.dst v) w') : wpList P ops Q (o :: rest) act w :=
  wpList_plain hgd fun K2 hK2 => wp_callV ho hy hf h fun e w' hr => by
    obtain ⟨v, he, hk⟩ := hK e w' hr
    exact ⟨v, he, hK2 _ _ hk⟩
end
theorem run_loadMs (w : World) (g : Nat) (cs : Array Value) (h : MVr w g cs) (hs : cs.size = 22) : (Instr.loadAt 73 (.pointer (some ⟨g, 0, none⟩))).run Tryz.prog w = .ok (.agg cs) w := by
  unfold MVr at h
  simp [Instr.loadAt, Instr.sureAddr, run_loadVar_row w g _ 73 _ _ _ h Tryz.underlying73 rfl (by rw [hs]; exact sizeMs)]
theorem run_loadPt (w : World) (g : Nat) (cs : Array Value) (h : PVr w g cs) (hs : cs.size = 2) : (Instr.loadAt 41 (.pointer (some ⟨g, 0, none⟩))).run Tryz.prog w = .ok (.agg cs) w := by
  unfold PVr at h
  simp [Instr.loadAt, Instr.sureAddr, run_loadVar_row w g _ 41 _ _ _ h Tryz.underlying41 rfl (by rw [hs]; exact sizePt)]
/-- Ahead of the return: the message, the part, the results, what they hold. -/
structure NxJ (w : World) (g gp lim : Nat) (x : NX) (f4 g4 l4 : Option Addr) (e4 : Nat) (pa : Option Addr) (pc : Nat) (cr pr r2 r3 : Array Value) (W : World) : Prop where
  m : MVr W g cr
  p : PVr W gp pr
  r2 : RVr W (w.heap.size + 1) r2
  r3 : PVr W (w.heap.size + 2) r3
  bl : Below w.heap.size w W
  rm : RMem (fun k => lim ≤ k ∧ k ≠ g) W x.r f4 g4 l4 e4
  dt : IsBytes W pa x.data pc
theorem NxJ.keep {w : World} {g gp lim : Nat} {x : NX} {f4 g4 l4 : Option Addr} {e4 : Nat} {pa : Option Addr} {pc : Nat} {cr pr r2 r3 : Array Value} {W W' : World} (h : NxJ w g gp lim x f4 g4 l4 e4 pa pc cr pr r2 r3 W) (hb : Below W.heap.size W W') : NxJ w g gp lim x f4 g4 l4 e4 pa pc cr pr r2 r3 W' := ⟨h.m.keep hb, h.p.keep hb, h.r2.keep hb, h.r3.keep hb, below_trans h.bl hb, h.rm.keep hb, h.dt.keep hb⟩
theorem rmem_row {W : World} {lim g q : Nat} {s : RS} {f4 g4 l4 : Option Addr} {e4 : Nat} {cs ds : Array Value} {T : TypeId} {fz : Nat × Nat} (h : RMem (fun k => lim ≤ k ∧ k ≠ g) W s f4 g4 l4 e4) (hq : q < lim) (hr : W.heap[q]? = some (.cells cs T fz)) (hn : NoU8 cs) : RMem (fun k => lim ≤ k ∧ k ≠ g) (W.setRow q ds) s f4 g4 l4 e4 :=
  ⟨sameNe h.f1 fun y e hx => setRow_other _ _ _ _ (by have := (h.n1 y e hx).1; omega), sameNe h.f2 fun y e hx => setRow_other _ _ _ _ (by have := (h.n2 y e hx).1; omega), isBytes_rowR hr hn h.ln, h.n1, h.n2⟩
theorem nextX_err {s : RS} {b : List UInt8} {most body room : Int} (h : ¬ (nextX s b most body room).er = 0) : ∃ er, nextX s b most body room = errX er ∧ ¬ er = 0 := by
  have hf : ∀ (x : RS) (f : Int × Int × Int) (n : Nat), ¬ (finX x f n body).er = 0 → ∃ er, finX x f n body = errX er ∧ ¬ er = 0 := fun x f n h => by
    unfold finX at h ⊢
    split at h
    · rename_i h1; rw [if_pos h1]; exact ⟨_, rfl, h⟩
    · rename_i h1; rw [if_neg h1]
      split at h
      · rename_i h2; rw [if_pos h2]; exact ⟨_, rfl, h⟩
      · exact absurd rfl h
  unfold nextX at h ⊢
  split at h
  · rename_i hp
    rw [if_pos hp]
    unfold firstX at h ⊢
    split at h
    · exact absurd rfl h
    · rename_i h1
      rw [if_neg h1]
      split at h
      · rename_i h2; rw [if_pos h2]; exact ⟨_, rfl, h⟩
      · rename_i h2
        rw [if_neg h2]
        unfold headX at h ⊢
        split at h
        · rename_i h3
          rw [if_pos h3]
          split at h
          · rename_i h4; rw [if_pos h4]; exact ⟨_, rfl, h⟩
          · rename_i h4
            rw [if_neg h4]
            split at h
            · rename_i h5; rw [if_pos h5]; exact ⟨_, rfl, h⟩
            · rename_i h5
              rw [if_neg h5]
              split at h
              · exact absurd rfl h
              · rename_i h6; rw [if_neg h6]; exact hf _ _ _ h
        · rename_i h3
          rw [if_neg h3]
          split at h
          · rename_i h4; rw [if_pos h4]; exact ⟨_, rfl, h⟩
          · rename_i h4; rw [if_neg h4]; exact hf _ _ _ h
  · rename_i hp
    rw [if_neg hp]
    split at h
    · rename_i hp1
      rw [if_pos hp1]
      generalize (if room ≤ 0 then (0 : Int) else room) = r0 at *
      unfold moreX at h ⊢
      split at h
      · exfalso
        split at h
        · exact h rfl
        · split at h <;> exact h rfl
      · rename_i h1
        rw [if_neg h1]
        split at h
        · rename_i h2
          rw [if_pos h2]
          split at h
          · rename_i h3; rw [if_pos h3]; exact ⟨_, rfl, h⟩
          · rename_i h3
            rw [if_neg h3]
            split at h
            · rename_i h4; rw [if_pos h4]; exact ⟨_, rfl, h⟩
            · exfalso
              split at h
              · exact h rfl
              · split at h <;> exact h rfl
        · rename_i h2
          rw [if_neg h2]
          split at h
          · exact absurd rfl h
          · rename_i h3
            rw [if_neg h3]
            split at h
            · rename_i h4; rw [if_pos h4]; exact ⟨_, rfl, h⟩
            · exact absurd rfl h
    · exact absurd rfl h
set_option maxRecDepth 100000 in
set_option maxHeartbeats 1000000 in
theorem projNextF_any (B : Nat → Prop) (s : RS) (b : List UInt8) (most body room : Int) (ba : Option Addr) (bc : Nat) (fa ga la : Option Addr) (fc gc lc : Nat) (w : World) (mm : Int) (hb : IsBytes w ba b bc) (hl : b.length ≤ 1000000) (hm : RMem B w s fa ga la lc) (hok : HdOk w mm) (hs : OkN body s) (hb0 : 0 ≤ body ∧ body ≤ 1000000000) (hr0 : -1000000000 ≤ room ∧ room ≤ 1000000000) (hB : ∀ g, w.heap.size ≤ g → B g) :
    Calls Tryz.prog 12 #[.agg #[.bool s.rep, .string s.meth, .int .i64 s.ph, .string s.m, .string s.t, .int .i64 s.z, .slice fa (List.length s.xs) fc, .bool s.fr, .slice none 0 0, .int .i64 s.st, .string s.rs, .int .i64 s.z2, .slice ga (List.length s.ys) gc, .slice none 0 0, .int .i64 s.fk, .int .i64 s.fl, .int .i64 s.left, .int .i64 s.size, .int .i64 s.ck.ph, .int .i64 s.ck.left, .int .i64 s.ck.tr, .slice la (List.length s.ck.line) lc], .slice ba b.length bc, .int .i64 most, .int .i64 body, .int .i64 room] w (RetXF B w (nextX s b most body room)) := by
  obtain ⟨cs, hcs⟩ : ∃ cs : Array Value, cs = #[.bool s.rep, .string s.meth, .int .i64 s.ph, .string s.m, .string s.t, .int .i64 s.z, .slice fa (List.length s.xs) fc, .bool s.fr, .slice none 0 0, .int .i64 s.st, .string s.rs, .int .i64 s.z2, .slice ga (List.length s.ys) gc, .slice none 0 0, .int .i64 s.fk, .int .i64 s.fl, .int .i64 s.left, .int .i64 s.size, .int .i64 s.ck.ph, .int .i64 s.ck.left, .int .i64 s.ck.tr, .slice la (List.length s.ck.line) lc] := ⟨_, rfl⟩
  have HCS := Box.mk hcs
  have hcs22 : cs.size = 22 := by rw [hcs]; rfl
  have HSZ := Box.mk (show (Tryz.prog.info? 37).map (·.size) = some cs.size by rw [hcs22]; exact sizeRd)
  have hcs1 : cs.all (·.oneCell') = true := by rw [hcs]; exact oneRd ..
  rw [← hcs]
  clear hcs
  obtain ⟨W3, hW3⟩ : ∃ W3, W3 = ((w.alloc (.cells cs 37)).alloc (.cells #[.bool false, .string ⟨#[]⟩, .int .i64 0, .string ⟨#[]⟩, .string ⟨#[]⟩, .int .i64 0, .slice none 0 0, .bool false, .slice none 0 0, .int .i64 0, .string ⟨#[]⟩, .int .i64 0, .slice none 0 0, .slice none 0 0, .int .i64 0, .int .i64 0, .int .i64 0, .int .i64 0, .int .i64 0, .int .i64 0, .int .i64 0, .slice none 0 0] 37)).alloc (.cells #[.int .i64 0, .slice none 0 0] 41) := ⟨_, rfl⟩
  have hb1 := below_oneF w (.cells cs 37)
  have hb2 := below_twoF hb1 (.cells #[.bool false, .string ⟨#[]⟩, .int .i64 0, .string ⟨#[]⟩, .string ⟨#[]⟩, .int .i64 0, .slice none 0 0, .bool false, .slice none 0 0, .int .i64 0, .string ⟨#[]⟩, .int .i64 0, .slice none 0 0, .slice none 0 0, .int .i64 0, .int .i64 0, .int .i64 0, .int .i64 0, .int .i64 0, .int .i64 0, .int .i64 0, .slice none 0 0] 37)
  have hb3 := below_trans hb2 (below_oneF _ (.cells #[.int .i64 0, .slice none 0 0] 41))
  have HBW := Box.mk (show Below w.heap.size w W3 by rw [hW3]; exact hb3)
  have HV1 := Box.mk (show RVr W3 w.heap.size cs by rw [hW3]; exact RVr.keep (RVr.keep (heap_alloc_new w (.cells cs 37)) (below_oneF _ _)) (below_oneF _ _))
  have HV2 := Box.mk (show RVr W3 (w.heap.size + 1) #[.bool false, .string ⟨#[]⟩, .int .i64 0, .string ⟨#[]⟩, .string ⟨#[]⟩, .int .i64 0, .slice none 0 0, .bool false, .slice none 0 0, .int .i64 0, .string ⟨#[]⟩, .int .i64 0, .slice none 0 0, .slice none 0 0, .int .i64 0, .int .i64 0, .int .i64 0, .int .i64 0, .int .i64 0, .int .i64 0, .int .i64 0, .slice none 0 0] by
    have h := heap_alloc_new (w.alloc (.cells cs 37)) (.cells #[.bool false, .string ⟨#[]⟩, .int .i64 0, .string ⟨#[]⟩, .string ⟨#[]⟩, .int .i64 0, .slice none 0 0, .bool false, .slice none 0 0, .int .i64 0, .string ⟨#[]⟩, .int .i64 0, .slice none 0 0, .slice none 0 0, .int .i64 0, .int .i64 0, .int .i64 0, .int .i64 0, .int .i64 0, .int .i64 0, .int .i64 0, .slice none 0 0] 37)
    rw [World.size_alloc] at h
    rw [hW3]; exact RVr.keep h (below_oneF _ _))
  have HV3 := Box.mk (show PVr W3 (w.heap.size + 2) #[.int .i64 0, .slice none 0 0] by
    have h := heap_alloc_new ((w.alloc (.cells cs 37)).alloc (.cells #[.bool false, .string ⟨#[]⟩, .int .i64 0, .string ⟨#[]⟩, .string ⟨#[]⟩, .int .i64 0, .slice none 0 0, .bool false, .slice none 0 0, .int .i64 0, .string ⟨#[]⟩, .int .i64 0, .slice none 0 0, .slice none 0 0, .int .i64 0, .int .i64 0, .int .i64 0, .int .i64 0, .int .i64 0, .int .i64 0, .int .i64 0, .slice none 0 0] 37)) (.cells #[.int .i64 0, .slice none 0 0] 41)
    rw [World.size_alloc, World.size_alloc] at h
    rw [hW3]; exact h)
  have HW3 := Box.mk hW3
  have HM := Box.mk hm
  have HRC := Box.mk (copyOf_any B s fa ga la fc gc lc W3 (hm.keep HBW.out) hs.ok)
  rw [← HCS.out] at HRC
  have HBB := Box.mk (hb.keep HBW.out)
  have hl3 : w.heap.size + 2 < W3.heap.size := (Array.getElem?_eq_some_iff.1 HV3.out).1
  clear hb hm hb1 hb2 hb3 hW3
  have HOK := Box.mk (hok.keep HBW.out)
  have HS := Box.mk hs
  have Hb0 := Box.mk hb0
  obtain ⟨r0, hrm⟩ : ∃ r0 : Int, (if room ≤ 0 then 0 else room) = r0 := ⟨_, rfl⟩
  have hr2 : 0 ≤ r0 ∧ r0 ≤ 1000000000 := by rw [← hrm]; split <;> omega
  have HRM := Box.mk hrm
  have HLM := Box.mk (fun W => limitsOf_any most body room W hb0)
  rw [hrm] at HLM
  clear hs hb0 hrm hok
  obtain ⟨x, hx⟩ : ∃ x, nextX s b most body room = x := ⟨_, rfl⟩
  have HX := Box.mk hx
  have HERR := Box.mk (show ¬ x.er = 0 → ∃ er, x = errX er ∧ ¬ er = 0 by rw [← hx]; exact nextX_err)
  rw [hx]
  clear hx
  go_enter Tryz.func12, Tryz.ntmps12
  go_upto_region 1 with fail
  rw [← HW3.out]
  clear HW3
  go_wp2_with (refine wpList_load_row rfl 37 _ rfl w.heap.size rfl 37 cs (0, 0) _ HV1.out Tryz.underlying37 rfl HSZ.out ?_)
  refine HRC.out.mono ?_
  rintro e w4 ⟨f1, d1, f3, d3, f5, d5, he, hm4, hlf4, hb4⟩
  obtain ⟨cp, hcp⟩ : ∃ cp : Array Value, cp = #[.bool s.rep, .string s.meth, .int .i64 s.ph, .string s.m, .string s.t, .int .i64 s.z, .slice f1 (List.length s.xs) d1, .bool s.fr, .slice none 0 0, .int .i64 s.st, .string s.rs, .int .i64 s.z2, .slice f3 (List.length s.ys) d3, .slice none 0 0, .int .i64 s.fk, .int .i64 s.fl, .int .i64 s.left, .int .i64 s.size, .int .i64 s.ck.ph, .int .i64 s.ck.left, .int .i64 s.ck.tr, .slice f5 (List.length s.ck.line) d5] := ⟨_, rfl⟩
  rw [← hcp] at he
  subst he
  have HCP := Box.mk hcp
  have hcp22 : cp.size = 22 := by rw [hcp]; rfl
  have hcp1 : cp.all (·.oneCell') = true := by rw [hcp]; exact oneRd ..
  have HSM := Box.mk (show (Tryz.prog.info? 73).map (·.size) = some cp.size by rw [hcp22]; exact sizeMs)
  have HNM := Box.mk (show MVr (w4.alloc (.cells #[.bool false, .string ⟨#[]⟩, .int .i64 0, .string ⟨#[]⟩, .string ⟨#[]⟩, .int .i64 0, .slice none 0 0, .bool false, .slice none 0 0, .int .i64 0, .string ⟨#[]⟩, .int .i64 0, .slice none 0 0, .slice none 0 0, .int .i64 0, .int .i64 0, .int .i64 0, .int .i64 0, .int .i64 0, .int .i64 0, .int .i64 0, .slice none 0 0] 73)) w4.heap.size #[.bool false, .string ⟨#[]⟩, .int .i64 0, .string ⟨#[]⟩, .string ⟨#[]⟩, .int .i64 0, .slice none 0 0, .bool false, .slice none 0 0, .int .i64 0, .string ⟨#[]⟩, .int .i64 0, .slice none 0 0, .slice none 0 0, .int .i64 0, .int .i64 0, .int .i64 0, .int .i64 0, .int .i64 0, .int .i64 0, .int .i64 0, .slice none 0 0] from heap_alloc_new w4 (.cells #[.bool false, .string ⟨#[]⟩, .int .i64 0, .string ⟨#[]⟩, .string ⟨#[]⟩, .int .i64 0, .slice none 0 0, .bool false, .slice none 0 0, .int .i64 0, .string ⟨#[]⟩, .int .i64 0, .slice none 0 0, .slice none 0 0, .int .i64 0, .int .i64 0, .int .i64 0, .int .i64 0, .int .i64 0, .int .i64 0, .int .i64 0, .slice none 0 0] 73))
  have hw4 := hb4.size
  have HM4 := Box.mk hm4
  have HB4 := Box.mk hb4
  clear hcp hm4 hb4 HRC HSZ hcs22 hcs1 HCS HV1 HM
  go_upto_region 2 with (refine wpList_store_row rfl 73 _ _ rfl w4.heap.size cp rfl rfl 73 _ HNM.out HSM.out (by rw [hcp22]; rfl) hcp1 ?_)
  obtain ⟨W5, hW5⟩ : ∃ W5, W5 = (w4.alloc (.cells #[.bool false, .string ⟨#[]⟩, .int .i64 0, .string ⟨#[]⟩, .string ⟨#[]⟩, .int .i64 0, .slice none 0 0, .bool false, .slice none 0 0, .int .i64 0, .string ⟨#[]⟩, .int .i64 0, .slice none 0 0, .slice none 0 0, .int .i64 0, .int .i64 0, .int .i64 0, .int .i64 0, .int .i64 0, .int .i64 0, .int .i64 0, .slice none 0 0] 73)).setRow w4.heap.size cp := ⟨_, rfl⟩
  have HM5 := Box.mk (show MVr W5 w4.heap.size #[.bool s.rep, .string s.meth, .int .i64 s.ph, .string s.m, .string s.t, .int .i64 s.z, .slice f1 (List.length s.xs) d1, .bool s.fr, .slice none 0 0, .int .i64 s.st, .string s.rs, .int .i64 s.z2, .slice f3 (List.length s.ys) d3, .slice none 0 0, .int .i64 s.fk, .int .i64 s.fl, .int .i64 s.left, .int .i64 s.size, .int .i64 s.ck.ph, .int .i64 s.ck.left, .int .i64 s.ck.tr, .slice f5 (List.length s.ck.line) d5] by rw [hW5, ← HCP.out]; exact setRow_heap _ _ _ _ _ _ HNM.out)
  have hb45 : Below w4.heap.size w4 W5 := by rw [hW5]; exact below_setRow (below_oneF _ _) (Nat.le_refl _) _
  have hb35 := below_trans HB4.out hb45
  have HR5 := Box.mk (show RMem (fun k => W3.heap.size ≤ k ∧ k ≠ w4.heap.size) W5 s f1 f3 f5 d5 from ⟨HM4.out.f1.keep hb45, HM4.out.f2.keep hb45, HM4.out.ln.keep hb45, fun y e hx => ⟨HM4.out.n1 y e hx, by have := HM4.out.f1.old e hx; omega⟩, fun y e hx => ⟨HM4.out.n2 y e hx, by have := HM4.out.f2.old e hx; omega⟩⟩)
  have HLF5 := Box.mk (show ∀ y, f5 = some y → s.ck.line ≠ [] → W3.heap.size ≤ y.block ∧ y.block ≠ w4.heap.size from fun y e hx => ⟨hlf4 y e, by have := HM4.out.ln.old e hx; omega⟩)
  have HBB5 := Box.mk (HBB.out.keep hb35)
  have HOK5 := Box.mk (HOK.out.keep hb35)
  have HV25 := Box.mk (HV2.out.keep hb35)
  have HV35 := Box.mk (HV3.out.keep hb35)
  have HBW5 := Box.mk (below_trans HBW.out hb35)
  have hw5 : w4.heap.size < W5.heap.size := HM5.out.lt
  rw [← hW5]
  clear hW5 hb45 hb35 HM4 HB4 HNM HSM hcp1 hcp22 HCP HBB HOK HV2 HV3 HBW hlf4
  obtain ⟨f, hst, hfb, hcall⟩ := mStep_any (fun k => W3.heap.size ≤ k ∧ k ≠ w4.heap.size) s b most body room ba bc f1 f3 f5 d1 d3 d5 w4.heap.size mm W5 HBB5.out hl HM5.out HR5.out HLF5.out HOK5.out (fun k hk => ⟨by omega, by omega⟩) (fun k hk => hk.2) HS.out Hb0.out r0 hr2 HRM.out
  rw [HX.out] at hcall
  have HST := Box.mk hst
  have HFB := Box.mk hfb
  have HCL := Box.mk hcall
  clear hst hfb hcall
  go_wp2_with fail
  refine HST.out.mono ?_
  rintro e w6 ⟨rfl, rfl⟩
  clear HST HRM HS Hb0 HX HOK5 HBB5 HM5 HR5
  go_wp2_with fail
  refine (HLM.out W5).mono ?_
  rintro e w7 ⟨rfl, hb7⟩
  have HCL7 := Box.mk (HCL.out w7 hb7)
  have HV27 := Box.mk (HV25.out.keep hb7)
  have HV37 := Box.mk (HV35.out.keep hb7)
  have HBW7 := Box.mk (below_trans HBW5.out hb7)
  have hw7 := hb7.size
  clear HCL hb7 HLM HV25 HV35 HBW5
  rename_i KK hKK
  refine hKK _ _ ?_
  clear hKK
  refine wpList_callV rfl rfl rfl HFB.out HCL7.out ?_
  intro e w8 hret
  rcases hret with ⟨h0, f4, c4, g4, d4, l4, e4, pa, pc, he, hm8, hr8, hl8, hd8, hg8⟩ | ⟨h0, k8, n8, he, hg8⟩
  · obtain ⟨pr, hpr⟩ : ∃ pr : Array Value, pr = #[.int .i64 x.kind, .slice pa (List.length x.data) pc] := ⟨_, rfl⟩
    rw [← hpr] at he
    refine ⟨_, he, ?_⟩
    have HPR := Box.mk hpr
    have hpr2 : pr.size = 2 := by rw [hpr]; rfl
    have hpr1 : pr.all (·.oneCell') = true := by rw [hpr]; exact onePt ..
    have HSP := Box.mk (show (Tryz.prog.info? 41).map (·.size) = some pr.size by rw [hpr2]; exact sizePt)
    obtain ⟨cr, hcr⟩ : ∃ cr : Array Value, cr = #[.bool x.r.rep, .string x.r.meth, .int .i64 x.r.ph, .string x.r.m, .string x.r.t, .int .i64 x.r.z, .slice f4 (List.length x.r.xs) c4, .bool x.r.fr, .slice none 0 0, .int .i64 x.r.st, .string x.r.rs, .int .i64 x.r.z2, .slice g4 (List.length x.r.ys) d4, .slice none 0 0, .int .i64 x.r.fk, .int .i64 x.r.fl, .int .i64 x.r.left, .int .i64 x.r.size, .int .i64 x.r.ck.ph, .int .i64 x.r.ck.left, .int .i64 x.r.ck.tr, .slice l4 (List.length x.r.ck.line) e4] := ⟨_, rfl⟩
    have HCR := Box.mk hcr
    have hcr22 : cr.size = 22 := by rw [hcr]; rfl
    have hcr1 : cr.all (·.oneCell') = true := by rw [hcr]; exact oneRd ..
    rw [← hcr] at hm8
    have HNP := Box.mk (show PVr (w8.alloc (.cells #[.int .i64 0, .slice none 0 0] 41)) w8.heap.size #[.int .i64 0, .slice none 0 0] from heap_alloc_new w8 (.cells #[.int .i64 0, .slice none 0 0] 41))
    have hsz8 := hg8.size
    have HM8 := Box.mk hm8
    have HR8 := Box.mk hr8
    have HLF8 := Box.mk (show ∀ y, l4 = some y → x.r.ck.line ≠ [] → w.heap.size ≤ y.block from fun y e hx => by have := (hl8 y e hx).1; omega)
    clear hl8
    have HD8 := Box.mk hd8
    have HV28 := Box.mk (show RVr w8 (w.heap.size + 1) #[.bool false, .string ⟨#[]⟩, .int .i64 0, .string ⟨#[]⟩, .string ⟨#[]⟩, .int .i64 0, .slice none 0 0, .bool false, .slice none 0 0, .int .i64 0, .string ⟨#[]⟩, .int .i64 0, .slice none 0 0, .slice none 0 0, .int .i64 0, .int .i64 0, .int .i64 0, .int .i64 0, .int .i64 0, .int .i64 0, .int .i64 0, .slice none 0 0] from (hg8.block _ HV27.out.lt (fun e => by injection e with e; omega)).trans HV27.out)
    have HV38 := Box.mk (show PVr w8 (w.heap.size + 2) #[.int .i64 0, .slice none 0 0] from (hg8.block _ (Array.getElem?_eq_some_iff.1 HV37.out).1 (fun e => by injection e with e; omega)).trans HV37.out)
    have HBW8 := Box.mk (HBW7.out.grown hg8 HBW7.out.size (fun q e => by injection e with e; omega))
    have H0 := Box.mk h0
    clear hpr hcr hm8 hr8 hd8 hg8 he h0 HV27 HV37 HBW7 HCL7 HFB
    go_upto_region 4 with (refine wpList_store_row rfl 41 _ _ rfl w8.heap.size pr rfl rfl 41 _ HNP.out HSP.out (by rw [hpr2]; rfl) hpr1 ?_)
    obtain ⟨W9, hW9⟩ : ∃ W9, W9 = (w8.alloc (.cells #[.int .i64 0, .slice none 0 0] 41)).setRow w8.heap.size pr := ⟨_, rfl⟩
    have HP9 := Box.mk (show PVr W9 w8.heap.size pr by rw [hW9]; exact setRow_heap _ _ _ _ _ _ HNP.out)
    have hb89 : Below w8.heap.size w8 W9 := by rw [hW9]; exact below_setRow (below_oneF _ _) (Nat.le_refl _) _
    have HJ9 := Box.mk (show NxJ w w4.heap.size w8.heap.size W3.heap.size x f4 g4 l4 e4 pa pc cr pr #[.bool false, .string ⟨#[]⟩, .int .i64 0, .string ⟨#[]⟩, .string ⟨#[]⟩, .int .i64 0, .slice none 0 0, .bool false, .slice none 0 0, .int .i64 0, .string ⟨#[]⟩, .int .i64 0, .slice none 0 0, .slice none 0 0, .int .i64 0, .int .i64 0, .int .i64 0, .int .i64 0, .int .i64 0, .int .i64 0, .int .i64 0, .slice none 0 0] #[.int .i64 0, .slice none 0 0] W9 from ⟨HM8.out.keep hb89, HP9.out, HV28.out.keep hb89, HV38.out.keep hb89, below_trans HBW8.out hb89, HR8.out.keep hb89, HD8.out.keep hb89⟩)
    rw [← hW9]
    clear hW9 hb89 HP9 HM8 HR8 HD8 HV28 HV38 HBW8 HNP
    go_wp2_with fail
    rename_i KK hKK
    refine wp_region_phases [3, 4] (fun p => match p with | 0 => [0, 1, 2] | 1 => [1, 2] | _ => [2, 5, 6])
      (fun p => match p with | 0 => [.val (.agg cr), .val (.agg pr), .val (.int .i64 x.n), .any, .nope, .nope, .nope] | 1 => [.any, .val (.agg pr), .val (.int .i64 x.n), .any, .any, .nope, .nope] | _ => [.any, .any, .val (.int .i64 x.n), .any, .any, .val (.int .i64 x.n), .val (.int .i64 0)])
      (fun p => match p with | 0 => NxJ w w4.heap.size w8.heap.size W3.heap.size x f4 g4 l4 e4 pa pc cr pr #[.bool false, .string ⟨#[]⟩, .int .i64 0, .string ⟨#[]⟩, .string ⟨#[]⟩, .int .i64 0, .slice none 0 0, .bool false, .slice none 0 0, .int .i64 0, .string ⟨#[]⟩, .int .i64 0, .slice none 0 0, .slice none 0 0, .int .i64 0, .int .i64 0, .int .i64 0, .int .i64 0, .int .i64 0, .int .i64 0, .int .i64 0, .slice none 0 0] #[.int .i64 0, .slice none 0 0] | 1 => NxJ w w4.heap.size w8.heap.size W3.heap.size x f4 g4 l4 e4 pa pc cr pr cr #[.int .i64 0, .slice none 0 0] | _ => NxJ w w4.heap.size w8.heap.size W3.heap.size x f4 g4 l4 e4 pa pc cr pr cr pr)
      (by kernel_rfl) (by kernel_rfl) (by kernel_rfl) (by kernel_rfl) (by kernel_rfl) (by kernel_rfl) ?_ HJ9.out ?_ ?_ ?_
    · intro p wa wb h hb
      match p, h with
      | 0, h => exact NxJ.keep h hb
      | 1, h => exact NxJ.keep h hb
      | (_ + 2), h => exact NxJ.keep h hb
    · intro p hp
      match p, hp with
      | 0, _ =>
        refine ⟨?_, ?_, ?_, trivial⟩ <;> intro a1 wx hv hf hd
        · exact ⟨wanted_none rfl, loc_load rfl (by rw [show a1.eval (.tmp 14) = .pointer (some ⟨w4.heap.size, 0, none⟩) from hf.base 14 rfl]; exact run_loadMs _ _ _ hv.m hcr22) rfl⟩
        · exact ⟨wanted_none rfl, loc_load rfl (by rw [show a1.eval (.tmp 16) = .pointer (some ⟨w8.heap.size, 0, none⟩) from hf.base 16 rfl]; exact run_loadPt _ _ _ hv.p hpr2) rfl⟩
        · exact ⟨wanted_none rfl, loc_move rfl (hf.base 17 rfl)⟩
      | 1, _ =>
        refine ⟨?_, ?_, trivial⟩ <;> intro a1 wx hv hf hd
        · exact ⟨wanted_none rfl, loc_load rfl (by rw [show a1.eval (.tmp 16) = .pointer (some ⟨w8.heap.size, 0, none⟩) from hf.base 16 rfl]; exact run_loadPt _ _ _ hv.p hpr2) rfl⟩
        · exact ⟨wanted_none rfl, loc_move rfl (hf.base 17 rfl)⟩
      | 2, _ =>
        refine ⟨?_, ?_, ?_, trivial⟩ <;> intro a1 wx hv hf hd
        · exact ⟨wanted_none rfl, loc_move rfl (hf.base 17 rfl)⟩
        · exact ⟨wanted_none rfl, loc_assign rfl (hd 2 rfl)⟩
        · exact ⟨wanted_none rfl, loc_assign rfl rfl⟩
    · intro p hp
      match p, hp with
      | 0, _ =>
        intro a2 wx hv hf hd
        refine ⟨wanted_none rfl, wp_store_row 37 _ _ rfl (w.heap.size + 1) cr (hf.base 10 rfl) (hd 0 rfl) 37 _ hv.r2 (by rw [hcr22]; exact sizeRd) (by rw [hcr22]; rfl) hcr1 ?_⟩
        exact ⟨undef, rfl, ⟨(setRow_other _ _ _ _ (by omega)).trans hv.m, (setRow_other _ _ _ _ (by omega)).trans hv.p, setRow_heap _ _ _ _ _ _ hv.r2, (setRow_other _ _ _ _ (by omega)).trans hv.r3, below_setRow hv.bl (by omega) _, rmem_row hv.rm (by omega) hv.r2 (noU8_22 rfl), isBytes_rowR hv.r2 (noU8_22 rfl) hv.dt⟩, trivial, ⟨.inr fun _ _ _ => trivial, .inr fun _ _ h => h, .inr fun _ _ h => h, .inl rfl, .inr fun _ _ h => h.elim, .inr fun _ _ h => h.elim, .inr fun _ _ h => h.elim, trivial⟩⟩
      | 1, _ =>
        intro a2 wx hv hf hd
        have e11 : a2.eval (.tmp 11) = .pointer (some ⟨w.heap.size + 2, 0, none⟩) := hf.base 11 rfl
        refine ⟨wanted_none rfl, wp_store_row 41 _ _ rfl (w.heap.size + 2) pr e11 (hd 1 rfl) 41 _ hv.r3 HSP.out (by rw [hpr2]; rfl) hpr1 ?_⟩
        exact ⟨undef, rfl, ⟨(setRow_other _ _ _ _ (by omega)).trans hv.m, (setRow_other _ _ _ _ (by omega)).trans hv.p, (setRow_other _ _ _ _ (by omega)).trans hv.r2, setRow_heap _ _ _ _ _ _ hv.r3, below_setRow hv.bl (by omega) _, rmem_row hv.rm (by omega) hv.r3 (noU8_22 rfl), isBytes_rowR hv.r3 (noU8_22 rfl) hv.dt⟩, trivial, ⟨.inr fun _ _ _ => trivial, .inr fun _ _ _ => trivial, .inr fun _ _ h => h, .inr fun _ _ _ => trivial, .inl rfl, .inr fun _ _ h => h.elim, .inr fun _ _ h => h.elim, trivial⟩⟩
    · intro a2 w10 hv hf hh
      have e12 : a2.eval (.tmp 12) = .int .i64 x.n := hh 5 (by decide)
      have e13 : a2.eval (.tmp 13) = .int .i64 0 := hh 6 (by decide)
      clear hh
      rw [fr_putAll hf]
      clear hf
      simp only [putAll, e12, e13]
      generalize a2.eval (.tmp 38) = u38
      generalize a2.eval (.tmp 39) = u39
      generalize a2.eval (.tmp 40) = u40
      clear e12 e13 a2
      simp only [Act.put, List.setIfInBounds_toArray, List.set_cons_succ, List.set_cons_zero]
      refine hKK _ _ ?_
      clear hKK
      go_wp2_with fail
      (try simp only [Exit.inBlock, Exit.then])
      refine bodyPost_ret (results_rrttR rfl _ _ (w.heap.size + 1) (w.heap.size + 2) 37 41 cr pr (0, 0) (0, 0) _ _ rfl rfl hv.r2 hv.r3 Tryz.underlying37 rfl (by rw [hcr22]; exact sizeRd) Tryz.underlying41 rfl HSP.out) rfl ?_
      exact ⟨f4, c4, g4, d4, l4, e4, pa, pc, by rw [HCR.out, HPR.out, H0.out]; rfl, ⟨hv.rm.f1, hv.rm.f2, hv.rm.ln, fun y e hx => hB _ (by have := (hv.rm.n1 y e hx).1; omega), fun y e hx => hB _ (by have := (hv.rm.n2 y e hx).1; omega)⟩, HLF8.out, hv.dt, hv.bl⟩
  · obtain ⟨er, rfl, hne⟩ := HERR.out h0
    have he : e = .returned (.tuple #[.agg #[.int .i64 k8, .slice none 0 0], .int .i64 n8, .int .i64 er]) := he
    refine ⟨_, he, ?_⟩
    have e0 : (er != 0) = true := by rw [bne_iff_ne]; exact hne
    have HNP := Box.mk (show PVr (w8.alloc (.cells #[.int .i64 0, .slice none 0 0] 41)) w8.heap.size #[.int .i64 0, .slice none 0 0] from heap_alloc_new w8 (.cells #[.int .i64 0, .slice none 0 0] 41))
    have hsz8 := hg8.size
    have HV28 := Box.mk (show RVr w8 (w.heap.size + 1) #[.bool false, .string ⟨#[]⟩, .int .i64 0, .string ⟨#[]⟩, .string ⟨#[]⟩, .int .i64 0, .slice none 0 0, .bool false, .slice none 0 0, .int .i64 0, .string ⟨#[]⟩, .int .i64 0, .slice none 0 0, .slice none 0 0, .int .i64 0, .int .i64 0, .int .i64 0, .int .i64 0, .int .i64 0, .int .i64 0, .int .i64 0, .slice none 0 0] from (hg8.block _ HV27.out.lt (fun e => by injection e with e; omega)).trans HV27.out)
    have HV38 := Box.mk (show PVr w8 (w.heap.size + 2) #[.int .i64 0, .slice none 0 0] from (hg8.block _ (Array.getElem?_eq_some_iff.1 HV37.out).1 (fun e => by injection e with e; omega)).trans HV37.out)
    have HBW8 := Box.mk (HBW7.out.grown hg8 HBW7.out.size (fun q e => by injection e with e; omega))
    clear hg8 he h0 HV27 HV37 HBW7 HCL7 HFB HERR hne
    go_upto_region 4 with (refine wpList_store_row rfl 41 _ _ rfl w8.heap.size #[.int .i64 k8, .slice none 0 0] rfl rfl 41 _ HNP.out sizePt rfl (onePt ..) ?_)
    obtain ⟨W9, hW9⟩ : ∃ W9, W9 = (w8.alloc (.cells #[.int .i64 0, .slice none 0 0] 41)).setRow w8.heap.size #[.int .i64 k8, .slice none 0 0] := ⟨_, rfl⟩
    have hb89 : Below w8.heap.size w8 W9 := by rw [hW9]; exact below_setRow (below_oneF _ _) (Nat.le_refl _) _
    have HV29 := Box.mk (HV28.out.keep hb89)
    have HV39 := Box.mk (HV38.out.keep hb89)
    have HBW9 := Box.mk (below_trans HBW8.out hb89)
    rw [← hW9]
    clear hW9 hb89 HV28 HV38 HBW8 HNP
    have HPN := Box.mk (show PVr (W9.setRow (w.heap.size + 1) #[.bool false, .string ⟨#[]⟩, .int .i64 0, .string ⟨#[]⟩, .string ⟨#[]⟩, .int .i64 0, .slice none 0 0, .bool false, .slice none 0 0, .int .i64 0, .string ⟨#[]⟩, .int .i64 0, .slice none 0 0, .slice none 0 0, .int .i64 0, .int .i64 0, .int .i64 0, .int .i64 0, .int .i64 0, .int .i64 0, .int .i64 0, .slice none 0 0]) (w.heap.size + 2) #[.int .i64 0, .slice none 0 0] from (setRow_other _ _ _ _ (by omega)).trans HV39.out)
    go_wp2_with (first | (refine wpList_store_row rfl 37 _ _ rfl (w.heap.size + 1) #[.bool false, .string ⟨#[]⟩, .int .i64 0, .string ⟨#[]⟩, .string ⟨#[]⟩, .int .i64 0, .slice none 0 0, .bool false, .slice none 0 0, .int .i64 0, .string ⟨#[]⟩, .int .i64 0, .slice none 0 0, .slice none 0 0, .int .i64 0, .int .i64 0, .int .i64 0, .int .i64 0, .int .i64 0, .int .i64 0, .int .i64 0, .slice none 0 0] rfl rfl 37 _ HV29.out sizeRd rfl (oneRd ..) ?_) | (refine wpList_store_row rfl 41 _ _ rfl (w.heap.size + 2) #[.int .i64 0, .slice none 0 0] rfl rfl 41 _ HPN.out sizePt rfl (onePt ..) ?_))
    (try simp only [Exit.inBlock, Exit.then])
    refine bodyPost_ret (results_rrttR rfl _ _ (w.heap.size + 1) (w.heap.size + 2) 37 41 #[.bool false, .string ⟨#[]⟩, .int .i64 0, .string ⟨#[]⟩, .string ⟨#[]⟩, .int .i64 0, .slice none 0 0, .bool false, .slice none 0 0, .int .i64 0, .string ⟨#[]⟩, .int .i64 0, .slice none 0 0, .slice none 0 0, .int .i64 0, .int .i64 0, .int .i64 0, .int .i64 0, .int .i64 0, .int .i64 0, .int .i64 0, .slice none 0 0] #[.int .i64 0, .slice none 0 0] (0, 0) (0, 0) _ _ rfl rfl ((setRow_other _ _ _ _ (by omega)).trans (setRow_heap _ _ _ _ _ _ HV29.out)) (setRow_heap _ _ _ _ _ _ HPN.out) Tryz.underlying37 rfl sizeRd Tryz.underlying41 rfl sizePt) rfl ?_
    have HBF := below_setRow (g := w.heap.size + 2) (below_setRow (g := w.heap.size + 1) HBW9.out (by omega) #[.bool false, .string ⟨#[]⟩, .int .i64 0, .string ⟨#[]⟩, .string ⟨#[]⟩, .int .i64 0, .slice none 0 0, .bool false, .slice none 0 0, .int .i64 0, .string ⟨#[]⟩, .int .i64 0, .slice none 0 0, .slice none 0 0, .int .i64 0, .int .i64 0, .int .i64 0, .int .i64 0, .int .i64 0, .int .i64 0, .int .i64 0, .slice none 0 0]) (by omega) #[.int .i64 0, .slice none 0 0]
    exact ⟨none, 0, none, 0, none, 0, none, 0, rfl, ⟨FldsIn.nil _ _, FldsIn.nil _ _, .inl ⟨rfl, rfl, rfl⟩, (fun y hy => by cases hy), (fun y hy => by cases hy)⟩, (fun y hy => by cases hy), .inl ⟨rfl, rfl, rfl⟩, HBF⟩
theorem projNext_any (B : Nat → Prop) (s : RS) (b : List UInt8) (most body room : Int) (ba : Option Addr) (bc : Nat) (fa ga la : Option Addr) (fc gc lc : Nat) (w : World) (mm : Int) (hb : IsBytes w ba b bc) (hl : b.length ≤ 1000000) (hm : RMem B w s fa ga la lc) (hok : HdOk w mm) (hs : OkN body s) (hb0 : 0 ≤ body ∧ body ≤ 1000000000) (hr0 : -1000000000 ≤ room ∧ room ≤ 1000000000) (hB : ∀ g, w.heap.size ≤ g → B g) :
    Calls Tryz.prog 12 #[.agg #[.bool s.rep, .string s.meth, .int .i64 s.ph, .string s.m, .string s.t, .int .i64 s.z, .slice fa (List.length s.xs) fc, .bool s.fr, .slice none 0 0, .int .i64 s.st, .string s.rs, .int .i64 s.z2, .slice ga (List.length s.ys) gc, .slice none 0 0, .int .i64 s.fk, .int .i64 s.fl, .int .i64 s.left, .int .i64 s.size, .int .i64 s.ck.ph, .int .i64 s.ck.left, .int .i64 s.ck.tr, .slice la (List.length s.ck.line) lc], .slice ba b.length bc, .int .i64 most, .int .i64 body, .int .i64 room] w (RetX B w (nextX s b most body room)) :=
  (projNextF_any B s b most body room ba bc fa ga la fc gc lc w mm hb hl hm hok hs hb0 hr0 hB).mono fun e w' ⟨f4, c4, g4, d4, l4, e4, pa, pc, he, h1, _, h3, h4⟩ => ⟨f4, c4, g4, d4, l4, e4, pa, pc, he, h1, h3, h4⟩
end Go.Proofs.YteoadfckcilalaaGreatDoor
namespace Go.Proofs.YteoadfckcilalaaGreatDoor
open Go.RowKit

set_option linter.unusedVariables false
set_option maxRecDepth 100000 in
set_option maxHeartbeats 1000000 in
theorem forRequest_any (w : World) : Calls Tryz.prog 30 #[] w fun e w' => e = .returned (.agg #[.bool false, .string ⟨#[]⟩, .int .i64 0, .string ⟨#[]⟩, .string ⟨#[]⟩, .int .i64 0, .slice none 0 0, .bool false, .slice none 0 0, .int .i64 0, .string ⟨#[]⟩, .int .i64 0, .slice none 0 0, .slice none 0 0, .int .i64 0, .int .i64 0, .int .i64 0, .int .i64 0, .int .i64 0, .int .i64 0, .int .i64 0, .slice none 0 0]) ∧ Below w.heap.size w w' := by
  obtain ⟨W1, hW1⟩ : ∃ W1, W1 = w.alloc (.cells #[.bool false, .string ⟨#[]⟩, .int .i64 0, .string ⟨#[]⟩, .string ⟨#[]⟩, .int .i64 0, .slice none 0 0, .bool false, .slice none 0 0, .int .i64 0, .string ⟨#[]⟩, .int .i64 0, .slice none 0 0, .slice none 0 0, .int .i64 0, .int .i64 0, .int .i64 0, .int .i64 0, .int .i64 0, .int .i64 0, .int .i64 0, .slice none 0 0] 37) := ⟨_, rfl⟩
  have HB1 := Box.mk (show Below w.heap.size w W1 by rw [hW1]; exact below_oneF _ _)
  have HO := Box.mk (show RVr W1 w.heap.size #[.bool false, .string ⟨#[]⟩, .int .i64 0, .string ⟨#[]⟩, .string ⟨#[]⟩, .int .i64 0, .slice none 0 0, .bool false, .slice none 0 0, .int .i64 0, .string ⟨#[]⟩, .int .i64 0, .slice none 0 0, .slice none 0 0, .int .i64 0, .int .i64 0, .int .i64 0, .int .i64 0, .int .i64 0, .int .i64 0, .int .i64 0, .slice none 0 0] by rw [hW1]; exact heap_alloc_new _ _)
  have HW1 := Box.mk hW1
  clear hW1
  go_enter Tryz.func30, Tryz.ntmps30
  go_upto_region 1 with fail
  rw [← HW1.out]
  clear HW1
  go_wp2_with (refine wpList_store_row rfl 37 _ _ rfl w.heap.size #[.bool false, .string ⟨#[]⟩, .int .i64 0, .string ⟨#[]⟩, .string ⟨#[]⟩, .int .i64 0, .slice none 0 0, .bool false, .slice none 0 0, .int .i64 0, .string ⟨#[]⟩, .int .i64 0, .slice none 0 0, .slice none 0 0, .int .i64 0, .int .i64 0, .int .i64 0, .int .i64 0, .int .i64 0, .int .i64 0, .int .i64 0, .slice none 0 0] rfl rfl 37 _ HO.out sizeRd rfl (oneRd ..) ?_)
  (try simp only [Exit.inBlock, Exit.then])
  refine bodyPost_ret (results_r rfl _ _ w.heap.size 37 #[.bool false, .string ⟨#[]⟩, .int .i64 0, .string ⟨#[]⟩, .string ⟨#[]⟩, .int .i64 0, .slice none 0 0, .bool false, .slice none 0 0, .int .i64 0, .string ⟨#[]⟩, .int .i64 0, .slice none 0 0, .slice none 0 0, .int .i64 0, .int .i64 0, .int .i64 0, .int .i64 0, .int .i64 0, .int .i64 0, .int .i64 0, .slice none 0 0] (0, 0) _ rfl (setRow_heap _ _ _ _ _ _ HO.out) Tryz.underlying37 rfl sizeRd) rfl ?_
  exact ⟨rfl, below_setRow HB1.out (Nat.le_refl _) _⟩
set_option maxRecDepth 100000 in
set_option maxHeartbeats 1000000 in
theorem forReply_any (p : ByteArray) (w : World) : Calls Tryz.prog 28 #[.string p] w fun e w' => e = .returned (.agg #[.bool true, .string p, .int .i64 0, .string ⟨#[]⟩, .string ⟨#[]⟩, .int .i64 0, .slice none 0 0, .bool false, .slice none 0 0, .int .i64 0, .string ⟨#[]⟩, .int .i64 0, .slice none 0 0, .slice none 0 0, .int .i64 0, .int .i64 0, .int .i64 0, .int .i64 0, .int .i64 0, .int .i64 0, .int .i64 0, .slice none 0 0]) ∧ Below w.heap.size w w' := by
  have hbd : ∀ W, (Instr.build 37 #[(0, .bool true), (1, .string p)]).run Tryz.prog W = .ok (.agg #[.bool true, .string p, .int .i64 0, .string ⟨#[]⟩, .string ⟨#[]⟩, .int .i64 0, .slice none 0 0, .bool false, .slice none 0 0, .int .i64 0, .string ⟨#[]⟩, .int .i64 0, .slice none 0 0, .slice none 0 0, .int .i64 0, .int .i64 0, .int .i64 0, .int .i64 0, .int .i64 0, .int .i64 0, .int .i64 0, .slice none 0 0]) W := fun W => run_build (P := Tryz.prog) W 37 #[(0, .bool true), (1, .string p)] #[.bool true, .string p, .int .i64 0, .string ⟨#[]⟩, .string ⟨#[]⟩, .int .i64 0, .slice none 0 0, .bool false, .slice none 0 0, .int .i64 0, .string ⟨#[]⟩, .int .i64 0, .slice none 0 0, .slice none 0 0, .int .i64 0, .int .i64 0, .int .i64 0, .int .i64 0, .int .i64 0, .int .i64 0, .int .i64 0, .slice none 0 0] (by kernel_rfl)
  obtain ⟨W1, hW1⟩ : ∃ W1, W1 = w.alloc (.cells #[.bool false, .string ⟨#[]⟩, .int .i64 0, .string ⟨#[]⟩, .string ⟨#[]⟩, .int .i64 0, .slice none 0 0, .bool false, .slice none 0 0, .int .i64 0, .string ⟨#[]⟩, .int .i64 0, .slice none 0 0, .slice none 0 0, .int .i64 0, .int .i64 0, .int .i64 0, .int .i64 0, .int .i64 0, .int .i64 0, .int .i64 0, .slice none 0 0] 37) := ⟨_, rfl⟩
  have HB1 := Box.mk (show Below w.heap.size w W1 by rw [hW1]; exact below_oneF _ _)
  have HO := Box.mk (show RVr W1 w.heap.size #[.bool false, .string ⟨#[]⟩, .int .i64 0, .string ⟨#[]⟩, .string ⟨#[]⟩, .int .i64 0, .slice none 0 0, .bool false, .slice none 0 0, .int .i64 0, .string ⟨#[]⟩, .int .i64 0, .slice none 0 0, .slice none 0 0, .int .i64 0, .int .i64 0, .int .i64 0, .int .i64 0, .int .i64 0, .int .i64 0, .int .i64 0, .slice none 0 0] by rw [hW1]; exact heap_alloc_new _ _)
  have HW1 := Box.mk hW1
  clear hW1
  go_enter Tryz.func28, Tryz.ntmps28
  go_upto_region 1 with fail
  rw [← HW1.out]
  clear HW1
  go_wp2_with (refine wpList_store_row rfl 37 _ _ rfl w.heap.size #[.bool true, .string p, .int .i64 0, .string ⟨#[]⟩, .string ⟨#[]⟩, .int .i64 0, .slice none 0 0, .bool false, .slice none 0 0, .int .i64 0, .string ⟨#[]⟩, .int .i64 0, .slice none 0 0, .slice none 0 0, .int .i64 0, .int .i64 0, .int .i64 0, .int .i64 0, .int .i64 0, .int .i64 0, .int .i64 0, .slice none 0 0] rfl rfl 37 _ HO.out sizeRd rfl (oneRd ..) ?_)
  (try simp only [Exit.inBlock, Exit.then])
  refine bodyPost_ret (results_r rfl _ _ w.heap.size 37 #[.bool true, .string p, .int .i64 0, .string ⟨#[]⟩, .string ⟨#[]⟩, .int .i64 0, .slice none 0 0, .bool false, .slice none 0 0, .int .i64 0, .string ⟨#[]⟩, .int .i64 0, .slice none 0 0, .slice none 0 0, .int .i64 0, .int .i64 0, .int .i64 0, .int .i64 0, .int .i64 0, .int .i64 0, .int .i64 0, .slice none 0 0] (0, 0) _ rfl (setRow_heap _ _ _ _ _ _ HO.out) Tryz.underlying37 rfl sizeRd) rfl ?_
  exact ⟨rfl, below_setRow HB1.out (Nat.le_refl _) _⟩
end Go.Proofs.YteoadfckcilalaaGreatDoor
namespace Go.Proofs.YteoadfckcilalaaGreatDoor
open Go.RowKit

theorem fieldsGo_from : ∀ (l : List ByteArray) (x : List Fld), fieldsGo l = some x → ∀ f ∈ x, ∃ s ∈ l, parseF s = some f
  | [], x, h, f, hf => by
    cases h
    exact absurd hf (by simp)
  | t :: l, x, h, f, hf => by
    unfold fieldsGo at h
    cases ht : parseF t with
    | none => rw [ht] at h; cases h
    | some g =>
      rw [ht] at h
      simp only at h
      cases hx : fieldsGo l with
      | none => rw [hx] at h; cases h
      | some y =>
        rw [hx] at h
        simp only [Option.map_some, Option.some.injEq] at h
        subst h
        rcases List.mem_cons.1 hf with rfl | hf
        · exact ⟨t, List.mem_cons_self .., ht⟩
        · obtain ⟨s, h1, h2⟩ := fieldsGo_from l y hx f hf
          exact ⟨s, List.mem_cons_of_mem _ h1, h2⟩
theorem fieldsS_from {l : List ByteArray} {f : Fld} (hf : f ∈ (fieldsS l).2) : ∃ s ∈ l, parseF s = some f := by
  unfold fieldsS at hf
  split at hf
  · exact absurd hf (by simp)
  · cases hx : fieldsGo l with
    | none => rw [hx] at hf; exact absurd hf (by simp)
    | some y => rw [hx] at hf; exact fieldsGo_from l y hx f hf
end Go.Proofs.YteoadfckcilalaaGreatDoor
namespace Go.Proofs.YteoadfckcilalaaGreatDoor
open Go.RowKit

def NmS (s : RS) : Prop := (∀ f ∈ s.xs, ¬ f.1.size = 0) ∧ ∀ f ∈ s.ys, ¬ f.1.size = 0
theorem nmS_zero : NmS zeroR := ⟨fun f hf => absurd hf (by simp [zeroR]), fun f hf => absurd hf (by simp [zeroR])⟩
theorem parseF_name {s : ByteArray} {f : Fld} (h : parseF s = some f) : ¬ f.1.size = 0 := by
  unfold parseF at h
  split at h
  · split at h
    · rename_i hb
      have e := Option.some.inj h
      rw [← e]
      intro hz
      have hb2 : tokS (s.extract 0 (colonI s).toNat) = true := by
        cases ht : tokS (s.extract 0 (colonI s).toNat) with
        | true => rfl
        | false => rw [fldB_tok ht] at hb; cases hb
      have hz2 : (s.extract 0 (colonI s).toNat).data.toList = [] := List.eq_nil_of_length_eq_zero (by simpa using hz)
      unfold tokS at hb2
      rw [hz2] at hb2
      exact absurd hb2 (by decide)
    · cases h
  · cases h
theorem fieldsS_names {l : List ByteArray} : ∀ f ∈ (fieldsS l).2, ¬ f.1.size = 0 := fun f hf => by
  obtain ⟨s, _, hp⟩ := fieldsS_from hf
  exact parseF_name hp
theorem headA_names (h : List UInt8) : ∀ f ∈ (headA h).2.2.2.2, ¬ f.1.size = 0 := by
  unfold headA
  split
  · split
    · split
      · exact fieldsS_names
      · exact fun f hf => absurd hf (by simp)
    · exact fun f hf => absurd hf (by simp)
  · exact fun f hf => absurd hf (by simp)
theorem headR_names (h : List UInt8) : ∀ f ∈ (headR h).2.2.2.2, ¬ f.1.size = 0 := by
  unfold headR
  split
  · split
    · split
      · split
        · exact fun f hf => absurd hf (by simp)
        · exact fieldsS_names
      · exact fun f hf => absurd hf (by simp)
    · exact fun f hf => absurd hf (by simp)
  · exact fun f hf => absurd hf (by simp)
theorem finX_names {x : RS} (h : NmS x) (f : Int × Int × Int) (n : Nat) (body : Int) : NmS (finX x f n body).r := by
  unfold finX
  split
  · exact nmS_zero
  · split
    · exact nmS_zero
    · exact h
theorem moreX_names {s : RS} (hs : NmS s) (b : List UInt8) (body room : Int) : NmS (moreX s b body room).r := by
  unfold moreX
  split
  · split
    · exact hs
    · split <;> exact hs
  · split
    · split
      · exact nmS_zero
      · split
        · exact nmS_zero
        · split
          · exact hs
          · split <;> exact hs
    · split
      · exact hs
      · split
        · exact nmS_zero
        · exact hs
theorem nextX_names {s : RS} (hs : NmS s) (b : List UInt8) (most body room : Int) : NmS (nextX s b most body room).r := by
  unfold nextX
  split
  · unfold firstX
    split
    · exact hs
    · split
      · exact nmS_zero
      · unfold headX
        split
        · split
          · exact nmS_zero
          · split
            · exact nmS_zero
            · split
              · exact hs
              · refine finX_names ?_ _ _ _
                exact ⟨hs.1, headA_names _⟩
        · split
          · exact nmS_zero
          · refine finX_names ?_ _ _ _
            exact ⟨headR_names _, hs.2⟩
  · split
    · exact moreX_names hs b body _
    · exact hs
end Go.Proofs.YteoadfckcilalaaGreatDoor
namespace Go.Proofs.YteoadfckcilalaaGreatDoor
open Go.RowKit

/-- Bytes that lie at B or beyond. -/
def BytesF (B : Nat) (w : World) (v : Value) (l : List UInt8) : Prop := ∃ a c, v = .slice a l.length c ∧ IsBytes w a l c ∧ ∀ x, a = some x → B ≤ x.block
theorem BytesF.keep {B : Nat} {w w' : World} {v : Value} {l : List UInt8} (h : BytesF B w v l) (hb : Below w.heap.size w w') : BytesF B w' v l := by
  obtain ⟨a, c, h1, h2, h3⟩ := h
  exact ⟨a, c, h1, h2.keep hb, h3⟩
theorem BytesF.mono {B B' : Nat} {w : World} {v : Value} {l : List UInt8} (h : BytesF B w v l) (hB : B' ≤ B) : BytesF B' w v l := by
  obtain ⟨a, c, h1, h2, h3⟩ := h
  exact ⟨a, c, h1, h2, fun x hx => Nat.le_trans hB (h3 x hx)⟩
theorem BytesF.bytes {B : Nat} {w : World} {v : Value} {l : List UInt8} (h : BytesF B w v l) : BytesV w v l := by
  obtain ⟨a, c, h1, h2, _⟩ := h
  exact ⟨a, c, h1, h2⟩
theorem BytesF.nil (B : Nat) (w : World) : BytesF B w (.slice none 0 0) [] := ⟨none, 0, rfl, .inl ⟨rfl, rfl, rfl⟩, fun x hx => by cases hx⟩
def Spec.fresh (B : Nat) (l : List UInt8) : Spec := ⟨fun v w => BytesF B w v l, fun _ _ _ h hb => h.keep hb⟩
end Go.Proofs.YteoadfckcilalaaGreatDoor
namespace Go.Proofs.YteoadfckcilalaaGreatDoor
open Go.RowKit

theorem sizeOf_u8Q (W : World) : (sizeOf 5).run Tryz.prog W = .ok 1 W := by
  have h : (Tryz.prog.info? 5).map (·.size) = some 1 := by kernel_rfl
  cases hq : Tryz.prog.info? 5 with
  | none => rw [hq] at h; cases h
  | some i => rw [hq] at h; simp at h; simp [sizeOf, typeInfo, hq, h]

section
variable {Q : Exit → Act → World → Prop} {a : Act} {w : World} {o : Oper} {s : Spec}
theorem run_part_q (W : World) (x : Addr) (len cap n : Nat) (hn : n ≤ len) :
    (Instr.sliceAt 23 (.slice (some x) len cap) (some (.int .i64 (n : Int))) none none).run Tryz.prog W = .ok (.slice (some (if cap = n then x else x.add n)) (len - n) (cap - n)) W := by
  have es : (sizeOf (Tryz.prog.elem 23)).run Tryz.prog W = .ok 1 W := by rw [show Tryz.prog.elem 23 = 5 by kernel_rfl]; exact sizeOf_u8Q W
  rw [run_sliceAt_slice W 23 _ _ _ _ (by kernel_rfl), run_slice_l W 23 _ _ _ (by kernel_rfl) .i64 (n : Int) (by omega) (by omega), es]
  simp only [Result.andThen, sliced, Int.toNat_natCast, Nat.mul_one]
  split <;> rfl
theorem part_bytes_q {w : World} {x : Addr} {l : List UInt8} {cap n : Nat} (h : IsBytes w (some x) l cap) (hn : n ≤ l.length) : IsBytes w (some (if cap = n then x else x.add n)) (l.drop n) (cap - n) := by
  rcases h with ⟨h, _⟩ | ⟨y, hy, h1, h2, h3⟩
  · cases h
  · obtain rfl := Option.some.inj hy
    refine .inr ⟨_, rfl, by simp; omega, by omega, fun j hj => ?_⟩
    have hj' : j < l.length - n := by simpa using hj
    rw [if_neg (by omega), List.getElem_drop, ← h3 (n + j) (by omega)]
    congr 1
    unfold Addr.add
    by_cases h0 : n = 0
    · subst h0; simp
    · by_cases hj0 : j = 0
      · subst hj0; simp [h0]
      · simp [h0, hj0, Nat.add_assoc]
/-- l from place i on. -/
theorem part_q {w : World} {a : Option Addr} {l : List UInt8} {cap i : Nat} (h : IsBytes w a l cap) (hi : i ≤ l.length) :
    ∃ a' c', (∀ W, (Instr.sliceAt 23 (.slice a l.length cap) (some (.int .i64 (i : Int))) none none).run Tryz.prog W = .ok (.slice a' (l.length - i) c') W) ∧ IsBytes w a' (l.drop i) c' := by
  cases a with
  | some x => exact ⟨_, _, fun W => run_part_q W x l.length cap i hi, part_bytes_q h hi⟩
  | none =>
    rcases h with ⟨_, rfl, rfl⟩ | ⟨x, h, _⟩
    · have h0 : i = 0 := by simpa using hi
      subst h0
      refine ⟨none, 0, fun W => ?_, .inl ⟨rfl, rfl, rfl⟩⟩
      have es : (sizeOf (Tryz.prog.elem 23)).run Tryz.prog W = .ok 1 W := by rw [show Tryz.prog.elem 23 = 5 by kernel_rfl]; exact sizeOf_u8Q W
      rw [run_sliceAt_slice W 23 _ _ _ _ (by kernel_rfl), run_slice_l W 23 _ _ _ (by kernel_rfl) .i64 ((0 : Nat) : Int) (by omega) (by simp), es]
      rfl
    · cases h
theorem loc_from {x y : Operand} (ho : o.op = .slice 23 x (some y) none none) {l : List UInt8} {i : Nat} (hx : BytesV w (a.eval x) l) (hy : a.eval y = .int .i64 i) (hi : i ≤ l.length) (hs : ∀ v, BytesV w v (l.drop i) → s.p v w) :
    o.wp Tryz.prog a w (fun a' w' => ∃ v, a' = a.put o.dst v ∧ Below w.heap.size w w' ∧ s.p v w') Q := by
  obtain ⟨ad, c, h1, h2⟩ := hx
  obtain ⟨a', c', h3, h4⟩ := part_q h2 hi
  refine loc_run (v := .slice a' (l.length - i) c') ?_ (Below.refl _ _) (hs _ ⟨a', c', by rw [List.length_drop], h4⟩)
  unfold execOp
  simp only [ho, h1, hy, Option.map_some, Option.map_none, Sem.run_bind, h3, Result.andThen_ok, Sem.run_pure]
end
end Go.Proofs.YteoadfckcilalaaGreatDoor
namespace Go.Proofs.YteoadfckcilalaaGreatDoor
open Go.RowKit

set_option linter.unusedVariables false
/-- What a reader's slices hold: where its fields may lie, and its line. -/
structure RMemQ (L : (Nat → Prop) × (Nat → Prop)) (w : World) (s : RS) (fa ga la : Option Addr) (lc : Nat) : Prop where
  m : RMem L.1 w s fa ga la lc
  l : ∀ y, la = some y → s.ck.line ≠ [] → L.2 y.block
theorem RMemQ.keep {L : (Nat → Prop) × (Nat → Prop)} {w w' : World} {s : RS} {fa ga la : Option Addr} {lc : Nat} (h : RMemQ L w s fa ga la lc) (hb : Below w.heap.size w w') : RMemQ L w' s fa ga la lc := ⟨h.m.keep hb, h.l⟩
/-- A reader's variable and what it holds; its fields lie in blocks that L allows. -/
def StV (L : (Nat → Prop) × (Nat → Prop)) (s : RS) (w : World) (g : Nat) : Prop := ∃ fa fc ga gc la lc, RVr w g #[.bool s.rep, .string s.meth, .int .i64 s.ph, .string s.m, .string s.t, .int .i64 s.z, .slice fa (List.length s.xs) fc, .bool s.fr, .slice none 0 0, .int .i64 s.st, .string s.rs, .int .i64 s.z2, .slice ga (List.length s.ys) gc, .slice none 0 0, .int .i64 s.fk, .int .i64 s.fl, .int .i64 s.left, .int .i64 s.size, .int .i64 s.ck.ph, .int .i64 s.ck.left, .int .i64 s.ck.tr, .slice la (List.length s.ck.line) lc] ∧ RMemQ L w s fa ga la lc
def AgS (L : (Nat → Prop) × (Nat → Prop)) (s : RS) (w : World) (v : Value) : Prop := ∃ fa fc ga gc la lc, v = .agg #[.bool s.rep, .string s.meth, .int .i64 s.ph, .string s.m, .string s.t, .int .i64 s.z, .slice fa (List.length s.xs) fc, .bool s.fr, .slice none 0 0, .int .i64 s.st, .string s.rs, .int .i64 s.z2, .slice ga (List.length s.ys) gc, .slice none 0 0, .int .i64 s.fk, .int .i64 s.fl, .int .i64 s.left, .int .i64 s.size, .int .i64 s.ck.ph, .int .i64 s.ck.left, .int .i64 s.ck.tr, .slice la (List.length s.ck.line) lc] ∧ RMemQ L w s fa ga la lc
def PtV (x : NX) (w : World) (g : Nat) : Prop := ∃ pa pc, PVr w g #[.int .i64 x.kind, .slice pa (List.length x.data) pc] ∧ IsBytes w pa x.data pc
def AgP (x : NX) (w : World) (v : Value) : Prop := ∃ pa pc, v = .agg #[.int .i64 x.kind, .slice pa (List.length x.data) pc] ∧ IsBytes w pa x.data pc
def NxV (L : (Nat → Prop) × (Nat → Prop)) (x : NX) (w : World) (v : Value) : Prop := ∃ fa fc ga gc la lc pa pc, v = .tuple #[.agg #[.bool x.r.rep, .string x.r.meth, .int .i64 x.r.ph, .string x.r.m, .string x.r.t, .int .i64 x.r.z, .slice fa (List.length x.r.xs) fc, .bool x.r.fr, .slice none 0 0, .int .i64 x.r.st, .string x.r.rs, .int .i64 x.r.z2, .slice ga (List.length x.r.ys) gc, .slice none 0 0, .int .i64 x.r.fk, .int .i64 x.r.fl, .int .i64 x.r.left, .int .i64 x.r.size, .int .i64 x.r.ck.ph, .int .i64 x.r.ck.left, .int .i64 x.r.ck.tr, .slice la (List.length x.r.ck.line) lc], .agg #[.int .i64 x.kind, .slice pa (List.length x.data) pc], .int .i64 x.n, .int .i64 x.er] ∧ RMemQ L w x.r fa ga la lc ∧ IsBytes w pa x.data pc
def RNew (N : Nat) (w : World) (v : Value) : Prop := ∃ g, v = .pointer (some ⟨g, 0, none⟩) ∧ N ≤ g ∧ RVr w g #[.bool false, .string ⟨#[]⟩, .int .i64 0, .string ⟨#[]⟩, .string ⟨#[]⟩, .int .i64 0, .slice none 0 0, .bool false, .slice none 0 0, .int .i64 0, .string ⟨#[]⟩, .int .i64 0, .slice none 0 0, .slice none 0 0, .int .i64 0, .int .i64 0, .int .i64 0, .int .i64 0, .int .i64 0, .int .i64 0, .int .i64 0, .slice none 0 0]
def RSt (N : Nat) (L : (Nat → Prop) × (Nat → Prop)) (s : RS) (w : World) (v : Value) : Prop := ∃ g, v = .pointer (some ⟨g, 0, none⟩) ∧ N ≤ g ∧ StV L s w g
theorem StV.keep {L : (Nat → Prop) × (Nat → Prop)} {s : RS} {w w' : World} {g : Nat} (h : StV L s w g) (hb : Below w.heap.size w w') : StV L s w' g := by
  obtain ⟨fa, fc, ga, gc, la, lc, h1, h2⟩ := h
  exact ⟨fa, fc, ga, gc, la, lc, h1.keep hb, h2.keep hb⟩
theorem AgS.keep {L : (Nat → Prop) × (Nat → Prop)} {s : RS} {w w' : World} {v : Value} (h : AgS L s w v) (hb : Below w.heap.size w w') : AgS L s w' v := by
  obtain ⟨fa, fc, ga, gc, la, lc, h1, h2⟩ := h
  exact ⟨fa, fc, ga, gc, la, lc, h1, h2.keep hb⟩
theorem PtV.keep {x : NX} {w w' : World} {g : Nat} (h : PtV x w g) (hb : Below w.heap.size w w') : PtV x w' g := by
  obtain ⟨pa, pc, h1, h2⟩ := h
  exact ⟨pa, pc, h1.keep hb, h2.keep hb⟩
theorem AgP.keep {x : NX} {w w' : World} {v : Value} (h : AgP x w v) (hb : Below w.heap.size w w') : AgP x w' v := by
  obtain ⟨pa, pc, h1, h2⟩ := h
  exact ⟨pa, pc, h1, h2.keep hb⟩
theorem NxV.keep {L : (Nat → Prop) × (Nat → Prop)} {x : NX} {w w' : World} {v : Value} (h : NxV L x w v) (hb : Below w.heap.size w w') : NxV L x w' v := by
  obtain ⟨fa, fc, ga, gc, la, lc, pa, pc, h1, h2, h3⟩ := h
  exact ⟨fa, fc, ga, gc, la, lc, pa, pc, h1, h2.keep hb, h3.keep hb⟩
theorem StV.lt {L : (Nat → Prop) × (Nat → Prop)} {s : RS} {w : World} {g : Nat} (h : StV L s w g) : g < w.heap.size := by
  obtain ⟨_, _, _, _, _, _, h1, _⟩ := h
  exact h1.lt
theorem PtV.lt {x : NX} {w : World} {g : Nat} (h : PtV x w g) : g < w.heap.size := by
  obtain ⟨_, _, h1, _⟩ := h
  exact (Array.getElem?_eq_some_iff.1 h1).1
def Spec.srow (L : (Nat → Prop) × (Nat → Prop)) (s : RS) : Spec := ⟨fun v w => AgS L s w v, fun _ _ _ h hb => h.keep hb⟩
def Spec.prow (x : NX) : Spec := ⟨fun v w => AgP x w v, fun _ _ _ h hb => h.keep hb⟩
def Spec.nxt (L : (Nat → Prop) × (Nat → Prop)) (x : NX) : Spec := ⟨fun v w => NxV L x w v, fun _ _ _ h hb => h.keep hb⟩
def Spec.rnew (N : Nat) : Spec := ⟨fun v w => RNew N w v, fun _ _ _ h hb => by
  obtain ⟨g, h1, h2, h3⟩ := h
  exact ⟨g, h1, h2, h3.keep hb⟩⟩
/-- No name lies in this row: its strings are empty. -/
def NoStr (cs : Array Value) : Prop := ∀ (i : Nat) (b : ByteArray), cs[i]? = some (.string b) → b.size = 0
theorem noStr_of {cs : Array Value} (h : cs.toList.all (fun v => match v with | .string b => b.size == 0 | _ => true) = true) : NoStr cs := fun i b e => by
  have h1 := List.all_eq_true.1 h (.string b) (by
    have : cs.toList[i]? = some (.string b) := by rw [Array.getElem?_toList]; exact e
    exact List.mem_of_getElem? this)
  exact eq_of_beq h1
theorem flds_away {w : World} {g : Nat} {cs : Array Value} {T : TypeId} {fz : Nat × Nat} (h : w.heap[g]? = some (.cells cs T fz)) (hn : NoStr cs) {a : Option Addr} {l : List Fld} (hb : FldsIn w a l) (hl : ∀ f ∈ l, ¬ f.1.size = 0) : ∀ y, a = some y → l ≠ [] → y.block ≠ g := by
  intro y hy hne hg
  have h0 := List.length_pos_iff.2 hne
  obtain ⟨x, hx, h5, _⟩ := hb 0 h0
  rw [hy] at hx
  obtain rfl := Option.some.inj hx
  have h6 : w.heap[(y.add (0 * 2)).block]? = some (.cells cs T fz) := by rw [add_blockC, hg]; exact h
  unfold World.cell? at h5
  rw [h6] at h5
  simp only at h5
  split at h5
  · cases h5
  · exact hl l[0] (List.getElem_mem h0) (hn _ _ h5)
theorem RMem.rowZ {P : Nat → Prop} {w : World} {s : RS} {fa ga la : Option Addr} {lc q : Nat} {cs ds : Array Value} {T : TypeId} {fz : Nat × Nat} (h : RMem P w s fa ga la lc) (hm : NmS s) (hr : w.heap[q]? = some (.cells cs T fz)) (hs : NoStr cs) (hu : NoU8 cs) : RMem P (w.setRow q ds) s fa ga la lc :=
  ⟨sameNe h.f1 fun y e hx => setRow_other _ _ _ _ (flds_away hr hs h.f1 hm.1 y e hx), sameNe h.f2 fun y e hx => setRow_other _ _ _ _ (flds_away hr hs h.f2 hm.2 y e hx), isBytes_rowR hr hu h.ln, h.n1, h.n2⟩
theorem RMemQ.rowZ {L : (Nat → Prop) × (Nat → Prop)} {w : World} {s : RS} {fa ga la : Option Addr} {lc q : Nat} {cs ds : Array Value} {T : TypeId} {fz : Nat × Nat} (h : RMemQ L w s fa ga la lc) (hm : NmS s) (hr : w.heap[q]? = some (.cells cs T fz)) (hs : NoStr cs) (hu : NoU8 cs) : RMemQ L (w.setRow q ds) s fa ga la lc := ⟨h.m.rowZ hm hr hs hu, h.l⟩
theorem zero_noStr : NoStr #[.bool false, .string ⟨#[]⟩, .int .i64 0, .string ⟨#[]⟩, .string ⟨#[]⟩, .int .i64 0, .slice none 0 0, .bool false, .slice none 0 0, .int .i64 0, .string ⟨#[]⟩, .int .i64 0, .slice none 0 0, .slice none 0 0, .int .i64 0, .int .i64 0, .int .i64 0, .int .i64 0, .int .i64 0, .int .i64 0, .int .i64 0, .slice none 0 0] := noStr_of rfl
theorem zero_noU8 : NoU8 #[.bool false, .string ⟨#[]⟩, .int .i64 0, .string ⟨#[]⟩, .string ⟨#[]⟩, .int .i64 0, .slice none 0 0, .bool false, .slice none 0 0, .int .i64 0, .string ⟨#[]⟩, .int .i64 0, .slice none 0 0, .slice none 0 0, .int .i64 0, .int .i64 0, .int .i64 0, .int .i64 0, .int .i64 0, .int .i64 0, .int .i64 0, .slice none 0 0] := noU8_22 rfl
section
variable {L : (Nat → Prop) × (Nat → Prop)} {N q : Nat} {s : RS} {x : NX} {w : World} {v : Value} {cs ds : Array Value} {T : TypeId} {fz : Nat × Nat}
theorem NxV.rowZ (h : NxV L x w v) (hm : NmS x.r) (hr : w.heap[q]? = some (.cells cs T fz)) (hs : NoStr cs) (hu : NoU8 cs) : NxV L x (w.setRow q ds) v := by
  obtain ⟨fa, fc, ga, gc, la, lc, pa, pc, h1, h2, h3⟩ := h
  exact ⟨fa, fc, ga, gc, la, lc, pa, pc, h1, h2.rowZ hm hr hs hu, isBytes_rowR hr hu h3⟩
theorem AgP.rowZ (h : AgP x w v) (hr : w.heap[q]? = some (.cells cs T fz)) (hu : NoU8 cs) : AgP x (w.setRow q ds) v := by
  obtain ⟨pa, pc, h1, h2⟩ := h
  exact ⟨pa, pc, h1, isBytes_rowR hr hu h2⟩
theorem AgS.rowZ (h : AgS L s w v) (hm : NmS s) (hr : w.heap[q]? = some (.cells cs T fz)) (hs : NoStr cs) (hu : NoU8 cs) : AgS L s (w.setRow q ds) v := by
  obtain ⟨fa, fc, ga, gc, la, lc, h1, h2⟩ := h
  exact ⟨fa, fc, ga, gc, la, lc, h1, h2.rowZ hm hr hs hu⟩
theorem StV.rowZ {g : Nat} (h : StV L s w g) (hm : NmS s) (hg : g ≠ q) (hr : w.heap[q]? = some (.cells cs T fz)) (hs : NoStr cs) (hu : NoU8 cs) : StV L s (w.setRow q ds) g := by
  obtain ⟨fa, fc, ga, gc, la, lc, h1, h2⟩ := h
  exact ⟨fa, fc, ga, gc, la, lc, (setRow_other _ _ _ _ hg).trans h1, h2.rowZ hm hr hs hu⟩
theorem PtV.rowZ {g : Nat} (h : PtV x w g) (hg : g ≠ q) (hr : w.heap[q]? = some (.cells cs T fz)) (hu : NoU8 cs) : PtV x (w.setRow q ds) g := by
  obtain ⟨pa, pc, h1, h2⟩ := h
  exact ⟨pa, pc, (setRow_other _ _ _ _ hg).trans h1, isBytes_rowR hr hu h2⟩
end
section
variable {Q : Exit → Act → World → Prop} {a : Act} {w : World} {o : Oper} {s : Spec}
theorem loc_loadS {y : Operand} (ho : o.op = .load 37 y) {L : (Nat → Prop) × (Nat → Prop)} {g : Nat} {r : RS} (hy : a.eval y = .pointer (some ⟨g, 0, none⟩)) (h : StV L r w g) (hs : ∀ v, AgS L r w v → s.p v w) :
    o.wp Tryz.prog a w (fun a' w' => ∃ v, a' = a.put o.dst v ∧ Below w.heap.size w w' ∧ s.p v w') Q := by
  obtain ⟨fa, fc, ga, gc, la, lc, h1, h2⟩ := h
  exact loc_load ho (by rw [hy]; exact run_loadRR _ _ _ h1 rfl) (hs _ ⟨fa, fc, ga, gc, la, lc, rfl, h2⟩)
theorem loc_nx0 {y : Operand} (ho : o.op = .extract y 0) {L : (Nat → Prop) × (Nat → Prop)} {x : NX} (h : NxV L x w (a.eval y)) (hs : ∀ v, AgS L x.r w v → s.p v w) :
    o.wp Tryz.prog a w (fun a' w' => ∃ v, a' = a.put o.dst v ∧ Below w.heap.size w w' ∧ s.p v w') Q := by
  obtain ⟨fa, fc, ga, gc, la, lc, pa, pc, h1, h2, h3⟩ := h
  exact loc_extractR0 ho h1 (hs _ ⟨fa, fc, ga, gc, la, lc, rfl, h2⟩)
theorem loc_nx1 {y : Operand} (ho : o.op = .extract y 1) {L : (Nat → Prop) × (Nat → Prop)} {x : NX} (h : NxV L x w (a.eval y)) (hs : ∀ v, AgP x w v → s.p v w) :
    o.wp Tryz.prog a w (fun a' w' => ∃ v, a' = a.put o.dst v ∧ Below w.heap.size w w' ∧ s.p v w') Q := by
  obtain ⟨fa, fc, ga, gc, la, lc, pa, pc, h1, h2, h3⟩ := h
  exact loc_extractR1 ho h1 (hs _ ⟨pa, pc, rfl, h3⟩)
theorem loc_nx2 {y : Operand} (ho : o.op = .extract y 2) {L : (Nat → Prop) × (Nat → Prop)} {x : NX} (h : NxV L x w (a.eval y)) (hs : s.p (.int .i64 x.n) w) :
    o.wp Tryz.prog a w (fun a' w' => ∃ v, a' = a.put o.dst v ∧ Below w.heap.size w w' ∧ s.p v w') Q := by
  obtain ⟨fa, fc, ga, gc, la, lc, pa, pc, h1, h2, h3⟩ := h
  exact loc_extractR2 ho h1 hs
theorem loc_nx3 {y : Operand} (ho : o.op = .extract y 3) {L : (Nat → Prop) × (Nat → Prop)} {x : NX} (h : NxV L x w (a.eval y)) (hs : s.p (.int .i64 x.er) w) :
    o.wp Tryz.prog a w (fun a' w' => ∃ v, a' = a.put o.dst v ∧ Below w.heap.size w w' ∧ s.p v w') Q := by
  obtain ⟨fa, fc, ga, gc, la, lc, pa, pc, h1, h2, h3⟩ := h
  exact loc_extractR3 ho h1 hs
theorem loc_allocRn (ho : o.op = .alloc 37) {N : Nat} (hB : N ≤ w.heap.size) (hs : ∀ v w', RNew N w' v → s.p v w') :
    o.wp Tryz.prog a w (fun a' w' => ∃ v, a' = a.put o.dst v ∧ Below w.heap.size w w' ∧ s.p v w') Q := by
  have hz : (Tryz.prog.info? 37).bind (·.zero) = some (.agg #[.bool false, .string ⟨#[]⟩, .int .i64 0, .string ⟨#[]⟩, .string ⟨#[]⟩, .int .i64 0, .slice none 0 0, .bool false, .slice none 0 0, .int .i64 0, .string ⟨#[]⟩, .int .i64 0, .slice none 0 0, .slice none 0 0, .int .i64 0, .int .i64 0, .int .i64 0, .int .i64 0, .int .i64 0, .int .i64 0, .int .i64 0, .slice none 0 0]) := by kernel_rfl
  refine loc_run (v := .pointer (some ⟨w.heap.size, 0, none⟩)) (w' := w.alloc (.cells #[.bool false, .string ⟨#[]⟩, .int .i64 0, .string ⟨#[]⟩, .string ⟨#[]⟩, .int .i64 0, .slice none 0 0, .bool false, .slice none 0 0, .int .i64 0, .string ⟨#[]⟩, .int .i64 0, .slice none 0 0, .slice none 0 0, .int .i64 0, .int .i64 0, .int .i64 0, .int .i64 0, .int .i64 0, .int .i64 0, .int .i64 0, .slice none 0 0] 37)) ?_ (below_oneF _ _) (hs _ _ ⟨_, rfl, hB, heap_alloc_new _ _⟩)
  cases hq : Tryz.prog.info? 37 with
  | none => rw [hq] at hz; cases hz
  | some i =>
    rw [hq] at hz
    simp only [Option.bind_some] at hz
    unfold execOp
    simp [ho, Instr.alloc, zeroValue, typeInfo, hq, hz, newRow, newVar, Value.cells]
theorem loc_callPx {y1 y2 y3 y4 y5 : Operand} {ts : Array TypeId} (ho : o.op = .call { callee := .value (.func 12), args := #[y1, y2, y3, y4, y5], argTypes := ts }) {L : (Nat → Prop) × (Nat → Prop)} {r : RS} {l : List UInt8} {most body room : Int} {mm : Int} (hok : HdOk w mm) (h1 : AgS L r w (a.eval y1)) (h2 : BytesV w (a.eval y2) l) (h3 : a.eval y3 = .int .i64 most) (h4 : a.eval y4 = .int .i64 body) (h5 : a.eval y5 = .int .i64 room)
    (hl : l.length ≤ 1000000) (hr : OkN body r) (hb0 : 0 ≤ body ∧ body ≤ 1000000000) (hr0 : -1000000000 ≤ room ∧ room ≤ 1000000000) (hL : ∀ k, w.heap.size ≤ k → L.1 k ∧ L.2 k) (hs : ∀ v w', NxV L (nextX r l most body room) w' v → s.p v w') :
    o.wp Tryz.prog a w (fun a' w' => ∃ v, a' = a.put o.dst v ∧ Below w.heap.size w w' ∧ s.p v w') Q := by
  obtain ⟨fa, fc, ga, gc, la, lc, e1, hm⟩ := h1
  obtain ⟨ba, bc, e2, hb⟩ := h2
  refine loc_call (args := [y1, y2, y3, y4, y5]) ho (by kernel_rfl) ?_
  show Calls _ _ #[a.eval y1, a.eval y2, a.eval y3, a.eval y4, a.eval y5] _ _
  rw [e1, e2, h3, h4, h5]
  refine (projNextF_any L.1 r l most body room ba bc fa ga la fc gc lc w mm hb hl hm.m hok hr hb0 hr0 (fun k hk => (hL k hk).1)).mono ?_
  rintro e w' ⟨fa', fc', ga', gc', la', lc', pa, pc, he, hm', hlf, hd, hbb⟩
  exact ⟨_, he, hbb, hs _ _ ⟨fa', fc', ga', gc', la', lc', pa, pc, rfl, ⟨hm', fun y e hx => (hL _ (hlf y e hx)).2⟩, hd⟩⟩
/-- A reader is stored in a new variable. -/
theorem wp_storeRn {K : Act → World → Prop} {y z : Operand} (ho : o.op = .store 37 y z) {N : Nat} {L : (Nat → Prop) × (Nat → Prop)} {r : RS} (h1 : RNew N w (a.eval y)) (h2 : AgS L r w (a.eval z)) (hm : NmS r) (hK : ∀ g cs, a.eval y = .pointer (some ⟨g, 0, none⟩) → N ≤ g → RVr w g #[.bool false, .string ⟨#[]⟩, .int .i64 0, .string ⟨#[]⟩, .string ⟨#[]⟩, .int .i64 0, .slice none 0 0, .bool false, .slice none 0 0, .int .i64 0, .string ⟨#[]⟩, .int .i64 0, .slice none 0 0, .slice none 0 0, .int .i64 0, .int .i64 0, .int .i64 0, .int .i64 0, .int .i64 0, .int .i64 0, .int .i64 0, .slice none 0 0] → RSt N L r (w.setRow g cs) (a.eval y) → K (a.put o.dst undef) (w.setRow g cs)) : o.wp Tryz.prog a w K Q := by
  obtain ⟨g, e1, hN, hg⟩ := h1
  obtain ⟨fa, fc, ga, gc, la, lc, e2, h3⟩ := h2
  refine wp_store_row 37 _ _ ho g #[.bool r.rep, .string r.meth, .int .i64 r.ph, .string r.m, .string r.t, .int .i64 r.z, .slice fa (List.length r.xs) fc, .bool r.fr, .slice none 0 0, .int .i64 r.st, .string r.rs, .int .i64 r.z2, .slice ga (List.length r.ys) gc, .slice none 0 0, .int .i64 r.fk, .int .i64 r.fl, .int .i64 r.left, .int .i64 r.size, .int .i64 r.ck.ph, .int .i64 r.ck.left, .int .i64 r.ck.tr, .slice la (List.length r.ck.line) lc] e1 e2 37 _ hg sizeRd rfl (oneRd ..) ?_
  refine hK g _ e1 hN hg ?_
  rw [e1]
  exact ⟨g, rfl, hN, fa, fc, ga, gc, la, lc, setRow_heap _ _ _ _ _ _ hg, h3.rowZ hm hg zero_noStr zero_noU8⟩
end
end Go.Proofs.YteoadfckcilalaaGreatDoor
namespace Go.Proofs.YteoadfckcilalaaGreatDoor
open Go.RowKit

set_option linter.unusedVariables false
theorem fldsIn_twoW (w : World) (a b c d : ByteArray) : FldsIn (w.alloc (.cells #[.string a, .string b, .string c, .string d] 88)) (some ⟨w.heap.size, 0, none⟩) [(a, b), (c, d)] := fun j hj => by
  match j, hj with
  | 0, _ => exact ⟨_, rfl, by rw [Addr.add_lit, new_cellF]; rfl, by rw [Addr.add_lit, new_cellF]; rfl⟩
  | 1, _ => exact ⟨_, rfl, by rw [Addr.add_lit, new_cellF]; rfl, by rw [Addr.add_lit, new_cellF]; rfl⟩
/-- A made reply comes back. -/
def RetMk (w : World) (st : Int) (kind body : ByteArray) (more : List Fld) (e : Ending) (w' : World) : Prop :=
  ∃ fa fc ba bc, e = .returned (.agg #[.int .i64 st, .string (reasS st), .int .i64 1, .slice fa (List.length (makeX kind body.size ++ more)) fc, .slice ba (List.length body.data.toList) bc]) ∧
    FldsIn w' fa (makeX kind body.size ++ more) ∧ IsBytes w' ba body.data.toList bc ∧ Below w.heap.size w w'
set_option maxRecDepth 100000 in
set_option maxHeartbeats 2000000 in
theorem projMake_any (st : Int) (kind body : ByteArray) (more : List Fld) (ma : Option Addr) (mc : Nat) (w : World) (hbz : body.size ≤ 4000000000) (hm : FldsC w ma more mc) (hml : more.length ≤ 1000000) (ht : Tabs w) (hr : ReasT w) :
    Calls Tryz.prog 51 #[.int .i64 st, .string kind, .string body, .slice ma more.length mc] w (RetMk w st kind body more) := by
  obtain ⟨W1, hW1⟩ : ∃ W1, W1 = w.alloc (.cells #[.int .i64 0, .string ⟨#[]⟩, .int .i64 0, .slice none 0 0, .slice none 0 0] 31) := ⟨_, rfl⟩
  have HB1 := Box.mk (show Below w.heap.size w W1 by rw [hW1]; exact below_oneF _ _)
  have HA1 := Box.mk (show W1.heap[w.heap.size]? = some (.cells #[.int .i64 0, .string ⟨#[]⟩, .int .i64 0, .slice none 0 0, .slice none 0 0] 31 (0, 0)) by rw [hW1]; exact heap_alloc_new _ _)
  have HT := Box.mk ht
  have HR := Box.mk hr
  have HM := Box.mk hm
  have HBZ := Box.mk hbz
  have HML := Box.mk hml
  have HW1 := Box.mk hW1
  clear hm hml ht hr hW1 hbz
  go_enter Tryz.func51, Tryz.ntmps51
  go_upto_region 1 with fail
  rw [← HW1.out]
  clear HW1
  go_wp2_with fail
  refine (decimal_any (body.size : Int) W1 (by omega) (by have := HBZ.out; omega) (tabs_below HT.out HB1.out)).mono ?_
  rintro e w2 ⟨rfl, hb2⟩
  obtain ⟨W3, hW3⟩ : ∃ W3, W3 = w2.alloc (.cells #[.string ctWr, .string kind, .string clWr, .string (fmtS 10 (body.size : Int))] 88) := ⟨_, rfl⟩
  have hb23 : Below w2.heap.size w2 W3 := by rw [hW3]; exact below_oneF _ _
  have hb13 := below_trans hb2 hb23
  have HB3 := Box.mk (below_trans HB1.out hb13)
  have HA3 := Box.mk ((hb13.block _ (lt_row HA1.out)).trans HA1.out)
  have HF3 := Box.mk (show FldsC W3 (some ⟨w2.heap.size, 0, none⟩) (makeX kind body.size) 2 by rw [hW3]; exact ⟨fldsIn_twoW w2 ctWr kind clWr (fmtS 10 (body.size : Int)), fun e => by cases e⟩)
  have HW3 := Box.mk hW3
  clear hb2 hb23 hb13 hW3 HB1 HA1
  go_upto_region 2 with fail
  change Code.wp _ _ _ _ (w2.alloc (.cells #[.string ctWr, .string kind, .string clWr, .string (fmtS 10 (body.size : Int))] 88))
  rw [← HW3.out]
  clear HW3
  go_wp2_with fail
  refine (projReason_any st W3 (HR.out.keep HB3.out)).mono ?_
  rintro e w4 ⟨rfl, hb4⟩
  have HB4 := Box.mk (below_trans HB3.out hb4)
  have HA4 := Box.mk ((hb4.block _ (lt_row HA3.out)).trans HA3.out)
  have HF4 := Box.mk (HF3.out.keep hb4)
  clear hb4 HB3 HA3 HF3
  go_wp2_with fail
  refine (fWith_any (makeX kind body.size) more _ ma 2 mc w4 HF4.out (HM.out.keep HB4.out) (by show 2 ≤ _; decide) HML.out).mono ?_
  rintro e w5 ⟨fa, fc, he, hf5, hb5⟩
  obtain ⟨N, hN⟩ : ∃ N, N = List.length (makeX kind body.size ++ more) := ⟨_, rfl⟩
  rw [← hN] at he
  subst he
  have HN := Box.mk hN
  have hcvb := fun W => Lib.run_convert_string_bytes (P := Tryz.prog) W 9 23 5 body Tryz.underlying9 Tryz.underlying23 Tryz.underlying5
  have hb56 : Below w5.heap.size w5 (Lib.bytesWorld w5 5 body) := below_convH _ _ _
  have HB6 := Box.mk (below_trans (below_trans HB4.out hb5) hb56)
  have HA6 := Box.mk (((below_trans hb5 hb56).block _ (lt_row HA4.out)).trans HA4.out)
  have HF6 := Box.mk (hf5.keep hb56)
  have HI6 := Box.mk (isBytes_bytesWorld w5 body HBZ.out)
  have HB7 := Box.mk (below_setRow HB6.out (Nat.le_refl _) #[.int .i64 st, .string (reasS st), .int .i64 1, .slice fa N fc, .slice (some ⟨w5.heap.size, 0, none⟩) body.size (grownCap w5 body.size 0 5)])
  clear hb5 hf5 hb56 HB4 HA4 HF4 hN
  go_wp2_with (refine wpList_store_row rfl 31 _ _ rfl w.heap.size #[.int .i64 st, .string (reasS st), .int .i64 1, .slice fa N fc, .slice (some ⟨w5.heap.size, 0, none⟩) body.size (grownCap w5 body.size 0 5)] rfl rfl 31 _ HA6.out sizeA rfl (by simp [Value.oneCell']) ?_)
  (try simp only [Exit.inBlock, Exit.then])
  refine bodyPost_ret (results_r rfl _ _ w.heap.size 31 #[.int .i64 st, .string (reasS st), .int .i64 1, .slice fa N fc, .slice (some ⟨w5.heap.size, 0, none⟩) body.size (grownCap w5 body.size 0 5)] (0, 0) _ rfl (setRow_heap _ _ _ _ _ _ HA6.out) Tryz.underlying31 rfl sizeA) rfl ?_
  refine ⟨fa, fc, some ⟨w5.heap.size, 0, none⟩, grownCap w5 body.size 0 5, by rw [← HN.out]; rfl, ?_, ?_, HB7.out⟩
  · exact HF6.out.same fun y e => setRow_other _ _ _ _ (flds_away HA6.out (noStr_of rfl) (HF6.out.take 1) (by intro f hf; obtain rfl := List.mem_singleton.1 hf; show ¬ ctWr.size = 0; decide) y e (by simp [makeX]))
  · exact isBytes_rowR HA6.out (noU8_22 rfl) HI6.out
set_option maxRecDepth 100000 in
set_option maxHeartbeats 2000000 in
theorem projText_any (st : Int) (body : ByteArray) (more : List Fld) (ma : Option Addr) (mc : Nat) (w : World) (hbz : body.size ≤ 4000000000) (hm : FldsC w ma more mc) (hml : more.length ≤ 1000000) (ht : Tabs w) (hr : ReasT w) :
    Calls Tryz.prog 27 #[.int .i64 st, .string body, .slice ma more.length mc] w (RetMk w st txtWr body more) := by
  obtain ⟨W1, hW1⟩ : ∃ W1, W1 = w.alloc (.cells #[.int .i64 0, .string ⟨#[]⟩, .int .i64 0, .slice none 0 0, .slice none 0 0] 31) := ⟨_, rfl⟩
  have HB1 := Box.mk (show Below w.heap.size w W1 by rw [hW1]; exact below_oneF _ _)
  have HA1 := Box.mk (show W1.heap[w.heap.size]? = some (.cells #[.int .i64 0, .string ⟨#[]⟩, .int .i64 0, .slice none 0 0, .slice none 0 0] 31 (0, 0)) by rw [hW1]; exact heap_alloc_new _ _)
  have HCALL := Box.mk (projMake_any st txtWr body more ma mc W1 hbz (hm.keep HB1.out) hml (tabs_below ht HB1.out) (hr.keep HB1.out))
  have HW1 := Box.mk hW1
  clear hm hml ht hr hW1 hbz
  go_enter Tryz.func27, Tryz.ntmps27
  go_upto_region 1 with fail
  rw [← HW1.out]
  clear HW1
  go_wp2_with fail
  refine HCALL.out.mono ?_
  rintro e w2 ⟨fa, fc, ba, bc, he, hf2, hi2, hb2⟩
  obtain ⟨cr, hcr⟩ : ∃ cr : Array Value, cr = #[.int .i64 st, .string (reasS st), .int .i64 1, .slice fa (List.length (makeX txtWr body.size ++ more)) fc, .slice ba (List.length body.data.toList) bc] := ⟨_, rfl⟩
  rw [← hcr] at he
  subst he
  have HCR := Box.mk hcr
  have hcr5 : cr.size = 5 := by rw [hcr]; rfl
  have hcr1 : cr.all (·.oneCell') = true := by rw [hcr]; simp [Value.oneCell']
  have HSA := Box.mk (show (Tryz.prog.info? 31).map (·.size) = some cr.size by rw [hcr5]; exact sizeA)
  have HB2 := Box.mk (below_trans HB1.out hb2)
  have HA2 := Box.mk ((hb2.block _ (lt_row HA1.out)).trans HA1.out)
  have HF2 := Box.mk hf2
  have HI2 := Box.mk hi2
  have HB3 := Box.mk (below_setRow HB2.out (Nat.le_refl _) cr)
  clear hf2 hi2 hb2 HCALL HB1 HA1 hcr
  go_wp2_with (refine wpList_store_row rfl 31 _ _ rfl w.heap.size cr rfl rfl 31 _ HA2.out HSA.out hcr5.symm hcr1 ?_)
  (try simp only [Exit.inBlock, Exit.then])
  refine bodyPost_ret (results_r rfl _ _ w.heap.size 31 cr (0, 0) _ rfl (setRow_heap _ _ _ _ _ _ HA2.out) Tryz.underlying31 rfl HSA.out) rfl ?_
  refine ⟨fa, fc, ba, bc, by rw [HCR.out], ?_, ?_, HB3.out⟩
  · exact HF2.out.same fun y e => setRow_other _ _ _ _ (flds_away HA2.out (noStr_of rfl) (HF2.out.take 1) (by intro f hf; obtain rfl := List.mem_singleton.1 hf; decide) y e (by simp [makeX]))
  · exact isBytes_rowR HA2.out (noU8_22 rfl) HI2.out
def awN : ByteArray := ⟨#[110, 111, 10]⟩
def awX : List Fld := [(ctWr, txtWr), (clWr, ⟨#[51]⟩), (⟨#[88]⟩, ⟨#[121]⟩)]
theorem awX_eq : makeX txtWr awN.size ++ [((⟨#[88]⟩ : ByteArray), (⟨#[121]⟩ : ByteArray))] = awX := by
  have h : fmtS 10 ((3 : Nat) : Int) = ⟨#[51]⟩ := by decide +kernel
  show [(ctWr, txtWr), (clWr, fmtS 10 ((3 : Nat) : Int)), _] = _
  rw [h]; rfl
theorem awR_eq : reasS 404 = ⟨#[78, 111, 116, 32, 70, 111, 117, 110, 100]⟩ := by decide +kernel
theorem awF_small : SmallF awX := fun f hf => by
  unfold awX at hf
  simp only [List.mem_cons, List.not_mem_nil, or_false] at hf
  rcases hf with rfl | rfl | rfl <;> exact ⟨by decide, by decide⟩
def awB : List UInt8 := wrB (headB (fmtRep 404 ⟨#[78, 111, 116, 32, 70, 111, 117, 110, 100]⟩ 1) awX) [110, 111, 10]
theorem awB_eq : awB = [72, 84, 84, 80, 47, 49, 46, 49, 32, 52, 48, 52, 32, 78, 111, 116, 32, 70, 111, 117, 110, 100, 13, 10, 67, 111, 110, 116, 101, 110, 116, 45, 84, 121, 112, 101, 58, 32, 116, 101, 120, 116, 47, 112, 108, 97, 105, 110, 13, 10, 67, 111, 110, 116, 101, 110, 116, 45, 76, 101, 110, 103, 116, 104, 58, 32, 51, 13, 10, 88, 58, 32, 121, 13, 10, 13, 10, 110, 111, 10] := by decide +kernel
theorem awH_len : (headB (fmtRep 404 ⟨#[78, 111, 116, 32, 70, 111, 117, 110, 100]⟩ 1) awX).length + [(110 : UInt8), 111, 10].length ≤ 1000000000 := by
  have : (headB (fmtRep 404 ⟨#[78, 111, 116, 32, 70, 111, 117, 110, 100]⟩ 1) awX).length = 77 := by decide +kernel
  rw [this]; decide
theorem awS_len : (fmtRep 404 ⟨#[78, 111, 116, 32, 70, 111, 117, 110, 100]⟩ 1).size ≤ 3000000000 := by
  have : (fmtRep 404 ⟨#[78, 111, 116, 32, 70, 111, 117, 110, 100]⟩ 1).size = 22 := by decide +kernel
  omega
set_option maxRecDepth 100000 in
set_option maxHeartbeats 2000000 in
theorem awakeW_any (w : World) (ht : Tabs w) (hr : ReasT w) : Calls Tryz.prog 22 #[] w fun e w' => e = .returned (.bool true) ∧ Below w.heap.size w w' := by
  obtain ⟨W1, hW1⟩ : ∃ W1, W1 = w.alloc (.cells #[.string ⟨#[88]⟩, .string ⟨#[121]⟩] 88) := ⟨_, rfl⟩
  have HB1 := Box.mk (show Below w.heap.size w W1 by rw [hW1]; exact below_oneF _ _)
  have HF1 := Box.mk (show FldsC W1 (some ⟨w.heap.size, 0, none⟩) [((⟨#[88]⟩ : ByteArray), (⟨#[121]⟩ : ByteArray))] 1 by rw [hW1]; exact ⟨fldsIn_one w _ _, fun e => by cases e⟩)
  have HCALL := Box.mk (projText_any 404 awN [((⟨#[88]⟩ : ByteArray), (⟨#[121]⟩ : ByteArray))] (some ⟨w.heap.size, 0, none⟩) 1 W1 (by decide) HF1.out (by decide) (tabs_below ht HB1.out) (hr.keep HB1.out))
  have HT := Box.mk ht
  have HW1 := Box.mk hW1
  clear ht hr hW1
  go_enter Tryz.func22, Tryz.ntmps22
  go_wp2_with fail
  change Calls _ _ _ (w.alloc (.cells #[.string ⟨#[88]⟩, .string ⟨#[121]⟩] 88)) _
  rw [← HW1.out]
  clear HW1
  refine HCALL.out.mono ?_
  rintro e w2 ⟨fa, fc, ba, bc, he, hf2, hi2, hb2⟩
  rw [awX_eq] at he hf2
  rw [awR_eq] at he
  simp only [show List.length awX = 3 from rfl, show List.length awN.data.toList = 3 from rfl] at he
  rw [show awN.data.toList = [110, 111, 10] from rfl] at hi2
  subst he
  obtain ⟨fb, fo, fn, rfl⟩ : ∃ b o n, fa = some ⟨b, o, n⟩ := by
    obtain ⟨⟨b, o, n⟩, e, _⟩ := hf2 0 (by decide)
    exact ⟨b, o, n, e⟩
  obtain ⟨W3, hW3⟩ : ∃ W3, W3 = (w2.alloc (.cells #[.int .i64 0, .string ⟨#[]⟩, .int .i64 0, .slice none 0 0, .slice none 0 0] 31)).setRow w2.heap.size #[.int .i64 404, .string ⟨#[78, 111, 116, 32, 70, 111, 117, 110, 100]⟩, .int .i64 1, .slice (some ⟨fb, fo, fn⟩) 3 fc, .slice ba 3 bc] := ⟨_, rfl⟩
  have HV2 := Box.mk (show (w2.alloc (.cells #[.int .i64 0, .string ⟨#[]⟩, .int .i64 0, .slice none 0 0, .slice none 0 0] 31)).heap[w2.heap.size]? = some (.cells #[.int .i64 0, .string ⟨#[]⟩, .int .i64 0, .slice none 0 0, .slice none 0 0] 31 (0, 0)) from heap_alloc_new _ _)
  have hb23 : Below w2.heap.size w2 W3 := by rw [hW3]; exact below_setRow (below_oneF _ _) (Nat.le_refl _) _
  have HA3 := Box.mk (show W3.heap[w2.heap.size]? = some (.cells #[.int .i64 404, .string ⟨#[78, 111, 116, 32, 70, 111, 117, 110, 100]⟩, .int .i64 1, .slice (some ⟨fb, fo, fn⟩) 3 fc, .slice ba 3 bc] 31 (0, 0)) by rw [hW3]; exact setRow_heap _ _ _ _ _ _ HV2.out)
  have HB3 := Box.mk (below_trans (below_trans HB1.out hb2) hb23)
  have HF3 := Box.mk (hf2.keep hb23)
  have HI3 := Box.mk (hi2.keep hb23)
  have k1 : W3.cell? ⟨w2.heap.size, 1, none⟩ = some (.string ⟨#[78, 111, 116, 32, 70, 111, 117, 110, 100]⟩) := by rw [cell_of_row _ _ _ _ _ _ HA3.out]; rfl
  have k0 : W3.cell? ⟨w2.heap.size, 0, none⟩ = some (.int .i64 404) := by rw [cell_of_row _ _ _ _ _ _ HA3.out]; rfl
  have k2 : W3.cell? ⟨w2.heap.size, 2, none⟩ = some (.int .i64 1) := by rw [cell_of_row _ _ _ _ _ _ HA3.out]; rfl
  have k4 : W3.cell? ⟨w2.heap.size, 4, none⟩ = some (.slice ba 3 bc) := by rw [cell_of_row _ _ _ _ _ _ HA3.out]; rfl
  have k3 : W3.cell? ⟨w2.heap.size, 3, none⟩ = some (.slice (some ⟨fb, fo, fn⟩) 3 fc) := by rw [cell_of_row _ _ _ _ _ _ HA3.out]; rfl
  obtain ⟨c2, c3⟩ : W3.cell? ⟨fb, fo + 2, none⟩ = some (.string ⟨#[67, 111, 110, 116, 101, 110, 116, 45, 76, 101, 110, 103, 116, 104]⟩) ∧ W3.cell? ⟨fb, fo + 2 + 1, none⟩ = some (.string ⟨#[51]⟩) := by
    obtain ⟨f2, e2, c2, c3⟩ := HF3.out 1 (by decide)
    obtain rfl := Option.some.inj e2
    exact ⟨c2, c3⟩
  have HCALL2 := Box.mk (show Calls Tryz.prog 25 #[.agg #[.int .i64 404, .string ⟨#[78, 111, 116, 32, 70, 111, 117, 110, 100]⟩, .int .i64 1, .slice (some ⟨fb, fo, fn⟩) 3 fc, .slice ba 3 bc]] W3 (RetHdO W3 awB) from projRep_any 404 ⟨#[78, 111, 116, 32, 70, 111, 117, 110, 100]⟩ 1 awX [110, 111, 10] (some ⟨fb, fo, fn⟩) ba fc bc 0 W3 (by decide) HF3.out awF_small (by decide) awS_len HI3.out awH_len (tabs_below HT.out HB3.out))
  have HW3 := Box.mk hW3
  clear hf2 hi2 hb2 hb23 hW3 HCALL HB1 HF1
  go_upto_region 2 with (refine wpList_store_row rfl 31 _ _ rfl w2.heap.size #[.int .i64 404, .string ⟨#[78, 111, 116, 32, 70, 111, 117, 110, 100]⟩, .int .i64 1, .slice (some ⟨fb, fo, fn⟩) 3 fc, .slice ba 3 bc] rfl rfl 31 _ HV2.out sizeA rfl (by simp [Value.oneCell']) ?_)
  rw [← HW3.out]
  clear HW3
  go_wp2_with fail
  refine HCALL2.out.mono ?_
  rintro e w4 ⟨v, rfl, ho, hb4⟩
  obtain ⟨a5, c5, rfl, hib⟩ := ho.form
  have hcv := conv_bytes hib
  have hl : awB.length = 80 := by rw [awB_eq]; rfl
  rw [hl] at hcv ⊢
  rw [awB_eq] at hcv
  clear hl
  have HB4 := Box.mk (below_trans HB3.out hb4)
  clear ho hb4 hib HCALL2 HA3 HF3 HI3 HV2 k0 k1 k2 k3 k4 c2 c3
  go_wp2_with fail
  go_ret
  exact ⟨rfl, HB4.out⟩
end Go.Proofs.YteoadfckcilalaaGreatDoor
