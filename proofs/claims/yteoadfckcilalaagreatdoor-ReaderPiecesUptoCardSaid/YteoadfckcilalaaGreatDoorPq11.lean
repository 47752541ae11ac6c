/- The project's reader: copyOf. The project's reader: Next. Finish, the first readers. A region that draws its order, in phases, where an operation may read a slot that a later one writes. wire of the laws on heads, walked. The laws HeadEnd and HeadGrows. Reading a message in pieces: what comes out does not depend on the pieces. The law FieldLine. A formatted head is parsed to what it was made of: plain mathematics. -/
import Derived.Test.YteoadfckcilalaaGreatDoorPq1
import Derived.Test.YteoadfckcilalaaGreatDoorPq2
import Derived.Test.YteoadfckcilalaaGreatDoorPq3
import Derived.Test.YteoadfckcilalaaGreatDoorPq4
import Derived.Test.YteoadfckcilalaaGreatDoorPq5
import Derived.Test.YteoadfckcilalaaGreatDoorPq6
import Derived.Test.YteoadfckcilalaaGreatDoorPq7
import Derived.Test.YteoadfckcilalaaGreatDoorPq8
import Derived.Test.YteoadfckcilalaaGreatDoorPq9
import Derived.Test.YteoadfckcilalaaGreatDoorPq10
import Derived.Test.YteoadfckcilalaaGreatDoorRows
import Derived.WalkKit
import Derived.WalkSpells
import Derived.WalkLawsBesides
import Derived.BigQuiet
import Derived.Deep.QuietTactic
import Derived.Lib.Bytealg
import Derived.Lib.IndexLaws
import Derived.Lib.Hide
import Derived.Laws.IdiomStrings
import Derived.Lib.SlTrimSet
import Derived.Lib.IndexBytes
import Derived.Lib.Split
import Derived.Deep.AppendLies
import Derived.Shelf.Strings.SlTrimAscii
import Derived.Shelf.Strings.SplitShaped
import Derived.Shelf.LaysM
import Derived.Shelf.Strings.BuilderK
import Derived.Shelf.Strconv.Itoa4
import Derived.Shelf.Strings.Prefix
import Derived.Shelf.Bytes.SlIndexWhole
import Derived.Test.YteoadfckcilalaaGreatDoorProg
import Derived.Lib.SplitLaws
import Derived.WalkSmall
import Derived.ProofKit
import Derived.OpenShut
import Derived.Lib.Strings
import Derived.SliceStrings
import Derived.Deep.Quiet
import Derived.Tactics
import Derived.KernelRfl
import Derived.Below
import Derived.Laws.Bits64
import Derived.Lib.SlBytesConst
import Derived.Maps.AppendAt
import Derived.Laws.AppendOwnNone
import Derived.Great.BuildSlice
import Derived.Laws.Rows
import Derived.Laws.BitsAllLaws
import Derived.Laws.Shifts
import Derived.Maps.OwnOps
import Derived.Maps.OwnSet
import Derived.Deep.SlicePairs
import Derived.Lib.AppendZerosOnto
import Derived.Lib.AppendStr
import Derived.Laws.CopyOwn
import Derived.OwnWalk
import Derived.Laws.Strings3
import Derived.Laws.Concat
import Derived.Lib.ItoaMem
import Derived.Deep.RegionHeld3
import Derived.IntWalk
import Derived.Laws.RangeAny
import Derived.LoopTactic
import Derived.Sort.Grow
import Derived.Lib.ConvBytes
import Derived.Deep.DeepCutAuto
import Derived.Deep.MidRow
import Derived.Laws.Tables
import Derived.Deep.WholeRow
import Derived.StillTailTactics
import Derived.Deep.CutBlock
import Derived.Lib.LaidTab
import Derived.LaidSub
import Derived.Laws.Bits64b
import Derived.Lib.FrozenHead2
import Derived.Deep.Matrix
import Derived.Lib.LazyBuf
import Derived.ArgAppend
namespace Go.Proofs.YteoadfckcilalaaGreatDoor
open Go.RowKit

set_option linter.unusedVariables false
set_option maxRecDepth 100000 in
set_option maxHeartbeats 4000000 in
theorem cloneY_nil (w : World) : Calls Tryz.prog 56 #[.slice none 0 0] w fun e w' => e = .returned (.slice none 0 0) ∧ w = w' := by
 have hnil : ∀ W, (binOp .eql 23 (.slice none 0 0) (.slice none 0 0)).run Tryz.prog W = .ok (.bool true) W := fun W => run_eql_slice_nil W _ _ none 0 0 Tryz.underlying23
 go_enter Tryz.func56, Tryz.ntmps56
 go_wp2_with fail
 go_ret
 exact ⟨rfl, rfl⟩
set_option maxRecDepth 100000 in
set_option maxHeartbeats 4000000 in
theorem copyOf_any (B : Nat → Prop) (s : RS) (fa ga la : Option Addr) (fc gc lc : Nat) (w : World) (hm : RMem B w s fa ga la lc) (hs : OkR s) :
  Calls Tryz.prog 36 #[.agg #[.bool s.rep, .string s.meth, .int .i64 s.ph, .string s.m, .string s.t, .int .i64 s.z, .slice fa (List.length s.xs) fc, .bool s.fr, .slice none 0 0, .int .i64 s.st, .string s.rs, .int .i64 s.z2, .slice ga (List.length s.ys) gc, .slice none 0 0, .int .i64 s.fk, .int .i64 s.fl, .int .i64 s.left, .int .i64 s.size, .int .i64 s.ck.ph, .int .i64 s.ck.left, .int .i64 s.ck.tr, .slice la (List.length s.ck.line) lc]] w fun e w' => ∃ f1 d1 f3 d3 f5 d5, e = .returned (.agg #[.bool s.rep, .string s.meth, .int .i64 s.ph, .string s.m, .string s.t, .int .i64 s.z, .slice f1 (List.length s.xs) d1, .bool s.fr, .slice none 0 0, .int .i64 s.st, .string s.rs, .int .i64 s.z2, .slice f3 (List.length s.ys) d3, .slice none 0 0, .int .i64 s.fk, .int .i64 s.fl, .int .i64 s.left, .int .i64 s.size, .int .i64 s.ck.ph, .int .i64 s.ck.left, .int .i64 s.ck.tr, .slice f5 (List.length s.ck.line) d5]) ∧ RMem (fun k => w.heap.size ≤ k) w' s f1 f3 f5 d5 ∧ (∀ y, f5 = some y → w.heap.size ≤ y.block) ∧ Below w.heap.size w w' := by
 obtain ⟨cs, hcs⟩ : ∃ cs : Array Value, cs = #[.bool s.rep, .string s.meth, .int .i64 s.ph, .string s.m, .string s.t, .int .i64 s.z, .slice fa (List.length s.xs) fc, .bool s.fr, .slice none 0 0, .int .i64 s.st, .string s.rs, .int .i64 s.z2, .slice ga (List.length s.ys) gc, .slice none 0 0, .int .i64 s.fk, .int .i64 s.fl, .int .i64 s.left, .int .i64 s.size, .int .i64 s.ck.ph, .int .i64 s.ck.left, .int .i64 s.ck.tr, .slice la (List.length s.ck.line) lc] := ⟨_, rfl⟩
 have HCS := Box.mk hcs
 have hcs1 : cs.all (·.oneCell') = true := by rw [hcs]; exact oneRd ..
 rw [← hcs]
 clear hcs
 obtain ⟨W0, hW0⟩ : ∃ W0, W0 = (w.alloc (.cells cs 37)).alloc (.cells #[.bool false, .string ⟨#[]⟩, .int .i64 0, .string ⟨#[]⟩, .string ⟨#[]⟩, .int .i64 0, .slice none 0 0, .bool false, .slice none 0 0, .int .i64 0, .string ⟨#[]⟩, .int .i64 0, .slice none 0 0, .slice none 0 0, .int .i64 0, .int .i64 0, .int .i64 0, .int .i64 0, .int .i64 0, .int .i64 0, .int .i64 0, .slice none 0 0] 37) := ⟨_, rfl⟩
 have HB0 := Box.mk (show Below w.heap.size w W0 by rw [hW0]; exact below_twoF (below_oneF _ _) _)
 have HV0 := Box.mk (show RVr W0 w.heap.size cs by rw [hW0]; exact RVr.keep (heap_alloc_new w (.cells cs 37)) (below_oneF _ _))
 have HR0 := Box.mk (show RVr W0 (w.heap.size + 1) #[.bool false, .string ⟨#[]⟩, .int .i64 0, .string ⟨#[]⟩, .string ⟨#[]⟩, .int .i64 0, .slice none 0 0, .bool false, .slice none 0 0, .int .i64 0, .string ⟨#[]⟩, .int .i64 0, .slice none 0 0, .slice none 0 0, .int .i64 0, .int .i64 0, .int .i64 0, .int .i64 0, .int .i64 0, .int .i64 0, .int .i64 0, .slice none 0 0] by
  have h := heap_alloc_new (w.alloc (.cells cs 37)) (.cells #[.bool false, .string ⟨#[]⟩, .int .i64 0, .string ⟨#[]⟩, .string ⟨#[]⟩, .int .i64 0, .slice none 0 0, .bool false, .slice none 0 0, .int .i64 0, .string ⟨#[]⟩, .int .i64 0, .slice none 0 0, .slice none 0 0, .int .i64 0, .int .i64 0, .int .i64 0, .int .i64 0, .int .i64 0, .int .i64 0, .int .i64 0, .slice none 0 0] 37)
  rw [World.size_alloc] at h
  rw [hW0]; exact h)
 have HW0 := Box.mk hW0
 have HM := Box.mk hm
 have hx64 := hs.xs.2
 have hy64 := hs.ys.2
 have hlw : w.heap.size + 1 < W0.heap.size := HR0.out.lt
 have hln : s.ck.line.length ≤ 129 := hs.ck.len
 clear hW0 hm hs
 go_enter Tryz.func36, Tryz.ntmps36
 go_upto_region 1 with fail
 rw [← HW0.out]
 clear HW0
 have hv1 : W0.cell? ⟨w.heap.size, 6, none⟩ = some (.slice fa (List.length s.xs) fc) := by rw [RVr.cell HV0.out, HCS.out]; rfl
 go_wp2_with fail
 refine (cloneF_any s.xs fa fc W0 (HM.out.f1.keep HB0.out) (by omega)).mono ?_
 rintro e w1c ⟨f1, d1, rfl, hf1, hn1, hb1⟩
 have hv1b : w1c.cell? ⟨w.heap.size, 6, none⟩ = some (.slice fa (List.length s.xs) fc) := by rw [RVr.cell (HV0.out.keep hb1), HCS.out]; rfl
 have hz1b : w1c.frozen? ⟨w.heap.size, 6, none⟩ = false := frozen_of_row w1c _ 6 _ _ (HV0.out.keep hb1)
 clear hv1
 go_upto_region 2 with (refine wpList_store_slice rfl _ _ _ rfl rfl rfl (by kernel_rfl) hv1b hz1b ?_)
 obtain ⟨c1, hc1⟩ : ∃ y0 : Array Value, y0 = #[.bool s.rep, .string s.meth, .int .i64 s.ph, .string s.m, .string s.t, .int .i64 s.z, .slice f1 (List.length s.xs) d1, .bool s.fr, .slice none 0 0, .int .i64 s.st, .string s.rs, .int .i64 s.z2, .slice ga (List.length s.ys) gc, .slice none 0 0, .int .i64 s.fk, .int .i64 s.fl, .int .i64 s.left, .int .i64 s.size, .int .i64 s.ck.ph, .int .i64 s.ck.left, .int .i64 s.ck.tr, .slice la (List.length s.ck.line) lc] := ⟨_, rfl⟩
 have Hc1 := Box.mk hc1
 clear hc1
 obtain ⟨W1, hW1⟩ : ∃ W1, W1 = w1c.setCell ⟨w.heap.size, 6, none⟩ (.slice f1 (List.length s.xs) d1) := ⟨_, rfl⟩
 have HV1 := Box.mk (show RVr W1 w.heap.size c1 by rw [hW1]; have h := RVr.put (i := 6) (v := .slice f1 (List.length s.xs) d1) (HV0.out.keep hb1); rw [show cs.setIfInBounds 6 (.slice f1 (List.length s.xs) d1) = c1 by rw [HCS.out, Hc1.out]; rfl] at h; exact h)
 have hoth1 : ∀ k, k ≠ w.heap.size → W1.heap[k]? = w1c.heap[k]? := fun k hk => by rw [hW1]; exact heap_setCell_other _ _ _ _ (by show k ≠ w.heap.size; exact hk)
 have HR1 := Box.mk (show RVr W1 (w.heap.size + 1) #[.bool false, .string ⟨#[]⟩, .int .i64 0, .string ⟨#[]⟩, .string ⟨#[]⟩, .int .i64 0, .slice none 0 0, .bool false, .slice none 0 0, .int .i64 0, .string ⟨#[]⟩, .int .i64 0, .slice none 0 0, .slice none 0 0, .int .i64 0, .int .i64 0, .int .i64 0, .int .i64 0, .int .i64 0, .int .i64 0, .int .i64 0, .slice none 0 0] from (hoth1 _ (by omega)).trans (HR0.out.keep hb1))
 have HB1 := Box.mk (show Below w.heap.size w W1 by rw [hW1]; exact (below_trans HB0.out hb1).setCell (p := ⟨w.heap.size, 6, none⟩) (Nat.le_refl _) _)
 have hlw1 : w.heap.size + 1 < W1.heap.size := HR1.out.lt
 have HF1_1 := Box.mk (show FldsIn W1 f1 s.xs ∧ ∀ y, f1 = some y → w.heap.size + 1 < y.block from ⟨hf1.same fun y e => hoth1 _ (by have := hn1 y e; omega), fun y e => by have := hn1 y e; omega⟩)
 rw [← hW1]
 clear hW1 hv1b hz1b hoth1 HV0 HR0 HB0 hb1 hf1 hn1
 have hv2 : W1.cell? ⟨w.heap.size, 8, none⟩ = some (.slice none 0 0) := by rw [RVr.cell HV1.out, Hc1.out]; rfl
 go_wp2_with fail
 refine (cloneY_nil W1).mono ?_
 rintro e w2c ⟨rfl, hww2⟩
 have hb2 : Below W1.heap.size W1 w2c := by rw [← hww2]; exact Below.refl _ _
 clear hww2
 have hv2b : w2c.cell? ⟨w.heap.size, 8, none⟩ = some (.slice none 0 0) := by rw [RVr.cell (HV1.out.keep hb2), Hc1.out]; rfl
 have hz2b : w2c.frozen? ⟨w.heap.size, 8, none⟩ = false := frozen_of_row w2c _ 8 _ _ (HV1.out.keep hb2)
 clear hv2
 go_upto_region 3 with (refine wpList_store_slice rfl _ _ _ rfl rfl rfl (by kernel_rfl) hv2b hz2b ?_)
 obtain ⟨c2, hc2⟩ : ∃ y0 : Array Value, y0 = #[.bool s.rep, .string s.meth, .int .i64 s.ph, .string s.m, .string s.t, .int .i64 s.z, .slice f1 (List.length s.xs) d1, .bool s.fr, .slice none 0 0, .int .i64 s.st, .string s.rs, .int .i64 s.z2, .slice ga (List.length s.ys) gc, .slice none 0 0, .int .i64 s.fk, .int .i64 s.fl, .int .i64 s.left, .int .i64 s.size, .int .i64 s.ck.ph, .int .i64 s.ck.left, .int .i64 s.ck.tr, .slice la (List.length s.ck.line) lc] := ⟨_, rfl⟩
 have Hc2 := Box.mk hc2
 clear hc2
 obtain ⟨W2, hW2⟩ : ∃ W2, W2 = w2c.setCell ⟨w.heap.size, 8, none⟩ (.slice none 0 0) := ⟨_, rfl⟩
 have HV2 := Box.mk (show RVr W2 w.heap.size c2 by rw [hW2]; have h := RVr.put (i := 8) (v := .slice none 0 0) (HV1.out.keep hb2); rw [show c1.setIfInBounds 8 (.slice none 0 0) = c2 by rw [Hc1.out, Hc2.out]; rfl] at h; exact h)
 have hoth2 : ∀ k, k ≠ w.heap.size → W2.heap[k]? = w2c.heap[k]? := fun k hk => by rw [hW2]; exact heap_setCell_other _ _ _ _ (by show k ≠ w.heap.size; exact hk)
 have HR2 := Box.mk (show RVr W2 (w.heap.size + 1) #[.bool false, .string ⟨#[]⟩, .int .i64 0, .string ⟨#[]⟩, .string ⟨#[]⟩, .int .i64 0, .slice none 0 0, .bool false, .slice none 0 0, .int .i64 0, .string ⟨#[]⟩, .int .i64 0, .slice none 0 0, .slice none 0 0, .int .i64 0, .int .i64 0, .int .i64 0, .int .i64 0, .int .i64 0, .int .i64 0, .int .i64 0, .slice none 0 0] from (hoth2 _ (by omega)).trans (HR1.out.keep hb2))
 have HB2 := Box.mk (show Below w.heap.size w W2 by rw [hW2]; exact (below_trans HB1.out hb2).setCell (p := ⟨w.heap.size, 8, none⟩) (Nat.le_refl _) _)
 have hlw2 : w.heap.size + 1 < W2.heap.size := HR2.out.lt
 have HF1_2 := Box.mk (show FldsIn W2 f1 s.xs ∧ ∀ y, f1 = some y → w.heap.size + 1 < y.block from ⟨(HF1_1.out.1.keep hb2).same fun y e => hoth2 _ (by have := HF1_1.out.2 y e; omega), HF1_1.out.2⟩)
 rw [← hW2]
 clear hW2 hv2b hz2b hoth2 HV1 HR1 HB1 hb2 HF1_1 Hc1
 have hv3 : W2.cell? ⟨w.heap.size, 12, none⟩ = some (.slice ga (List.length s.ys) gc) := by rw [RVr.cell HV2.out, Hc2.out]; rfl
 go_wp2_with fail
 refine (cloneF_any s.ys ga gc W2 (HM.out.f2.keep HB2.out) (by omega)).mono ?_
 rintro e w3c ⟨f3, d3, rfl, hf3, hn3, hb3⟩
 have hv3b : w3c.cell? ⟨w.heap.size, 12, none⟩ = some (.slice ga (List.length s.ys) gc) := by rw [RVr.cell (HV2.out.keep hb3), Hc2.out]; rfl
 have hz3b : w3c.frozen? ⟨w.heap.size, 12, none⟩ = false := frozen_of_row w3c _ 12 _ _ (HV2.out.keep hb3)
 clear hv3
 go_upto_region 4 with (refine wpList_store_slice rfl _ _ _ rfl rfl rfl (by kernel_rfl) hv3b hz3b ?_)
 obtain ⟨c3, hc3⟩ : ∃ y0 : Array Value, y0 = #[.bool s.rep, .string s.meth, .int .i64 s.ph, .string s.m, .string s.t, .int .i64 s.z, .slice f1 (List.length s.xs) d1, .bool s.fr, .slice none 0 0, .int .i64 s.st, .string s.rs, .int .i64 s.z2, .slice f3 (List.length s.ys) d3, .slice none 0 0, .int .i64 s.fk, .int .i64 s.fl, .int .i64 s.left, .int .i64 s.size, .int .i64 s.ck.ph, .int .i64 s.ck.left, .int .i64 s.ck.tr, .slice la (List.length s.ck.line) lc] := ⟨_, rfl⟩
 have Hc3 := Box.mk hc3
 clear hc3
 obtain ⟨W3, hW3⟩ : ∃ W3, W3 = w3c.setCell ⟨w.heap.size, 12, none⟩ (.slice f3 (List.length s.ys) d3) := ⟨_, rfl⟩
 have HV3 := Box.mk (show RVr W3 w.heap.size c3 by rw [hW3]; have h := RVr.put (i := 12) (v := .slice f3 (List.length s.ys) d3) (HV2.out.keep hb3); rw [show c2.setIfInBounds 12 (.slice f3 (List.length s.ys) d3) = c3 by rw [Hc2.out, Hc3.out]; rfl] at h; exact h)
 have hoth3 : ∀ k, k ≠ w.heap.size → W3.heap[k]? = w3c.heap[k]? := fun k hk => by rw [hW3]; exact heap_setCell_other _ _ _ _ (by show k ≠ w.heap.size; exact hk)
 have HR3 := Box.mk (show RVr W3 (w.heap.size + 1) #[.bool false, .string ⟨#[]⟩, .int .i64 0, .string ⟨#[]⟩, .string ⟨#[]⟩, .int .i64 0, .slice none 0 0, .bool false, .slice none 0 0, .int .i64 0, .string ⟨#[]⟩, .int .i64 0, .slice none 0 0, .slice none 0 0, .int .i64 0, .int .i64 0, .int .i64 0, .int .i64 0, .int .i64 0, .int .i64 0, .int .i64 0, .slice none 0 0] from (hoth3 _ (by omega)).trans (HR2.out.keep hb3))
 have HB3 := Box.mk (show Below w.heap.size w W3 by rw [hW3]; exact (below_trans HB2.out hb3).setCell (p := ⟨w.heap.size, 12, none⟩) (Nat.le_refl _) _)
 have hlw3 : w.heap.size + 1 < W3.heap.size := HR3.out.lt
 have HF1_3 := Box.mk (show FldsIn W3 f1 s.xs ∧ ∀ y, f1 = some y → w.heap.size + 1 < y.block from ⟨(HF1_2.out.1.keep hb3).same fun y e => hoth3 _ (by have := HF1_2.out.2 y e; omega), HF1_2.out.2⟩)
 have HF3_3 := Box.mk (show FldsIn W3 f3 s.ys ∧ ∀ y, f3 = some y → w.heap.size + 1 < y.block from ⟨hf3.same fun y e => hoth3 _ (by have := hn3 y e; omega), fun y e => by have := hn3 y e; omega⟩)
 rw [← hW3]
 clear hW3 hv3b hz3b hoth3 HV2 HR2 HB2 hb3 hf3 hn3 HF1_2 Hc2
 have hv4 : W3.cell? ⟨w.heap.size, 13, none⟩ = some (.slice none 0 0) := by rw [RVr.cell HV3.out, Hc3.out]; rfl
 go_wp2_with fail
 refine (cloneY_nil W3).mono ?_
 rintro e w4c ⟨rfl, hww4⟩
 have hb4 : Below W3.heap.size W3 w4c := by rw [← hww4]; exact Below.refl _ _
 clear hww4
 have hv4b : w4c.cell? ⟨w.heap.size, 13, none⟩ = some (.slice none 0 0) := by rw [RVr.cell (HV3.out.keep hb4), Hc3.out]; rfl
 have hz4b : w4c.frozen? ⟨w.heap.size, 13, none⟩ = false := frozen_of_row w4c _ 13 _ _ (HV3.out.keep hb4)
 clear hv4
 go_upto_region 5 with (refine wpList_store_slice rfl _ _ _ rfl rfl rfl (by kernel_rfl) hv4b hz4b ?_)
 obtain ⟨c4, hc4⟩ : ∃ y0 : Array Value, y0 = #[.bool s.rep, .string s.meth, .int .i64 s.ph, .string s.m, .string s.t, .int .i64 s.z, .slice f1 (List.length s.xs) d1, .bool s.fr, .slice none 0 0, .int .i64 s.st, .string s.rs, .int .i64 s.z2, .slice f3 (List.length s.ys) d3, .slice none 0 0, .int .i64 s.fk, .int .i64 s.fl, .int .i64 s.left, .int .i64 s.size, .int .i64 s.ck.ph, .int .i64 s.ck.left, .int .i64 s.ck.tr, .slice la (List.length s.ck.line) lc] := ⟨_, rfl⟩
 have Hc4 := Box.mk hc4
 clear hc4
 obtain ⟨W4, hW4⟩ : ∃ W4, W4 = w4c.setCell ⟨w.heap.size, 13, none⟩ (.slice none 0 0) := ⟨_, rfl⟩
 have HV4 := Box.mk (show RVr W4 w.heap.size c4 by rw [hW4]; have h := RVr.put (i := 13) (v := .slice none 0 0) (HV3.out.keep hb4); rw [show c3.setIfInBounds 13 (.slice none 0 0) = c4 by rw [Hc3.out, Hc4.out]; rfl] at h; exact h)
 have hoth4 : ∀ k, k ≠ w.heap.size → W4.heap[k]? = w4c.heap[k]? := fun k hk => by rw [hW4]; exact heap_setCell_other _ _ _ _ (by show k ≠ w.heap.size; exact hk)
 have HR4 := Box.mk (show RVr W4 (w.heap.size + 1) #[.bool false, .string ⟨#[]⟩, .int .i64 0, .string ⟨#[]⟩, .string ⟨#[]⟩, .int .i64 0, .slice none 0 0, .bool false, .slice none 0 0, .int .i64 0, .string ⟨#[]⟩, .int .i64 0, .slice none 0 0, .slice none 0 0, .int .i64 0, .int .i64 0, .int .i64 0, .int .i64 0, .int .i64 0, .int .i64 0, .int .i64 0, .slice none 0 0] from (hoth4 _ (by omega)).trans (HR3.out.keep hb4))
 have HB4 := Box.mk (show Below w.heap.size w W4 by rw [hW4]; exact (below_trans HB3.out hb4).setCell (p := ⟨w.heap.size, 13, none⟩) (Nat.le_refl _) _)
 have hlw4 : w.heap.size + 1 < W4.heap.size := HR4.out.lt
 have HF1_4 := Box.mk (show FldsIn W4 f1 s.xs ∧ ∀ y, f1 = some y → w.heap.size + 1 < y.block from ⟨(HF1_3.out.1.keep hb4).same fun y e => hoth4 _ (by have := HF1_3.out.2 y e; omega), HF1_3.out.2⟩)
 have HF3_4 := Box.mk (show FldsIn W4 f3 s.ys ∧ ∀ y, f3 = some y → w.heap.size + 1 < y.block from ⟨(HF3_3.out.1.keep hb4).same fun y e => hoth4 _ (by have := HF3_3.out.2 y e; omega), HF3_3.out.2⟩)
 rw [← hW4]
 clear hW4 hv4b hz4b hoth4 HV3 HR3 HB3 hb4 HF1_3 HF3_3 Hc3
 have hv5 : W4.cell? ⟨w.heap.size, 21, none⟩ = some (.slice la (List.length s.ck.line) lc) := by rw [RVr.cell HV4.out, Hc4.out]; rfl
 go_wp2_with fail
 refine (cloneY_any s.ck.line la lc W4 (HM.out.ln.keep HB4.out) (by omega)).mono ?_
 rintro e w5c ⟨f5, d5, rfl, hf5, hn5, hb5⟩
 have HNL := Box.mk (show ∀ y, f5 = some y → w.heap.size ≤ y.block from fun y e => by have := hn5 y e; omega)
 clear hn5
 have hv5b : w5c.cell? ⟨w.heap.size, 21, none⟩ = some (.slice la (List.length s.ck.line) lc) := by rw [RVr.cell (HV4.out.keep hb5), Hc4.out]; rfl
 have hz5b : w5c.frozen? ⟨w.heap.size, 21, none⟩ = false := frozen_of_row w5c _ 21 _ _ (HV4.out.keep hb5)
 clear hv5
 go_upto_region 6 with (refine wpList_store_slice rfl _ _ _ rfl rfl rfl (by kernel_rfl) hv5b hz5b ?_)
 obtain ⟨c5, hc5⟩ : ∃ y0 : Array Value, y0 = #[.bool s.rep, .string s.meth, .int .i64 s.ph, .string s.m, .string s.t, .int .i64 s.z, .slice f1 (List.length s.xs) d1, .bool s.fr, .slice none 0 0, .int .i64 s.st, .string s.rs, .int .i64 s.z2, .slice f3 (List.length s.ys) d3, .slice none 0 0, .int .i64 s.fk, .int .i64 s.fl, .int .i64 s.left, .int .i64 s.size, .int .i64 s.ck.ph, .int .i64 s.ck.left, .int .i64 s.ck.tr, .slice f5 (List.length s.ck.line) d5] := ⟨_, rfl⟩
 have Hc5 := Box.mk hc5
 clear hc5
 obtain ⟨W5, hW5⟩ : ∃ W5, W5 = w5c.setCell ⟨w.heap.size, 21, none⟩ (.slice f5 (List.length s.ck.line) d5) := ⟨_, rfl⟩
 have HV5 := Box.mk (show RVr W5 w.heap.size c5 by rw [hW5]; have h := RVr.put (i := 21) (v := .slice f5 (List.length s.ck.line) d5) (HV4.out.keep hb5); rw [show c4.setIfInBounds 21 (.slice f5 (List.length s.ck.line) d5) = c5 by rw [Hc4.out, Hc5.out]; rfl] at h; exact h)
 have hoth5 : ∀ k, k ≠ w.heap.size → W5.heap[k]? = w5c.heap[k]? := fun k hk => by rw [hW5]; exact heap_setCell_other _ _ _ _ (by show k ≠ w.heap.size; exact hk)
 have HR5 := Box.mk (show RVr W5 (w.heap.size + 1) #[.bool false, .string ⟨#[]⟩, .int .i64 0, .string ⟨#[]⟩, .string ⟨#[]⟩, .int .i64 0, .slice none 0 0, .bool false, .slice none 0 0, .int .i64 0, .string ⟨#[]⟩, .int .i64 0, .slice none 0 0, .slice none 0 0, .int .i64 0, .int .i64 0, .int .i64 0, .int .i64 0, .int .i64 0, .int .i64 0, .int .i64 0, .slice none 0 0] from (hoth5 _ (by omega)).trans (HR4.out.keep hb5))
 have HB5 := Box.mk (show Below w.heap.size w W5 by rw [hW5]; exact (below_trans HB4.out hb5).setCell (p := ⟨w.heap.size, 21, none⟩) (Nat.le_refl _) _)
 have hlw5 : w.heap.size + 1 < W5.heap.size := HR5.out.lt
 have HF1_5 := Box.mk (show FldsIn W5 f1 s.xs ∧ ∀ y, f1 = some y → w.heap.size + 1 < y.block from ⟨(HF1_4.out.1.keep hb5).same fun y e => hoth5 _ (by have := HF1_4.out.2 y e; omega), HF1_4.out.2⟩)
 have HF3_5 := Box.mk (show FldsIn W5 f3 s.ys ∧ ∀ y, f3 = some y → w.heap.size + 1 < y.block from ⟨(HF3_4.out.1.keep hb5).same fun y e => hoth5 _ (by have := HF3_4.out.2 y e; omega), HF3_4.out.2⟩)
 have HF5_5 := Box.mk (show IsBytes W5 f5 s.ck.line d5 from hf5.same fun y e hl => hoth5 _ (row_awayR (HV4.out.keep hb5) (by rw [Hc4.out]; exact noU8_22 rfl) hf5 y e hl))
 rw [← hW5]
 clear hW5 hv5b hz5b hoth5 HV4 HR4 HB4 hb5 hf5 HF1_4 HF3_4 Hc4
 have hcs22 : c5.size = 22 := by rw [Hc5.out]; rfl
 have hc51 : c5.all (·.oneCell') = true := by rw [Hc5.out]; exact oneRd ..
 have HSZ := Box.mk (show (Tryz.prog.info? 37).map (·.size) = some c5.size by rw [hcs22]; exact sizeRd)
 go_wp2_with (first | refine wpList_load_row rfl 37 _ rfl w.heap.size rfl 37 c5 (0, 0) _ HV5.out Tryz.underlying37 rfl HSZ.out ?_ | refine wpList_store_row rfl 37 _ _ rfl (w.heap.size + 1) c5 rfl rfl 37 _ HR5.out HSZ.out (by rw [hcs22]; rfl) hc51 ?_)
 (try simp only [Exit.inBlock, Exit.then])
 refine bodyPost_ret (results_r rfl _ _ (w.heap.size + 1) 37 c5 (0, 0) _ rfl (setRow_heap _ _ _ _ _ _ HR5.out) Tryz.underlying37 rfl HSZ.out) rfl ?_
 have hsame : ∀ k, k ≠ w.heap.size + 1 → (W5.setRow (w.heap.size + 1) c5).heap[k]? = W5.heap[k]? := fun k hk => setRow_other _ _ _ _ hk
 exact ⟨f1, d1, f3, d3, f5, d5, by rw [Hc5.out], ⟨HF1_5.out.1.same fun y e => hsame _ (by have := HF1_5.out.2 y e; omega), HF3_5.out.1.same fun y e => hsame _ (by have := HF3_5.out.2 y e; omega), HF5_5.out.same fun y e hl => hsame _ (row_awayR HR5.out (noU8_22 rfl) HF5_5.out y e hl), fun y e _ => by have := HF1_5.out.2 y e; omega, fun y e _ => by have := HF3_5.out.2 y e; omega⟩, HNL.out, below_setRow HB5.out (by omega) _⟩
end Go.Proofs.YteoadfckcilalaaGreatDoor
namespace Go.Proofs.YteoadfckcilalaaGreatDoor
open Go.RowKit

set_option linter.unusedVariables false
def RetXF (B : Nat → Prop) (w : World) (x : NX) (e : Ending) (w' : World) : Prop :=
 ∃ fa fc ga gc la lc pa pc, e = .returned (.tuple #[.agg #[.bool x.r.rep, .string x.r.meth, .int .i64 x.r.ph, .string x.r.m, .string x.r.t, .int .i64 x.r.z, .slice fa (List.length x.r.xs) fc, .bool x.r.fr, .slice none 0 0, .int .i64 x.r.st, .string x.r.rs, .int .i64 x.r.z2, .slice ga (List.length x.r.ys) gc, .slice none 0 0, .int .i64 x.r.fk, .int .i64 x.r.fl, .int .i64 x.r.left, .int .i64 x.r.size, .int .i64 x.r.ck.ph, .int .i64 x.r.ck.left, .int .i64 x.r.ck.tr, .slice la (List.length x.r.ck.line) lc], .agg #[.int .i64 x.kind, .slice pa (List.length x.data) pc], .int .i64 x.n, .int .i64 x.er]) ∧ RMem B w' x.r fa ga la lc ∧ (∀ y, la = some y → x.r.ck.line ≠ [] → w.heap.size ≤ y.block) ∧ IsBytes w' pa x.data pc ∧ Below w.heap.size w w'
section
variable {ops : Array Oper} {rest : List Oper} {o : Oper} {act : Act} {Q : Exit → Act → World → Prop}
theorem wpList_callV {P : Program} {w : World} (hgd : o.guard = none) {y : Operand} {f : FuncId} {args : List Operand} {ts : Array TypeId} (ho : o.op = .call { callee := .value y, args := args.toArray, argTypes := ts }) (hy : act.eval y = .func (.func f) #[] #[])
  (hf : (P.funcs[f]?).map (fun fn => fn.name != "runtime.NumGoroutine" && fn.body.isSome) = some true) {R : Ending → World → Prop} (h : Calls P f (args.map act.eval).toArray w R) (hK : ∀ e w', R e w' → ∃ v, e = .returned v ∧ wpList P ops Q rest (act.put o.dst v) w') : wpList P ops Q (o :: rest) act w :=
 wpList_plain hgd fun K2 hK2 => wp_callV ho hy hf h fun e w' hr => by
  obtain ⟨v, he, hk⟩ := hK e w' hr
  exact ⟨v, he, hK2 _ _ hk⟩
end
theorem run_loadMs (w : World) (g : Nat) (cs : Array Value) (h : MVr w g cs) (hs : cs.size = 22) : (Instr.loadAt 73 (.pointer (some ⟨g, 0, none⟩))).run Tryz.prog w = .ok (.agg cs) w := by
 unfold MVr at h
 simp [Instr.loadAt, Instr.sureAddr, run_loadVar_row w g _ 73 _ _ _ h Tryz.underlying73 rfl (by rw [hs]; exact sizeMs)]
theorem run_loadPt (w : World) (g : Nat) (cs : Array Value) (h : PVr w g cs) (hs : cs.size = 2) : (Instr.loadAt 41 (.pointer (some ⟨g, 0, none⟩))).run Tryz.prog w = .ok (.agg cs) w := by
 unfold PVr at h
 simp [Instr.loadAt, Instr.sureAddr, run_loadVar_row w g _ 41 _ _ _ h Tryz.underlying41 rfl (by rw [hs]; exact sizePt)]
structure NxJ (w : World) (g gp lim : Nat) (x : NX) (f4 g4 l4 : Option Addr) (e4 : Nat) (pa : Option Addr) (pc : Nat) (cr pr r2 r3 : Array Value) (W : World) : Prop where
 m : MVr W g cr
 p : PVr W gp pr
 r2 : RVr W (w.heap.size + 1) r2
 r3 : PVr W (w.heap.size + 2) r3
 bl : Below w.heap.size w W
 rm : RMem (fun k => lim ≤ k ∧ k ≠ g) W x.r f4 g4 l4 e4
 dt : IsBytes W pa x.data pc
theorem NxJ.keep {w : World} {g gp lim : Nat} {x : NX} {f4 g4 l4 : Option Addr} {e4 : Nat} {pa : Option Addr} {pc : Nat} {cr pr r2 r3 : Array Value} {W W' : World} (h : NxJ w g gp lim x f4 g4 l4 e4 pa pc cr pr r2 r3 W) (hb : Below W.heap.size W W') : NxJ w g gp lim x f4 g4 l4 e4 pa pc cr pr r2 r3 W' := ⟨h.m.keep hb, h.p.keep hb, h.r2.keep hb, h.r3.keep hb, below_trans h.bl hb, h.rm.keep hb, h.dt.keep hb⟩
theorem rmem_row {W : World} {lim g q : Nat} {s : RS} {f4 g4 l4 : Option Addr} {e4 : Nat} {cs ds : Array Value} {T : TypeId} {fz : Nat × Nat} (h : RMem (fun k => lim ≤ k ∧ k ≠ g) W s f4 g4 l4 e4) (hq : q < lim) (hr : W.heap[q]? = some (.cells cs T fz)) (hn : NoU8 cs) : RMem (fun k => lim ≤ k ∧ k ≠ g) (W.setRow q ds) s f4 g4 l4 e4 :=
 ⟨sameNe h.f1 fun y e hx => setRow_other _ _ _ _ (by have := (h.n1 y e hx).1; omega), sameNe h.f2 fun y e hx => setRow_other _ _ _ _ (by have := (h.n2 y e hx).1; omega), isBytes_rowR hr hn h.ln, h.n1, h.n2⟩
theorem nextX_err {s : RS} {b : List UInt8} {most body room : Int} (h : ¬ (nextX s b most body room).er = 0) : ∃ er, nextX s b most body room = errX er ∧ ¬ er = 0 := by
 have hf : ∀ (x : RS) (f : Int × Int × Int) (n : Nat), ¬ (finX x f n body).er = 0 → ∃ er, finX x f n body = errX er ∧ ¬ er = 0 := fun x f n h => by
  unfold finX at h ⊢
  split at h
  · rename_i h1; rw [if_pos h1]; exact ⟨_, rfl, h⟩
  · rename_i h1; rw [if_neg h1]
    split at h
    · rename_i h2; rw [if_pos h2]; exact ⟨_, rfl, h⟩
    · exact absurd rfl h
 unfold nextX at h ⊢
 split at h
 · rename_i hp
   rw [if_pos hp]
   unfold firstX at h ⊢
   split at h
   · exact absurd rfl h
   · rename_i h1
     rw [if_neg h1]
     split at h
     · rename_i h2; rw [if_pos h2]; exact ⟨_, rfl, h⟩
     · rename_i h2
       rw [if_neg h2]
       unfold headX at h ⊢
       split at h
       · rename_i h3
         rw [if_pos h3]
         split at h
         · rename_i h4; rw [if_pos h4]; exact ⟨_, rfl, h⟩
         · rename_i h4
           rw [if_neg h4]
           split at h
           · rename_i h5; rw [if_pos h5]; exact ⟨_, rfl, h⟩
           · rename_i h5
             rw [if_neg h5]
             split at h
             · exact absurd rfl h
             · rename_i h6; rw [if_neg h6]; exact hf _ _ _ h
       · rename_i h3
         rw [if_neg h3]
         split at h
         · rename_i h4; rw [if_pos h4]; exact ⟨_, rfl, h⟩
         · rename_i h4; rw [if_neg h4]; exact hf _ _ _ h
 · rename_i hp
   rw [if_neg hp]
   split at h
   · rename_i hp1
     rw [if_pos hp1]
     generalize (if room ≤ 0 then (0 : Int) else room) = r0 at *
     unfold moreX at h ⊢
     split at h
     · exfalso
       split at h
       · exact h rfl
       · split at h <;> exact h rfl
     · rename_i h1
       rw [if_neg h1]
       split at h
       · rename_i h2
         rw [if_pos h2]
         split at h
         · rename_i h3; rw [if_pos h3]; exact ⟨_, rfl, h⟩
         · rename_i h3
           rw [if_neg h3]
           split at h
           · rename_i h4; rw [if_pos h4]; exact ⟨_, rfl, h⟩
           · exfalso
             split at h
             · exact h rfl
             · split at h <;> exact h rfl
       · rename_i h2
         rw [if_neg h2]
         split at h
         · exact absurd rfl h
         · rename_i h3
           rw [if_neg h3]
           split at h
           · rename_i h4; rw [if_pos h4]; exact ⟨_, rfl, h⟩
           · exact absurd rfl h
   · exact absurd rfl h
set_option maxRecDepth 100000 in
set_option maxHeartbeats 1000000 in
theorem projNextF_any (B : Nat → Prop) (s : RS) (b : List UInt8) (most body room : Int) (ba : Option Addr) (bc : Nat) (fa ga la : Option Addr) (fc gc lc : Nat) (w : World) (mm : Int) (hb : IsBytes w ba b bc) (hl : b.length ≤ 1000000) (hm : RMem B w s fa ga la lc) (hok : HdOk w mm) (hs : OkN body s) (hb0 : 0 ≤ body ∧ body ≤ 1000000000) (hr0 : -1000000000 ≤ room ∧ room ≤ 1000000000) (hB : ∀ g, w.heap.size ≤ g → B g) :
  Calls Tryz.prog 12 #[.agg #[.bool s.rep, .string s.meth, .int .i64 s.ph, .string s.m, .string s.t, .int .i64 s.z, .slice fa (List.length s.xs) fc, .bool s.fr, .slice none 0 0, .int .i64 s.st, .string s.rs, .int .i64 s.z2, .slice ga (List.length s.ys) gc, .slice none 0 0, .int .i64 s.fk, .int .i64 s.fl, .int .i64 s.left, .int .i64 s.size, .int .i64 s.ck.ph, .int .i64 s.ck.left, .int .i64 s.ck.tr, .slice la (List.length s.ck.line) lc], .slice ba b.length bc, .int .i64 most, .int .i64 body, .int .i64 room] w (RetXF B w (nextX s b most body room)) := by
 obtain ⟨cs, hcs⟩ : ∃ cs : Array Value, cs = #[.bool s.rep, .string s.meth, .int .i64 s.ph, .string s.m, .string s.t, .int .i64 s.z, .slice fa (List.length s.xs) fc, .bool s.fr, .slice none 0 0, .int .i64 s.st, .string s.rs, .int .i64 s.z2, .slice ga (List.length s.ys) gc, .slice none 0 0, .int .i64 s.fk, .int .i64 s.fl, .int .i64 s.left, .int .i64 s.size, .int .i64 s.ck.ph, .int .i64 s.ck.left, .int .i64 s.ck.tr, .slice la (List.length s.ck.line) lc] := ⟨_, rfl⟩
 have HCS := Box.mk hcs
 have hcs22 : cs.size = 22 := by rw [hcs]; rfl
 have HSZ := Box.mk (show (Tryz.prog.info? 37).map (·.size) = some cs.size by rw [hcs22]; exact sizeRd)
 have hcs1 : cs.all (·.oneCell') = true := by rw [hcs]; exact oneRd ..
 rw [← hcs]
 clear hcs
 obtain ⟨W3, hW3⟩ : ∃ W3, W3 = ((w.alloc (.cells cs 37)).alloc (.cells #[.bool false, .string ⟨#[]⟩, .int .i64 0, .string ⟨#[]⟩, .string ⟨#[]⟩, .int .i64 0, .slice none 0 0, .bool false, .slice none 0 0, .int .i64 0, .string ⟨#[]⟩, .int .i64 0, .slice none 0 0, .slice none 0 0, .int .i64 0, .int .i64 0, .int .i64 0, .int .i64 0, .int .i64 0, .int .i64 0, .int .i64 0, .slice none 0 0] 37)).alloc (.cells #[.int .i64 0, .slice none 0 0] 41) := ⟨_, rfl⟩
 have hb1 := below_oneF w (.cells cs 37)
 have hb2 := below_twoF hb1 (.cells #[.bool false, .string ⟨#[]⟩, .int .i64 0, .string ⟨#[]⟩, .string ⟨#[]⟩, .int .i64 0, .slice none 0 0, .bool false, .slice none 0 0, .int .i64 0, .string ⟨#[]⟩, .int .i64 0, .slice none 0 0, .slice none 0 0, .int .i64 0, .int .i64 0, .int .i64 0, .int .i64 0, .int .i64 0, .int .i64 0, .int .i64 0, .slice none 0 0] 37)
 have hb3 := below_trans hb2 (below_oneF _ (.cells #[.int .i64 0, .slice none 0 0] 41))
 have HBW := Box.mk (show Below w.heap.size w W3 by rw [hW3]; exact hb3)
 have HV1 := Box.mk (show RVr W3 w.heap.size cs by rw [hW3]; exact RVr.keep (RVr.keep (heap_alloc_new w (.cells cs 37)) (below_oneF _ _)) (below_oneF _ _))
 have HV2 := Box.mk (show RVr W3 (w.heap.size + 1) #[.bool false, .string ⟨#[]⟩, .int .i64 0, .string ⟨#[]⟩, .string ⟨#[]⟩, .int .i64 0, .slice none 0 0, .bool false, .slice none 0 0, .int .i64 0, .string ⟨#[]⟩, .int .i64 0, .slice none 0 0, .slice none 0 0, .int .i64 0, .int .i64 0, .int .i64 0, .int .i64 0, .int .i64 0, .int .i64 0, .int .i64 0, .slice none 0 0] by
  have h := heap_alloc_new (w.alloc (.cells cs 37)) (.cells #[.bool false, .string ⟨#[]⟩, .int .i64 0, .string ⟨#[]⟩, .string ⟨#[]⟩, .int .i64 0, .slice none 0 0, .bool false, .slice none 0 0, .int .i64 0, .string ⟨#[]⟩, .int .i64 0, .slice none 0 0, .slice none 0 0, .int .i64 0, .int .i64 0, .int .i64 0, .int .i64 0, .int .i64 0, .int .i64 0, .int .i64 0, .slice none 0 0] 37)
  rw [World.size_alloc] at h
  rw [hW3]; exact RVr.keep h (below_oneF _ _))
 have HV3 := Box.mk (show PVr W3 (w.heap.size + 2) #[.int .i64 0, .slice none 0 0] by
  have h := heap_alloc_new ((w.alloc (.cells cs 37)).alloc (.cells #[.bool false, .string ⟨#[]⟩, .int .i64 0, .string ⟨#[]⟩, .string ⟨#[]⟩, .int .i64 0, .slice none 0 0, .bool false, .slice none 0 0, .int .i64 0, .string ⟨#[]⟩, .int .i64 0, .slice none 0 0, .slice none 0 0, .int .i64 0, .int .i64 0, .int .i64 0, .int .i64 0, .int .i64 0, .int .i64 0, .int .i64 0, .slice none 0 0] 37)) (.cells #[.int .i64 0, .slice none 0 0] 41)
  rw [World.size_alloc, World.size_alloc] at h
  rw [hW3]; exact h)
 have HW3 := Box.mk hW3
 have HM := Box.mk hm
 have HRC := Box.mk (copyOf_any B s fa ga la fc gc lc W3 (hm.keep HBW.out) hs.ok)
 rw [← HCS.out] at HRC
 have HBB := Box.mk (hb.keep HBW.out)
 have hl3 : w.heap.size + 2 < W3.heap.size := (Array.getElem?_eq_some_iff.1 HV3.out).1
 clear hb hm hb1 hb2 hb3 hW3
 have HOK := Box.mk (hok.keep HBW.out)
 have HS := Box.mk hs
 have Hb0 := Box.mk hb0
 obtain ⟨r0, hrm⟩ : ∃ r0 : Int, (if room ≤ 0 then 0 else room) = r0 := ⟨_, rfl⟩
 have hr2 : 0 ≤ r0 ∧ r0 ≤ 1000000000 := by rw [← hrm]; split <;> omega
 have HRM := Box.mk hrm
 have HLM := Box.mk (fun W => limitsOf_any most body room W hb0)
 rw [hrm] at HLM
 clear hs hb0 hrm hok
 obtain ⟨x, hx⟩ : ∃ x, nextX s b most body room = x := ⟨_, rfl⟩
 have HX := Box.mk hx
 have HERR := Box.mk (show ¬ x.er = 0 → ∃ er, x = errX er ∧ ¬ er = 0 by rw [← hx]; exact nextX_err)
 rw [hx]
 clear hx
 go_enter Tryz.func12, Tryz.ntmps12
 go_upto_region 1 with fail
 rw [← HW3.out]
 clear HW3
 go_wp2_with (refine wpList_load_row rfl 37 _ rfl w.heap.size rfl 37 cs (0, 0) _ HV1.out Tryz.underlying37 rfl HSZ.out ?_)
 refine HRC.out.mono ?_
 rintro e w4 ⟨f1, d1, f3, d3, f5, d5, he, hm4, hlf4, hb4⟩
 obtain ⟨cp, hcp⟩ : ∃ cp : Array Value, cp = #[.bool s.rep, .string s.meth, .int .i64 s.ph, .string s.m, .string s.t, .int .i64 s.z, .slice f1 (List.length s.xs) d1, .bool s.fr, .slice none 0 0, .int .i64 s.st, .string s.rs, .int .i64 s.z2, .slice f3 (List.length s.ys) d3, .slice none 0 0, .int .i64 s.fk, .int .i64 s.fl, .int .i64 s.left, .int .i64 s.size, .int .i64 s.ck.ph, .int .i64 s.ck.left, .int .i64 s.ck.tr, .slice f5 (List.length s.ck.line) d5] := ⟨_, rfl⟩
 rw [← hcp] at he
 subst he
 have HCP := Box.mk hcp
 have hcp22 : cp.size = 22 := by rw [hcp]; rfl
 have hcp1 : cp.all (·.oneCell') = true := by rw [hcp]; exact oneRd ..
 have HSM := Box.mk (show (Tryz.prog.info? 73).map (·.size) = some cp.size by rw [hcp22]; exact sizeMs)
 have HNM := Box.mk (show MVr (w4.alloc (.cells #[.bool false, .string ⟨#[]⟩, .int .i64 0, .string ⟨#[]⟩, .string ⟨#[]⟩, .int .i64 0, .slice none 0 0, .bool false, .slice none 0 0, .int .i64 0, .string ⟨#[]⟩, .int .i64 0, .slice none 0 0, .slice none 0 0, .int .i64 0, .int .i64 0, .int .i64 0, .int .i64 0, .int .i64 0, .int .i64 0, .int .i64 0, .slice none 0 0] 73)) w4.heap.size #[.bool false, .string ⟨#[]⟩, .int .i64 0, .string ⟨#[]⟩, .string ⟨#[]⟩, .int .i64 0, .slice none 0 0, .bool false, .slice none 0 0, .int .i64 0, .string ⟨#[]⟩, .int .i64 0, .slice none 0 0, .slice none 0 0, .int .i64 0, .int .i64 0, .int .i64 0, .int .i64 0, .int .i64 0, .int .i64 0, .int .i64 0, .slice none 0 0] from heap_alloc_new w4 (.cells #[.bool false, .string ⟨#[]⟩, .int .i64 0, .string ⟨#[]⟩, .string ⟨#[]⟩, .int .i64 0, .slice none 0 0, .bool false, .slice none 0 0, .int .i64 0, .string ⟨#[]⟩, .int .i64 0, .slice none 0 0, .slice none 0 0, .int .i64 0, .int .i64 0, .int .i64 0, .int .i64 0, .int .i64 0, .int .i64 0, .int .i64 0, .slice none 0 0] 73))
 have hw4 := hb4.size
 have HM4 := Box.mk hm4
 have HB4 := Box.mk hb4
 clear hcp hm4 hb4 HRC HSZ hcs22 hcs1 HCS HV1 HM
 go_upto_region 2 with (refine wpList_store_row rfl 73 _ _ rfl w4.heap.size cp rfl rfl 73 _ HNM.out HSM.out (by rw [hcp22]; rfl) hcp1 ?_)
 obtain ⟨W5, hW5⟩ : ∃ W5, W5 = (w4.alloc (.cells #[.bool false, .string ⟨#[]⟩, .int .i64 0, .string ⟨#[]⟩, .string ⟨#[]⟩, .int .i64 0, .slice none 0 0, .bool false, .slice none 0 0, .int .i64 0, .string ⟨#[]⟩, .int .i64 0, .slice none 0 0, .slice none 0 0, .int .i64 0, .int .i64 0, .int .i64 0, .int .i64 0, .int .i64 0, .int .i64 0, .int .i64 0, .slice none 0 0] 73)).setRow w4.heap.size cp := ⟨_, rfl⟩
 have HM5 := Box.mk (show MVr W5 w4.heap.size #[.bool s.rep, .string s.meth, .int .i64 s.ph, .string s.m, .string s.t, .int .i64 s.z, .slice f1 (List.length s.xs) d1, .bool s.fr, .slice none 0 0, .int .i64 s.st, .string s.rs, .int .i64 s.z2, .slice f3 (List.length s.ys) d3, .slice none 0 0, .int .i64 s.fk, .int .i64 s.fl, .int .i64 s.left, .int .i64 s.size, .int .i64 s.ck.ph, .int .i64 s.ck.left, .int .i64 s.ck.tr, .slice f5 (List.length s.ck.line) d5] by rw [hW5, ← HCP.out]; exact setRow_heap _ _ _ _ _ _ HNM.out)
 have hb45 : Below w4.heap.size w4 W5 := by rw [hW5]; exact below_setRow (below_oneF _ _) (Nat.le_refl _) _
 have hb35 := below_trans HB4.out hb45
 have HR5 := Box.mk (show RMem (fun k => W3.heap.size ≤ k ∧ k ≠ w4.heap.size) W5 s f1 f3 f5 d5 from ⟨HM4.out.f1.keep hb45, HM4.out.f2.keep hb45, HM4.out.ln.keep hb45, fun y e hx => ⟨HM4.out.n1 y e hx, by have := HM4.out.f1.old e hx; omega⟩, fun y e hx => ⟨HM4.out.n2 y e hx, by have := HM4.out.f2.old e hx; omega⟩⟩)
 have HLF5 := Box.mk (show ∀ y, f5 = some y → s.ck.line ≠ [] → W3.heap.size ≤ y.block ∧ y.block ≠ w4.heap.size from fun y e hx => ⟨hlf4 y e, by have := HM4.out.ln.old e hx; omega⟩)
 have HBB5 := Box.mk (HBB.out.keep hb35)
 have HOK5 := Box.mk (HOK.out.keep hb35)
 have HV25 := Box.mk (HV2.out.keep hb35)
 have HV35 := Box.mk (HV3.out.keep hb35)
 have HBW5 := Box.mk (below_trans HBW.out hb35)
 have hw5 : w4.heap.size < W5.heap.size := HM5.out.lt
 rw [← hW5]
 clear hW5 hb45 hb35 HM4 HB4 HNM HSM hcp1 hcp22 HCP HBB HOK HV2 HV3 HBW hlf4
 obtain ⟨f, hst, hfb, hcall⟩ := mStep_any (fun k => W3.heap.size ≤ k ∧ k ≠ w4.heap.size) s b most body room ba bc f1 f3 f5 d1 d3 d5 w4.heap.size mm W5 HBB5.out hl HM5.out HR5.out HLF5.out HOK5.out (fun k hk => ⟨by omega, by omega⟩) (fun k hk => hk.2) HS.out Hb0.out r0 hr2 HRM.out
 rw [HX.out] at hcall
 have HST := Box.mk hst
 have HFB := Box.mk hfb
 have HCL := Box.mk hcall
 clear hst hfb hcall
 go_wp2_with fail
 refine HST.out.mono ?_
 rintro e w6 ⟨rfl, rfl⟩
 clear HST HRM HS Hb0 HX HOK5 HBB5 HM5 HR5
 go_wp2_with fail
 refine (HLM.out W5).mono ?_
 rintro e w7 ⟨rfl, hb7⟩
 have HCL7 := Box.mk (HCL.out w7 hb7)
 have HV27 := Box.mk (HV25.out.keep hb7)
 have HV37 := Box.mk (HV35.out.keep hb7)
 have HBW7 := Box.mk (below_trans HBW5.out hb7)
 have hw7 := hb7.size
 clear HCL hb7 HLM HV25 HV35 HBW5
 rename_i KK hKK
 refine hKK _ _ ?_
 clear hKK
 refine wpList_callV rfl rfl rfl HFB.out HCL7.out ?_
 intro e w8 hret
 rcases hret with ⟨h0, f4, c4, g4, d4, l4, e4, pa, pc, he, hm8, hr8, hl8, hd8, hg8⟩ | ⟨h0, k8, n8, he, hg8⟩
 · obtain ⟨pr, hpr⟩ : ∃ pr : Array Value, pr = #[.int .i64 x.kind, .slice pa (List.length x.data) pc] := ⟨_, rfl⟩
   rw [← hpr] at he
   refine ⟨_, he, ?_⟩
   have HPR := Box.mk hpr
   have hpr2 : pr.size = 2 := by rw [hpr]; rfl
   have hpr1 : pr.all (·.oneCell') = true := by rw [hpr]; exact onePt ..
   have HSP := Box.mk (show (Tryz.prog.info? 41).map (·.size) = some pr.size by rw [hpr2]; exact sizePt)
   obtain ⟨cr, hcr⟩ : ∃ cr : Array Value, cr = #[.bool x.r.rep, .string x.r.meth, .int .i64 x.r.ph, .string x.r.m, .string x.r.t, .int .i64 x.r.z, .slice f4 (List.length x.r.xs) c4, .bool x.r.fr, .slice none 0 0, .int .i64 x.r.st, .string x.r.rs, .int .i64 x.r.z2, .slice g4 (List.length x.r.ys) d4, .slice none 0 0, .int .i64 x.r.fk, .int .i64 x.r.fl, .int .i64 x.r.left, .int .i64 x.r.size, .int .i64 x.r.ck.ph, .int .i64 x.r.ck.left, .int .i64 x.r.ck.tr, .slice l4 (List.length x.r.ck.line) e4] := ⟨_, rfl⟩
   have HCR := Box.mk hcr
   have hcr22 : cr.size = 22 := by rw [hcr]; rfl
   have hcr1 : cr.all (·.oneCell') = true := by rw [hcr]; exact oneRd ..
   rw [← hcr] at hm8
   have HNP := Box.mk (show PVr (w8.alloc (.cells #[.int .i64 0, .slice none 0 0] 41)) w8.heap.size #[.int .i64 0, .slice none 0 0] from heap_alloc_new w8 (.cells #[.int .i64 0, .slice none 0 0] 41))
   have hsz8 := hg8.size
   have HM8 := Box.mk hm8
   have HR8 := Box.mk hr8
   have HLF8 := Box.mk (show ∀ y, l4 = some y → x.r.ck.line ≠ [] → w.heap.size ≤ y.block from fun y e hx => by have := (hl8 y e hx).1; omega)
   clear hl8
   have HD8 := Box.mk hd8
   have HV28 := Box.mk (show RVr w8 (w.heap.size + 1) #[.bool false, .string ⟨#[]⟩, .int .i64 0, .string ⟨#[]⟩, .string ⟨#[]⟩, .int .i64 0, .slice none 0 0, .bool false, .slice none 0 0, .int .i64 0, .string ⟨#[]⟩, .int .i64 0, .slice none 0 0, .slice none 0 0, .int .i64 0, .int .i64 0, .int .i64 0, .int .i64 0, .int .i64 0, .int .i64 0, .int .i64 0, .slice none 0 0] from (hg8.block _ HV27.out.lt (fun e => by injection e with e; omega)).trans HV27.out)
   have HV38 := Box.mk (show PVr w8 (w.heap.size + 2) #[.int .i64 0, .slice none 0 0] from (hg8.block _ (Array.getElem?_eq_some_iff.1 HV37.out).1 (fun e => by injection e with e; omega)).trans HV37.out)
   have HBW8 := Box.mk (HBW7.out.grown hg8 HBW7.out.size (fun q e => by injection e with e; omega))
   have H0 := Box.mk h0
   clear hpr hcr hm8 hr8 hd8 hg8 he h0 HV27 HV37 HBW7 HCL7 HFB
   go_upto_region 4 with (refine wpList_store_row rfl 41 _ _ rfl w8.heap.size pr rfl rfl 41 _ HNP.out HSP.out (by rw [hpr2]; rfl) hpr1 ?_)
   obtain ⟨W9, hW9⟩ : ∃ W9, W9 = (w8.alloc (.cells #[.int .i64 0, .slice none 0 0] 41)).setRow w8.heap.size pr := ⟨_, rfl⟩
   have HP9 := Box.mk (show PVr W9 w8.heap.size pr by rw [hW9]; exact setRow_heap _ _ _ _ _ _ HNP.out)
   have hb89 : Below w8.heap.size w8 W9 := by rw [hW9]; exact below_setRow (below_oneF _ _) (Nat.le_refl _) _
   have HJ9 := Box.mk (show NxJ w w4.heap.size w8.heap.size W3.heap.size x f4 g4 l4 e4 pa pc cr pr #[.bool false, .string ⟨#[]⟩, .int .i64 0, .string ⟨#[]⟩, .string ⟨#[]⟩, .int .i64 0, .slice none 0 0, .bool false, .slice none 0 0, .int .i64 0, .string ⟨#[]⟩, .int .i64 0, .slice none 0 0, .slice none 0 0, .int .i64 0, .int .i64 0, .int .i64 0, .int .i64 0, .int .i64 0, .int .i64 0, .int .i64 0, .slice none 0 0] #[.int .i64 0, .slice none 0 0] W9 from ⟨HM8.out.keep hb89, HP9.out, HV28.out.keep hb89, HV38.out.keep hb89, below_trans HBW8.out hb89, HR8.out.keep hb89, HD8.out.keep hb89⟩)
   rw [← hW9]
   clear hW9 hb89 HP9 HM8 HR8 HD8 HV28 HV38 HBW8 HNP
   go_wp2_with fail
   rename_i KK hKK
   refine wp_region_phases [3, 4] (fun p => match p with | 0 => [0, 1, 2] | 1 => [1, 2] | _ => [2, 5, 6])
    (fun p => match p with | 0 => [.val (.agg cr), .val (.agg pr), .val (.int .i64 x.n), .any, .nope, .nope, .nope] | 1 => [.any, .val (.agg pr), .val (.int .i64 x.n), .any, .any, .nope, .nope] | _ => [.any, .any, .val (.int .i64 x.n), .any, .any, .val (.int .i64 x.n), .val (.int .i64 0)])
    (fun p => match p with | 0 => NxJ w w4.heap.size w8.heap.size W3.heap.size x f4 g4 l4 e4 pa pc cr pr #[.bool false, .string ⟨#[]⟩, .int .i64 0, .string ⟨#[]⟩, .string ⟨#[]⟩, .int .i64 0, .slice none 0 0, .bool false, .slice none 0 0, .int .i64 0, .string ⟨#[]⟩, .int .i64 0, .slice none 0 0, .slice none 0 0, .int .i64 0, .int .i64 0, .int .i64 0, .int .i64 0, .int .i64 0, .int .i64 0, .int .i64 0, .slice none 0 0] #[.int .i64 0, .slice none 0 0] | 1 => NxJ w w4.heap.size w8.heap.size W3.heap.size x f4 g4 l4 e4 pa pc cr pr cr #[.int .i64 0, .slice none 0 0] | _ => NxJ w w4.heap.size w8.heap.size W3.heap.size x f4 g4 l4 e4 pa pc cr pr cr pr)
    (by kernel_rfl) (by kernel_rfl) (by kernel_rfl) (by kernel_rfl) (by kernel_rfl) (by kernel_rfl) ?_ HJ9.out ?_ ?_ ?_
   · intro p wa wb h hb
     match p, h with
     | 0, h => exact NxJ.keep h hb
     | 1, h => exact NxJ.keep h hb
     | (_ + 2), h => exact NxJ.keep h hb
   · intro p hp
     match p, hp with
     | 0, _ =>
      refine ⟨?_, ?_, ?_, trivial⟩ <;> intro a1 wx hv hf hd
      · exact ⟨wanted_none rfl, loc_load rfl (by rw [show a1.eval (.tmp 14) = .pointer (some ⟨w4.heap.size, 0, none⟩) from hf.base 14 rfl]; exact run_loadMs _ _ _ hv.m hcr22) rfl⟩
      · exact ⟨wanted_none rfl, loc_load rfl (by rw [show a1.eval (.tmp 16) = .pointer (some ⟨w8.heap.size, 0, none⟩) from hf.base 16 rfl]; exact run_loadPt _ _ _ hv.p hpr2) rfl⟩
      · exact ⟨wanted_none rfl, loc_move rfl (hf.base 17 rfl)⟩
     | 1, _ =>
      refine ⟨?_, ?_, trivial⟩ <;> intro a1 wx hv hf hd
      · exact ⟨wanted_none rfl, loc_load rfl (by rw [show a1.eval (.tmp 16) = .pointer (some ⟨w8.heap.size, 0, none⟩) from hf.base 16 rfl]; exact run_loadPt _ _ _ hv.p hpr2) rfl⟩
      · exact ⟨wanted_none rfl, loc_move rfl (hf.base 17 rfl)⟩
     | 2, _ =>
      refine ⟨?_, ?_, ?_, trivial⟩ <;> intro a1 wx hv hf hd
      · exact ⟨wanted_none rfl, loc_move rfl (hf.base 17 rfl)⟩
      · exact ⟨wanted_none rfl, loc_assign rfl (hd 2 rfl)⟩
      · exact ⟨wanted_none rfl, loc_assign rfl rfl⟩
   · intro p hp
     match p, hp with
     | 0, _ =>
      intro a2 wx hv hf hd
      refine ⟨wanted_none rfl, wp_store_row 37 _ _ rfl (w.heap.size + 1) cr (hf.base 10 rfl) (hd 0 rfl) 37 _ hv.r2 (by rw [hcr22]; exact sizeRd) (by rw [hcr22]; rfl) hcr1 ?_⟩
      exact ⟨undef, rfl, ⟨(setRow_other _ _ _ _ (by omega)).trans hv.m, (setRow_other _ _ _ _ (by omega)).trans hv.p, setRow_heap _ _ _ _ _ _ hv.r2, (setRow_other _ _ _ _ (by omega)).trans hv.r3, below_setRow hv.bl (by omega) _, rmem_row hv.rm (by omega) hv.r2 (noU8_22 rfl), isBytes_rowR hv.r2 (noU8_22 rfl) hv.dt⟩, trivial, ⟨.inr fun _ _ _ => trivial, .inr fun _ _ h => h, .inr fun _ _ h => h, .inl rfl, .inr fun _ _ h => h.elim, .inr fun _ _ h => h.elim, .inr fun _ _ h => h.elim, trivial⟩⟩
     | 1, _ =>
      intro a2 wx hv hf hd
      have e11 : a2.eval (.tmp 11) = .pointer (some ⟨w.heap.size + 2, 0, none⟩) := hf.base 11 rfl
      refine ⟨wanted_none rfl, wp_store_row 41 _ _ rfl (w.heap.size + 2) pr e11 (hd 1 rfl) 41 _ hv.r3 HSP.out (by rw [hpr2]; rfl) hpr1 ?_⟩
      exact ⟨undef, rfl, ⟨(setRow_other _ _ _ _ (by omega)).trans hv.m, (setRow_other _ _ _ _ (by omega)).trans hv.p, (setRow_other _ _ _ _ (by omega)).trans hv.r2, setRow_heap _ _ _ _ _ _ hv.r3, below_setRow hv.bl (by omega) _, rmem_row hv.rm (by omega) hv.r3 (noU8_22 rfl), isBytes_rowR hv.r3 (noU8_22 rfl) hv.dt⟩, trivial, ⟨.inr fun _ _ _ => trivial, .inr fun _ _ _ => trivial, .inr fun _ _ h => h, .inr fun _ _ _ => trivial, .inl rfl, .inr fun _ _ h => h.elim, .inr fun _ _ h => h.elim, trivial⟩⟩
   · intro a2 w10 hv hf hh
     have e12 : a2.eval (.tmp 12) = .int .i64 x.n := hh 5 (by decide)
     have e13 : a2.eval (.tmp 13) = .int .i64 0 := hh 6 (by decide)
     clear hh
     rw [fr_putAll hf]
     clear hf
     simp only [putAll, e12, e13]
     generalize a2.eval (.tmp 38) = u38
     generalize a2.eval (.tmp 39) = u39
     generalize a2.eval (.tmp 40) = u40
     clear e12 e13 a2
     simp only [Act.put, List.setIfInBounds_toArray, List.set_cons_succ, List.set_cons_zero]
     refine hKK _ _ ?_
     clear hKK
     go_wp2_with fail
     (try simp only [Exit.inBlock, Exit.then])
     refine bodyPost_ret (results_rrttR rfl _ _ (w.heap.size + 1) (w.heap.size + 2) 37 41 cr pr (0, 0) (0, 0) _ _ rfl rfl hv.r2 hv.r3 Tryz.underlying37 rfl (by rw [hcr22]; exact sizeRd) Tryz.underlying41 rfl HSP.out) rfl ?_
     exact ⟨f4, c4, g4, d4, l4, e4, pa, pc, by rw [HCR.out, HPR.out, H0.out]; rfl, ⟨hv.rm.f1, hv.rm.f2, hv.rm.ln, fun y e hx => hB _ (by have := (hv.rm.n1 y e hx).1; omega), fun y e hx => hB _ (by have := (hv.rm.n2 y e hx).1; omega)⟩, HLF8.out, hv.dt, hv.bl⟩
 · obtain ⟨er, rfl, hne⟩ := HERR.out h0
   have he : e = .returned (.tuple #[.agg #[.int .i64 k8, .slice none 0 0], .int .i64 n8, .int .i64 er]) := he
   refine ⟨_, he, ?_⟩
   have e0 : (er != 0) = true := by rw [bne_iff_ne]; exact hne
   have HNP := Box.mk (show PVr (w8.alloc (.cells #[.int .i64 0, .slice none 0 0] 41)) w8.heap.size #[.int .i64 0, .slice none 0 0] from heap_alloc_new w8 (.cells #[.int .i64 0, .slice none 0 0] 41))
   have hsz8 := hg8.size
   have HV28 := Box.mk (show RVr w8 (w.heap.size + 1) #[.bool false, .string ⟨#[]⟩, .int .i64 0, .string ⟨#[]⟩, .string ⟨#[]⟩, .int .i64 0, .slice none 0 0, .bool false, .slice none 0 0, .int .i64 0, .string ⟨#[]⟩, .int .i64 0, .slice none 0 0, .slice none 0 0, .int .i64 0, .int .i64 0, .int .i64 0, .int .i64 0, .int .i64 0, .int .i64 0, .int .i64 0, .slice none 0 0] from (hg8.block _ HV27.out.lt (fun e => by injection e with e; omega)).trans HV27.out)
   have HV38 := Box.mk (show PVr w8 (w.heap.size + 2) #[.int .i64 0, .slice none 0 0] from (hg8.block _ (Array.getElem?_eq_some_iff.1 HV37.out).1 (fun e => by injection e with e; omega)).trans HV37.out)
   have HBW8 := Box.mk (HBW7.out.grown hg8 HBW7.out.size (fun q e => by injection e with e; omega))
   clear hg8 he h0 HV27 HV37 HBW7 HCL7 HFB HERR hne
   go_upto_region 4 with (refine wpList_store_row rfl 41 _ _ rfl w8.heap.size #[.int .i64 k8, .slice none 0 0] rfl rfl 41 _ HNP.out sizePt rfl (onePt ..) ?_)
   obtain ⟨W9, hW9⟩ : ∃ W9, W9 = (w8.alloc (.cells #[.int .i64 0, .slice none 0 0] 41)).setRow w8.heap.size #[.int .i64 k8, .slice none 0 0] := ⟨_, rfl⟩
   have hb89 : Below w8.heap.size w8 W9 := by rw [hW9]; exact below_setRow (below_oneF _ _) (Nat.le_refl _) _
   have HV29 := Box.mk (HV28.out.keep hb89)
   have HV39 := Box.mk (HV38.out.keep hb89)
   have HBW9 := Box.mk (below_trans HBW8.out hb89)
   rw [← hW9]
   clear hW9 hb89 HV28 HV38 HBW8 HNP
   have HPN := Box.mk (show PVr (W9.setRow (w.heap.size + 1) #[.bool false, .string ⟨#[]⟩, .int .i64 0, .string ⟨#[]⟩, .string ⟨#[]⟩, .int .i64 0, .slice none 0 0, .bool false, .slice none 0 0, .int .i64 0, .string ⟨#[]⟩, .int .i64 0, .slice none 0 0, .slice none 0 0, .int .i64 0, .int .i64 0, .int .i64 0, .int .i64 0, .int .i64 0, .int .i64 0, .int .i64 0, .slice none 0 0]) (w.heap.size + 2) #[.int .i64 0, .slice none 0 0] from (setRow_other _ _ _ _ (by omega)).trans HV39.out)
   go_wp2_with (first | (refine wpList_store_row rfl 37 _ _ rfl (w.heap.size + 1) #[.bool false, .string ⟨#[]⟩, .int .i64 0, .string ⟨#[]⟩, .string ⟨#[]⟩, .int .i64 0, .slice none 0 0, .bool false, .slice none 0 0, .int .i64 0, .string ⟨#[]⟩, .int .i64 0, .slice none 0 0, .slice none 0 0, .int .i64 0, .int .i64 0, .int .i64 0, .int .i64 0, .int .i64 0, .int .i64 0, .int .i64 0, .slice none 0 0] rfl rfl 37 _ HV29.out sizeRd rfl (oneRd ..) ?_) | (refine wpList_store_row rfl 41 _ _ rfl (w.heap.size + 2) #[.int .i64 0, .slice none 0 0] rfl rfl 41 _ HPN.out sizePt rfl (onePt ..) ?_))
   (try simp only [Exit.inBlock, Exit.then])
   refine bodyPost_ret (results_rrttR rfl _ _ (w.heap.size + 1) (w.heap.size + 2) 37 41 #[.bool false, .string ⟨#[]⟩, .int .i64 0, .string ⟨#[]⟩, .string ⟨#[]⟩, .int .i64 0, .slice none 0 0, .bool false, .slice none 0 0, .int .i64 0, .string ⟨#[]⟩, .int .i64 0, .slice none 0 0, .slice none 0 0, .int .i64 0, .int .i64 0, .int .i64 0, .int .i64 0, .int .i64 0, .int .i64 0, .int .i64 0, .slice none 0 0] #[.int .i64 0, .slice none 0 0] (0, 0) (0, 0) _ _ rfl rfl ((setRow_other _ _ _ _ (by omega)).trans (setRow_heap _ _ _ _ _ _ HV29.out)) (setRow_heap _ _ _ _ _ _ HPN.out) Tryz.underlying37 rfl sizeRd Tryz.underlying41 rfl sizePt) rfl ?_
   have HBF := below_setRow (g := w.heap.size + 2) (below_setRow (g := w.heap.size + 1) HBW9.out (by omega) #[.bool false, .string ⟨#[]⟩, .int .i64 0, .string ⟨#[]⟩, .string ⟨#[]⟩, .int .i64 0, .slice none 0 0, .bool false, .slice none 0 0, .int .i64 0, .string ⟨#[]⟩, .int .i64 0, .slice none 0 0, .slice none 0 0, .int .i64 0, .int .i64 0, .int .i64 0, .int .i64 0, .int .i64 0, .int .i64 0, .int .i64 0, .slice none 0 0]) (by omega) #[.int .i64 0, .slice none 0 0]
   exact ⟨none, 0, none, 0, none, 0, none, 0, rfl, ⟨FldsIn.nil _ _, FldsIn.nil _ _, .inl ⟨rfl, rfl, rfl⟩, (fun y hy => by cases hy), (fun y hy => by cases hy)⟩, (fun y hy => by cases hy), .inl ⟨rfl, rfl, rfl⟩, HBF⟩
theorem projNext_any (B : Nat → Prop) (s : RS) (b : List UInt8) (most body room : Int) (ba : Option Addr) (bc : Nat) (fa ga la : Option Addr) (fc gc lc : Nat) (w : World) (mm : Int) (hb : IsBytes w ba b bc) (hl : b.length ≤ 1000000) (hm : RMem B w s fa ga la lc) (hok : HdOk w mm) (hs : OkN body s) (hb0 : 0 ≤ body ∧ body ≤ 1000000000) (hr0 : -1000000000 ≤ room ∧ room ≤ 1000000000) (hB : ∀ g, w.heap.size ≤ g → B g) :
  Calls Tryz.prog 12 #[.agg #[.bool s.rep, .string s.meth, .int .i64 s.ph, .string s.m, .string s.t, .int .i64 s.z, .slice fa (List.length s.xs) fc, .bool s.fr, .slice none 0 0, .int .i64 s.st, .string s.rs, .int .i64 s.z2, .slice ga (List.length s.ys) gc, .slice none 0 0, .int .i64 s.fk, .int .i64 s.fl, .int .i64 s.left, .int .i64 s.size, .int .i64 s.ck.ph, .int .i64 s.ck.left, .int .i64 s.ck.tr, .slice la (List.length s.ck.line) lc], .slice ba b.length bc, .int .i64 most, .int .i64 body, .int .i64 room] w (RetX B w (nextX s b most body room)) :=
 (projNextF_any B s b most body room ba bc fa ga la fc gc lc w mm hb hl hm hok hs hb0 hr0 hB).mono fun e w' ⟨f4, c4, g4, d4, l4, e4, pa, pc, he, h1, _, h3, h4⟩ => ⟨f4, c4, g4, d4, l4, e4, pa, pc, he, h1, h3, h4⟩
end Go.Proofs.YteoadfckcilalaaGreatDoor
namespace Go.Proofs.YteoadfckcilalaaGreatDoor
open Go.RowKit

set_option linter.unusedVariables false
set_option maxRecDepth 100000 in
set_option maxHeartbeats 1000000 in
theorem forRequest_any (w : World) : Calls Tryz.prog 30 #[] w fun e w' => e = .returned (.agg #[.bool false, .string ⟨#[]⟩, .int .i64 0, .string ⟨#[]⟩, .string ⟨#[]⟩, .int .i64 0, .slice none 0 0, .bool false, .slice none 0 0, .int .i64 0, .string ⟨#[]⟩, .int .i64 0, .slice none 0 0, .slice none 0 0, .int .i64 0, .int .i64 0, .int .i64 0, .int .i64 0, .int .i64 0, .int .i64 0, .int .i64 0, .slice none 0 0]) ∧ Below w.heap.size w w' := by
 obtain ⟨W1, hW1⟩ : ∃ W1, W1 = w.alloc (.cells #[.bool false, .string ⟨#[]⟩, .int .i64 0, .string ⟨#[]⟩, .string ⟨#[]⟩, .int .i64 0, .slice none 0 0, .bool false, .slice none 0 0, .int .i64 0, .string ⟨#[]⟩, .int .i64 0, .slice none 0 0, .slice none 0 0, .int .i64 0, .int .i64 0, .int .i64 0, .int .i64 0, .int .i64 0, .int .i64 0, .int .i64 0, .slice none 0 0] 37) := ⟨_, rfl⟩
 have HB1 := Box.mk (show Below w.heap.size w W1 by rw [hW1]; exact below_oneF _ _)
 have HO := Box.mk (show RVr W1 w.heap.size #[.bool false, .string ⟨#[]⟩, .int .i64 0, .string ⟨#[]⟩, .string ⟨#[]⟩, .int .i64 0, .slice none 0 0, .bool false, .slice none 0 0, .int .i64 0, .string ⟨#[]⟩, .int .i64 0, .slice none 0 0, .slice none 0 0, .int .i64 0, .int .i64 0, .int .i64 0, .int .i64 0, .int .i64 0, .int .i64 0, .int .i64 0, .slice none 0 0] by rw [hW1]; exact heap_alloc_new _ _)
 have HW1 := Box.mk hW1
 clear hW1
 go_enter Tryz.func30, Tryz.ntmps30
 go_upto_region 1 with fail
 rw [← HW1.out]
 clear HW1
 go_wp2_with (refine wpList_store_row rfl 37 _ _ rfl w.heap.size #[.bool false, .string ⟨#[]⟩, .int .i64 0, .string ⟨#[]⟩, .string ⟨#[]⟩, .int .i64 0, .slice none 0 0, .bool false, .slice none 0 0, .int .i64 0, .string ⟨#[]⟩, .int .i64 0, .slice none 0 0, .slice none 0 0, .int .i64 0, .int .i64 0, .int .i64 0, .int .i64 0, .int .i64 0, .int .i64 0, .int .i64 0, .slice none 0 0] rfl rfl 37 _ HO.out sizeRd rfl (oneRd ..) ?_)
 (try simp only [Exit.inBlock, Exit.then])
 refine bodyPost_ret (results_r rfl _ _ w.heap.size 37 #[.bool false, .string ⟨#[]⟩, .int .i64 0, .string ⟨#[]⟩, .string ⟨#[]⟩, .int .i64 0, .slice none 0 0, .bool false, .slice none 0 0, .int .i64 0, .string ⟨#[]⟩, .int .i64 0, .slice none 0 0, .slice none 0 0, .int .i64 0, .int .i64 0, .int .i64 0, .int .i64 0, .int .i64 0, .int .i64 0, .int .i64 0, .slice none 0 0] (0, 0) _ rfl (setRow_heap _ _ _ _ _ _ HO.out) Tryz.underlying37 rfl sizeRd) rfl ?_
 exact ⟨rfl, below_setRow HB1.out (Nat.le_refl _) _⟩
set_option maxRecDepth 100000 in
set_option maxHeartbeats 1000000 in
theorem forReply_any (p : ByteArray) (w : World) : Calls Tryz.prog 28 #[.string p] w fun e w' => e = .returned (.agg #[.bool true, .string p, .int .i64 0, .string ⟨#[]⟩, .string ⟨#[]⟩, .int .i64 0, .slice none 0 0, .bool false, .slice none 0 0, .int .i64 0, .string ⟨#[]⟩, .int .i64 0, .slice none 0 0, .slice none 0 0, .int .i64 0, .int .i64 0, .int .i64 0, .int .i64 0, .int .i64 0, .int .i64 0, .int .i64 0, .slice none 0 0]) ∧ Below w.heap.size w w' := by
 have hbd : ∀ W, (Instr.build 37 #[(0, .bool true), (1, .string p)]).run Tryz.prog W = .ok (.agg #[.bool true, .string p, .int .i64 0, .string ⟨#[]⟩, .string ⟨#[]⟩, .int .i64 0, .slice none 0 0, .bool false, .slice none 0 0, .int .i64 0, .string ⟨#[]⟩, .int .i64 0, .slice none 0 0, .slice none 0 0, .int .i64 0, .int .i64 0, .int .i64 0, .int .i64 0, .int .i64 0, .int .i64 0, .int .i64 0, .slice none 0 0]) W := fun W => run_build (P := Tryz.prog) W 37 #[(0, .bool true), (1, .string p)] #[.bool true, .string p, .int .i64 0, .string ⟨#[]⟩, .string ⟨#[]⟩, .int .i64 0, .slice none 0 0, .bool false, .slice none 0 0, .int .i64 0, .string ⟨#[]⟩, .int .i64 0, .slice none 0 0, .slice none 0 0, .int .i64 0, .int .i64 0, .int .i64 0, .int .i64 0, .int .i64 0, .int .i64 0, .int .i64 0, .slice none 0 0] (by kernel_rfl)
 obtain ⟨W1, hW1⟩ : ∃ W1, W1 = w.alloc (.cells #[.bool false, .string ⟨#[]⟩, .int .i64 0, .string ⟨#[]⟩, .string ⟨#[]⟩, .int .i64 0, .slice none 0 0, .bool false, .slice none 0 0, .int .i64 0, .string ⟨#[]⟩, .int .i64 0, .slice none 0 0, .slice none 0 0, .int .i64 0, .int .i64 0, .int .i64 0, .int .i64 0, .int .i64 0, .int .i64 0, .int .i64 0, .slice none 0 0] 37) := ⟨_, rfl⟩
 have HB1 := Box.mk (show Below w.heap.size w W1 by rw [hW1]; exact below_oneF _ _)
 have HO := Box.mk (show RVr W1 w.heap.size #[.bool false, .string ⟨#[]⟩, .int .i64 0, .string ⟨#[]⟩, .string ⟨#[]⟩, .int .i64 0, .slice none 0 0, .bool false, .slice none 0 0, .int .i64 0, .string ⟨#[]⟩, .int .i64 0, .slice none 0 0, .slice none 0 0, .int .i64 0, .int .i64 0, .int .i64 0, .int .i64 0, .int .i64 0, .int .i64 0, .int .i64 0, .slice none 0 0] by rw [hW1]; exact heap_alloc_new _ _)
 have HW1 := Box.mk hW1
 clear hW1
 go_enter Tryz.func28, Tryz.ntmps28
 go_upto_region 1 with fail
 rw [← HW1.out]
 clear HW1
 go_wp2_with (refine wpList_store_row rfl 37 _ _ rfl w.heap.size #[.bool true, .string p, .int .i64 0, .string ⟨#[]⟩, .string ⟨#[]⟩, .int .i64 0, .slice none 0 0, .bool false, .slice none 0 0, .int .i64 0, .string ⟨#[]⟩, .int .i64 0, .slice none 0 0, .slice none 0 0, .int .i64 0, .int .i64 0, .int .i64 0, .int .i64 0, .int .i64 0, .int .i64 0, .int .i64 0, .slice none 0 0] rfl rfl 37 _ HO.out sizeRd rfl (oneRd ..) ?_)
 (try simp only [Exit.inBlock, Exit.then])
 refine bodyPost_ret (results_r rfl _ _ w.heap.size 37 #[.bool true, .string p, .int .i64 0, .string ⟨#[]⟩, .string ⟨#[]⟩, .int .i64 0, .slice none 0 0, .bool false, .slice none 0 0, .int .i64 0, .string ⟨#[]⟩, .int .i64 0, .slice none 0 0, .slice none 0 0, .int .i64 0, .int .i64 0, .int .i64 0, .int .i64 0, .int .i64 0, .int .i64 0, .int .i64 0, .slice none 0 0] (0, 0) _ rfl (setRow_heap _ _ _ _ _ _ HO.out) Tryz.underlying37 rfl sizeRd) rfl ?_
 exact ⟨rfl, below_setRow HB1.out (Nat.le_refl _) _⟩
set_option maxRecDepth 100000 in
set_option maxHeartbeats 1000000 in
theorem refForReply_any (p : ByteArray) (w : World) : Calls Tryz.prog 35 #[.string p] w fun e w' => e = .returned (.agg #[.bool true, .string p, .int .i64 0, .string ⟨#[]⟩, .string ⟨#[]⟩, .int .i64 0, .slice none 0 0, .bool false, .slice none 0 0, .int .i64 0, .string ⟨#[]⟩, .int .i64 0, .slice none 0 0, .slice none 0 0, .int .i64 0, .int .i64 0, .int .i64 0, .int .i64 0, .int .i64 0, .int .i64 0, .int .i64 0, .slice none 0 0]) ∧ Below w.heap.size w w' := by
 have hbd : ∀ W, (Instr.build 37 #[(0, .bool true), (1, .string p)]).run Tryz.prog W = .ok (.agg #[.bool true, .string p, .int .i64 0, .string ⟨#[]⟩, .string ⟨#[]⟩, .int .i64 0, .slice none 0 0, .bool false, .slice none 0 0, .int .i64 0, .string ⟨#[]⟩, .int .i64 0, .slice none 0 0, .slice none 0 0, .int .i64 0, .int .i64 0, .int .i64 0, .int .i64 0, .int .i64 0, .int .i64 0, .int .i64 0, .slice none 0 0]) W := fun W => run_build (P := Tryz.prog) W 37 #[(0, .bool true), (1, .string p)] #[.bool true, .string p, .int .i64 0, .string ⟨#[]⟩, .string ⟨#[]⟩, .int .i64 0, .slice none 0 0, .bool false, .slice none 0 0, .int .i64 0, .string ⟨#[]⟩, .int .i64 0, .slice none 0 0, .slice none 0 0, .int .i64 0, .int .i64 0, .int .i64 0, .int .i64 0, .int .i64 0, .int .i64 0, .int .i64 0, .slice none 0 0] (by kernel_rfl)
 obtain ⟨W1, hW1⟩ : ∃ W1, W1 = w.alloc (.cells #[.bool false, .string ⟨#[]⟩, .int .i64 0, .string ⟨#[]⟩, .string ⟨#[]⟩, .int .i64 0, .slice none 0 0, .bool false, .slice none 0 0, .int .i64 0, .string ⟨#[]⟩, .int .i64 0, .slice none 0 0, .slice none 0 0, .int .i64 0, .int .i64 0, .int .i64 0, .int .i64 0, .int .i64 0, .int .i64 0, .int .i64 0, .slice none 0 0] 37) := ⟨_, rfl⟩
 have HB1 := Box.mk (show Below w.heap.size w W1 by rw [hW1]; exact below_oneF _ _)
 have HO := Box.mk (show RVr W1 w.heap.size #[.bool false, .string ⟨#[]⟩, .int .i64 0, .string ⟨#[]⟩, .string ⟨#[]⟩, .int .i64 0, .slice none 0 0, .bool false, .slice none 0 0, .int .i64 0, .string ⟨#[]⟩, .int .i64 0, .slice none 0 0, .slice none 0 0, .int .i64 0, .int .i64 0, .int .i64 0, .int .i64 0, .int .i64 0, .int .i64 0, .int .i64 0, .slice none 0 0] by rw [hW1]; exact heap_alloc_new _ _)
 have HW1 := Box.mk hW1
 clear hW1
 go_enter Tryz.func35, Tryz.ntmps35
 go_upto_region 1 with fail
 rw [← HW1.out]
 clear HW1
 go_wp2_with (refine wpList_store_row rfl 37 _ _ rfl w.heap.size #[.bool true, .string p, .int .i64 0, .string ⟨#[]⟩, .string ⟨#[]⟩, .int .i64 0, .slice none 0 0, .bool false, .slice none 0 0, .int .i64 0, .string ⟨#[]⟩, .int .i64 0, .slice none 0 0, .slice none 0 0, .int .i64 0, .int .i64 0, .int .i64 0, .int .i64 0, .int .i64 0, .int .i64 0, .int .i64 0, .slice none 0 0] rfl rfl 37 _ HO.out sizeRd rfl (oneRd ..) ?_)
 (try simp only [Exit.inBlock, Exit.then])
 refine bodyPost_ret (results_r rfl _ _ w.heap.size 37 #[.bool true, .string p, .int .i64 0, .string ⟨#[]⟩, .string ⟨#[]⟩, .int .i64 0, .slice none 0 0, .bool false, .slice none 0 0, .int .i64 0, .string ⟨#[]⟩, .int .i64 0, .slice none 0 0, .slice none 0 0, .int .i64 0, .int .i64 0, .int .i64 0, .int .i64 0, .int .i64 0, .int .i64 0, .int .i64 0, .slice none 0 0] (0, 0) _ rfl (setRow_heap _ _ _ _ _ _ HO.out) Tryz.underlying37 rfl sizeRd) rfl ?_
 exact ⟨rfl, below_setRow HB1.out (Nat.le_refl _) _⟩
end Go.Proofs.YteoadfckcilalaaGreatDoor
namespace Go.Proofs.YteoadfckcilalaaGreatDoor
open Go.RowKit

def isDstI (ops : Array Oper) (i k : Nat) : Bool := (List.range ops.size).any fun j => ((ops[j]?).bind (·.dst) == some k) && (!decide (j = i) && !(match ops[j]? with | some o => waitsFor o i | none => false))
structure FrW (ops : Array Oper) (i : Nat) (a0 a : Act) : Prop where
 defers : a.defers = a0.defers
 size : a.tmps.size = a0.tmps.size
 base : ∀ k, isDstI ops i k = false → a.eval (.tmp k) = a0.eval (.tmp k)
structure FrM (ops : Array Oper) (m : Array Bool) (a0 a : Act) : Prop where
 defers : a.defers = a0.defers
 size : a.tmps.size = a0.tmps.size
 base : ∀ k, (∀ j o, ops[j]? = some o → o.dst = some k → m.getD j false = false) → a.eval (.tmp k) = a0.eval (.tmp k)
theorem FrM.plain {ops : Array Oper} {m : Array Bool} {a0 a : Act} (h : FrM ops m a0 a) : Fr ops a0 a := ⟨h.defers, h.size, fun k hk => h.base k fun j o ho hd => by
 have : isDst ops k = true := by
  unfold isDst
  exact List.any_eq_true.2 ⟨o, Array.mem_toList_iff.2 (Array.mem_of_getElem? ho), by rw [hd]; simp⟩
 rw [hk] at this; cases this⟩
theorem FrM.at {ops : Array Oper} {m : Array Bool} {a0 a : Act} {i : Nat} (h : FrM ops m a0 a) (hmi : m.getD i false = false) (hcl : ∀ j o, ops[j]? = some o → m.getD j false = true → ∀ i, waitsFor o i = true → m.getD i false = true) : FrW ops i a0 a :=
 ⟨h.defers, h.size, fun k hk => h.base k fun j o ho hd => by
  by_cases hji : j = i
  · subst hji; exact hmi
  · by_cases hw : waitsFor o i = true
    · cases hm : m.getD j false with
      | false => rfl
      | true => rw [hcl j o ho hm i hw] at hmi; cases hmi
    · exfalso
      have : isDstI ops i k = true := by
       unfold isDstI
       exact List.any_eq_true.2 ⟨j, List.mem_range.2 (Array.getElem?_eq_some_iff.1 ho).1, by simp only [ho, Option.bind_some, hd]; simp [hji, hw]⟩
      rw [hk] at this; cases this⟩
theorem frM_put {ops : Array Oper} {m : Array Bool} {a0 a : Act} {o : Oper} {i : Nat} (ho : ops[i]? = some o) (him : i < m.size) (h : FrM ops m a0 a) (v : Value) : FrM ops (m.setIfInBounds i true) a0 (a.put o.dst v) := by
 refine ⟨?_, ?_, fun k hk => ?_⟩
 · have := h.defers
   cases o.dst <;> simpa [Act.put] using this
 · have := h.size
   cases o.dst <;> simpa [Act.put] using this
 · have hne : o.dst ≠ some k := fun e => by
    have := hk i o ho e
    simp [him] at this
   rw [eval_put_other hne, h.base k fun j oj hoj hd => by
    have h2 := hk j oj hoj hd
    by_cases hji : j = i
    · subst hji
      obtain rfl := Option.some.inj (ho.symm.trans hoj)
      exact absurd hd hne
    · rwa [getD_set_ne false (fun e => hji e.symm)] at h2]
def StepIW (P : Program) (Q : Exit → Act → World → Prop) (ops : Array Oper) (S : List Spec) (Inv : World → Prop) (a0 : Act) (i : Nat) (o : Oper) (s : Spec) : Prop :=
 ∀ a w, Inv w → FrW ops i a0 a → (∀ j, waitsFor o j = true → Holds ops S a w j) →
  Region.wanted o (yielded ops a.tmps) = true ∧ o.wp P a w (fun a' w' => ∃ v, a' = a.put o.dst v ∧ Below w.heap.size w w' ∧ s.p v w') Q
def SidesIW (P : Program) (Q : Exit → Act → World → Prop) (ops : Array Oper) (S : List Spec) (Inv : World → Prop) (a0 : Act) : List Nat → Prop
 | i :: r => (match ops[i]?, S[i]? with | some o, some s => StepIW P Q ops S Inv a0 i o s | _, _ => False) ∧ SidesIW P Q ops S Inv a0 r
 | [] => True
def ChainIW (P : Program) (Q : Exit → Act → World → Prop) (ops : Array Oper) (S S' : List Spec) (Inv Inv' : World → Prop) (a0 : Act) (c : Nat) : Prop :=
 match ops[c]?, S'[c]? with
 | some o, some s => ∀ a w, Inv w → FrW ops c a0 a → (∀ j, waitsFor o j = true → Holds ops S a w j) →
   Region.wanted o (yielded ops a.tmps) = true ∧ o.wp P a w (fun a' w' => ∃ v, a' = a.put o.dst v ∧ Inv' w' ∧ s.p v w' ∧ Over ops a w w' c 0 S S') Q
 | _, _ => False
section
variable {P : Program} {Q : Exit → Act → World → Prop} {ops : Array Oper} {a0 : Act} {w0 : World}
theorem sidesIW_at {S : List Spec} {Inv : World → Prop} : ∀ {l : List Nat}, SidesIW P Q ops S Inv a0 l → ∀ i, i ∈ l → ∀ o, ops[i]? = some o → ∃ s, S[i]? = some s ∧ StepIW P Q ops S Inv a0 i o s
 | k :: r, h, i, hi, o, ho => by
  rcases List.mem_cons.1 hi with rfl | hi
  · have := h.1
    rw [ho] at this
    cases hs : S[i]? with
    | none => rw [hs] at this; exact this.elim
    | some s => rw [hs] at this; exact ⟨s, rfl, this⟩
  · exact sidesIW_at h.2 i hi o ho
theorem wp_region_phasesW {id : Nat} (chain : List Nat) (sides : Nat → List Nat) (S : Nat → List Spec) (Inv : Nat → World → Prop) (hm : P.follows .mixedOrders = true)
  (hB : (List.range ops.size).all (fun i => match ops[i]? with | some x => x.after.all (fun e => !Region.binds .any e || decide (e.on < i)) | none => true) = true)
  (hd : dstsOk ops a0.tmps.size = true) (hc : chainB ops chain = true) (hlt : chain.all (fun c => decide (c < ops.size)) = true) (hsB : (List.range (chain.length + 1)).all (fun p => sidesB ops chain chain.length (sides p) p) = true)
  (hI : ∀ p w w', Inv p w → Below w.heap.size w w' → Inv p w') (h0 : Inv 0 w0) (hS : ∀ p, p ≤ chain.length → SidesIW P Q ops (S p) (Inv p) a0 (sides p))
  (hC : ∀ p (hp : p < chain.length), ChainIW P Q ops (S p) (S (p + 1)) (Inv p) (Inv (p + 1)) a0 chain[p])
  (hQ : ∀ a w, Inv chain.length w → Fr ops a0 a → (∀ j, j < ops.size → Holds ops (S chain.length) a w j) → Q .normal a w) : (Code.region id ops true).wp P Q a0 w0 := by
 have hchain : ∀ p q (hp : p < chain.length) (hq : q < chain.length), p < q → beforeB ops ops.size chain[q] chain[p] = true ∧ chain[p] ≠ chain[q] := fun p q hp hq hpq => by
  have h1 := List.all_eq_true.1 (List.all_eq_true.1 hc p (List.mem_range.2 hp)) q (List.mem_range.2 hq)
  simp only [List.getElem?_eq_getElem hp, List.getElem?_eq_getElem hq, Bool.or_eq_true, Bool.and_eq_true, decide_eq_true_eq] at h1
  rcases h1 with h1 | h1
  · omega
  · exact ⟨h1.1.1.1, h1.1.1.2⟩
 refine wp_region_inv hm (fun m a w => FrM ops m a0 a ∧ (∀ j o, ops[j]? = some o → m.getD j false = true → ∀ i, waitsFor o i = true → m.getD i false = true) ∧
  ∃ p, p ≤ chain.length ∧ (∀ q (hq : q < chain.length), m.getD chain[q] false = decide (q < p)) ∧ Inv p w ∧ ∀ j, m.getD j false = true → Holds ops (S p) a w j) ?_ ?_ ?_
 · rintro m a w hs ⟨hf, hcl, p, hp, hph, hinv, hh⟩ i hi
   obtain ⟨h1, o, ho, hall⟩ := mem_ready.1 hi
   have hil : i < ops.size := (Array.getElem?_eq_some_iff.1 ho).1
   have him : i < m.size := by rw [hs]; exact hil
   have hmi : m.getD i false = false := by simp [him] at h1 ⊢; exact h1
   have hdeps : ∀ j, waitsFor o j = true → m.getD j false = true := fun j hj => by
    obtain ⟨e, he, h2⟩ := List.any_eq_true.1 hj
    simp only [Bool.and_eq_true, beq_iff_eq] at h2
    obtain ⟨h3, rfl⟩ := h2
    exact hall e (Array.mem_toList_iff.1 he) h3
   have hcl' : ∀ j o, ops[j]? = some o → (m.setIfInBounds i true).getD j false = true → ∀ k, waitsFor o k = true → (m.setIfInBounds i true).getD k false = true := fun j oj hoj hj k hk => by
    by_cases hji : j = i
    · subst hji
      obtain rfl : o = oj := Option.some.inj (ho.symm.trans hoj)
      exact getD_set_true (hdeps k hk)
    · rw [getD_set_ne false (fun e => hji e.symm)] at hj
      exact getD_set_true (hcl j oj hoj hj k hk)
   unfold wpOp
   simp only [ho]
   by_cases hic : i ∈ chain
   · obtain ⟨q, hq, rfl⟩ := List.getElem_of_mem hic
     have hqp : p ≤ q := by
      have := hph q hq
      rw [hmi] at this
      have := of_decide_eq_false this.symm
      omega
     have hqe : q = p := by
      rcases Nat.lt_or_ge p q with h2 | h2
      · exfalso
        have h3 := before_ready hcl ho hdeps (hchain p q (by omega) hq h2).1
        rw [hph p (by omega)] at h3
        simp at h3
      · omega
     subst hqe
     have hCp := hC q hq
     unfold ChainIW at hCp
     rw [ho] at hCp
     cases hsc : (S (q + 1))[chain[q]]? with
     | none => rw [hsc] at hCp; exact hCp.elim
     | some s =>
      rw [hsc] at hCp
      simp only at hCp
      obtain ⟨hw, hwp⟩ := hCp a w hinv (hf.at hmi hcl) fun j hj => hh j (hdeps j hj)
      rw [if_pos hw]
      refine .inl (Oper.wp_mono ?_ hwp)
      rintro a' w' ⟨v, rfl, hinv', hsp, hov⟩
      refine ⟨frM_put ho him hf v, hcl', q + 1, hq, fun r hr => ?_, hinv', fun j hj => ?_⟩
      · by_cases hrq : r = q
        · subst hrq
          simp [him]
        · have hne : chain[q] ≠ chain[r] := by
           rcases Nat.lt_or_ge q r with h2 | h2
           · exact (hchain q r hq hr h2).2
           · exact fun e => (hchain r q hr hq (by omega)).2 e.symm
          rw [getD_set_ne false hne, hph r hr]
          by_cases hrl : r < q
          · simp [hrl, show r < q + 1 by omega]
          · simp [hrl, show ¬ r < q + 1 by omega]
      · by_cases hji : j = chain[q]
        · subst hji
          unfold Holds
          simp only [ho, hsc]
          cases hdo : o.dst with
          | none => trivial
          | some d =>
           show s.p ((a.put (some d) v).eval (.tmp d)) w'
           rw [eval_put_same]
           · exact hsp
           · rw [hf.size]; exact (dsts_lt hd ho hdo).1
        · have hj' : m.getD j false = true := by rw [getD_set_ne false (fun e => hji e.symm)] at hj; exact hj
          have h5 := holds_put (a := a) (v := v) hd ho hji (hh j hj')
          unfold Holds at *
          cases hoj : ops[j]? with
          | none => simp
          | some o' =>
           cases hsj : (S (q + 1))[j]? with
           | none => simp
           | some s' =>
            obtain ⟨s0, hs0, himp⟩ := over_at hov j s' hsj (by omega)
            simp only [hoj, hs0] at h5
            simp only
            cases hdo : o'.dst with
            | none => trivial
            | some d =>
             simp only [hdo] at h5
             refine himp _ (fun o2 d2 ho2 hd2 => ?_) h5
             rw [Nat.zero_add, hoj] at ho2
             obtain rfl := Option.some.inj ho2
             rw [hdo] at hd2
             obtain rfl := Option.some.inj hd2
             exact eval_put_other fun e => (dsts_lt hd ho e).2 j o' hoj hji hdo
   · have hside : i ∈ sides p := by
      have := List.all_eq_true.1 (List.all_eq_true.1 hsB p (List.mem_range.2 (by omega))) i (List.mem_range.2 hil)
      simp only [Bool.or_eq_true, List.contains_iff_mem, List.any_eq_true] at this
      rcases this with (h2 | h2) | ⟨q, hq, h2⟩
      · exact absurd h2 hic
      · exact h2
      · exfalso
        have hql := List.mem_range.1 hq
        rw [List.getElem?_eq_getElem hql] at h2
        simp only at h2
        by_cases hqp : q < p
        · rw [if_pos hqp] at h2
          have h3 := before_marked hcl _ _ _ h2 (by rw [hph q hql]; simp [hqp])
          rw [hmi] at h3; cases h3
        · rw [if_neg hqp] at h2
          have h3 := before_ready hcl ho hdeps h2
          rw [hph q hql] at h3
          simp [hqp] at h3
     obtain ⟨s, hsi, hstep⟩ := sidesIW_at (hS p hp) i hside o ho
     obtain ⟨hw, hwp⟩ := hstep a w hinv (hf.at hmi hcl) fun j hj => hh j (hdeps j hj)
     rw [if_pos hw]
     refine .inl (Oper.wp_mono ?_ hwp)
     rintro a' w' ⟨v, rfl, hb', hsp⟩
     refine ⟨frM_put ho him hf v, hcl', p, hp, fun r hr => ?_, hI p w w' hinv hb', fun j hj => ?_⟩
     · rw [getD_set_ne false (fun e => hic (by rw [e]; exact List.getElem_mem hr)), hph r hr]
     · by_cases hji : j = i
       · subst hji
         unfold Holds
         simp only [ho, hsi]
         cases hdo : o.dst with
         | none => trivial
         | some d =>
          show s.p ((a.put (some d) v).eval (.tmp d)) w'
          rw [eval_put_same]
          · exact hsp
          · rw [hf.size]; exact (dsts_lt hd ho hdo).1
       · have hj' : m.getD j false = true := by rw [getD_set_ne false (fun e => hji e.symm)] at hj; exact hj
         exact holds_put hd ho hji (holds_mono (hh j hj') hb')
 · rintro m a w hs ⟨hf, hcl, p, hp, hph, hinv, hh⟩ hr
   have hmarked : ∀ j, j < ops.size → m.getD j false = true := fun j => by
    induction j using Nat.strongRecOn with
    | _ j ih =>
     intro hj
     cases hmj : m.getD j false with
     | true => rfl
     | false =>
      exfalso
      have hoj : ops[j]? = some ops[j] := Array.getElem?_eq_getElem hj
      have hbk := List.all_eq_true.1 hB j (List.mem_range.2 hj)
      rw [hoj] at hbk
      simp only [Array.all_eq_true_iff_forall_mem, Bool.or_eq_true, Bool.not_eq_true', decide_eq_true_eq] at hbk
      have hlt : ∀ e ∈ ops[j].after, Region.binds .any e = true → e.on < j := fun e he hbd => by
       rcases hbk e he with h | h
       · rw [hbd] at h; cases h
       · exact h
      have : j ∈ Region.ready .any ops m := mem_ready.2 ⟨by
       have hs' : j < m.size := by rw [hs]; exact hj
       simp [hs'] at hmj ⊢; exact hmj, ops[j], hoj, fun e he hbd => ih _ (hlt e he hbd) (by have := hlt e he hbd; omega)⟩
      rw [hr] at this; cases this
   have hpe : p = chain.length := by
    rcases Nat.lt_or_ge p chain.length with h2 | h2
    · exfalso
      have h3 := hph p h2
      have h4 := hmarked chain[p] (of_decide_eq_true (List.all_eq_true.1 hlt _ (List.getElem_mem h2)))
      rw [h4] at h3
      simp at h3
    · omega
   subst hpe
   exact hQ a w hinv hf.plain fun j hj => hh j (hmarked j hj)
 · have hz : ∀ j, (Array.replicate ops.size false).getD j false = false := fun j => by
    simp only [Array.getD_eq_getD_getElem?, Array.getElem?_replicate]; split <;> rfl
   refine ⟨⟨rfl, rfl, fun _ _ => rfl⟩, fun j o _ hj => (by rw [hz] at hj; cases hj), 0, Nat.zero_le _, fun q _ => by rw [hz]; rfl, hI 0 w0 _ h0 (Below.refl _ _).drew, fun j hj => (by rw [hz] at hj; cases hj)⟩

end
end Go.Proofs.YteoadfckcilalaaGreatDoor
namespace Go.Proofs.YteoadfckcilalaaGreatDoor
open Go.RowKit

theorem IsBytes.cellAtH {w : World} {g c k : Nat} {l : List UInt8} (h : IsBytes w (some ⟨g, 0, none⟩) l c) (hk : k < l.length) : w.cell? ⟨g, k, none⟩ = some (.int .u8 ((l.getD k 0).toNat : Int)) := by
 rcases h with ⟨h1, _⟩ | ⟨y, h1, _, _, h2⟩
 · cases h1
 · obtain rfl := Option.some.inj h1
   have := h2 k hk
   rw [Addr.add_lit, Nat.zero_add] at this
   rw [this]; simp [List.getD, hk]
end Go.Proofs.YteoadfckcilalaaGreatDoor
namespace Go.Proofs.YteoadfckcilalaaGreatDoor
open Go.RowKit

theorem endGo_cons (i : Nat) (x : UInt8) (r : List UInt8) : endGo i (x :: r) = if (x :: r).take 4 = crlf2 then ((i + 4 : Nat) : Int) else endGo (i + 1) r := by rw [endGo]
theorem endZ_take (l : List UInt8) (n : Nat) : endZ (l.take n) = if endZ l ≤ (n : Int) then endZ l else -1 := by
 have := endGo_take l n 0
 rw [Nat.zero_add] at this
 exact this
end Go.Proofs.YteoadfckcilalaaGreatDoor
namespace Go.Proofs.YteoadfckcilalaaGreatDoor
open Go.RowKit

def MsgS (s : RS) : (ByteArray × ByteArray × Int × List Fld × Bool) × (Int × ByteArray × Int × List Fld) := ((s.m, s.t, s.z, s.xs, s.fr), (s.st, s.rs, s.z2, s.ys))
inductive RW where
 | err (e : Int)
 | got (e : Int) (s : RS) (d : List UInt8) (n : Nat)
def RW.add (d0 : List UInt8) (n0 : Nat) : RW → RW
 | .err e => .err e
 | .got e s d n => .got e s (d0 ++ d) (n0 + n)
def RW.same : RW → RW → Prop
 | .err e, .err f => e = f
 | .got e s d n, .got f t c m => e = f ∧ MsgS s = MsgS t ∧ d = c ∧ n = m
 | _, _ => False
theorem RW.same_refl (x : RW) : x.same x := by cases x <;> simp [RW.same]
theorem RW.same_trans {x y z : RW} (h : x.same y) (k : y.same z) : x.same z := by
 cases x <;> cases y <;> cases z <;> simp_all [RW.same]
theorem RW.add_same {x y : RW} (h : x.same y) (d : List UInt8) (n : Nat) : (x.add d n).same (y.add d n) := by
 cases x <;> cases y <;> simp_all [RW.same, RW.add]
theorem RW.add_add (x : RW) (d c : List UInt8) (n m : Nat) : (x.add c m).add d n = x.add (d ++ c) (n + m) := by
 cases x <;> simp [RW.add, Nat.add_assoc]
theorem RW.add_zero (x : RW) : x.add [] 0 = x := by cases x <;> simp [RW.add]
def bodyC (s : RS) (b : List UInt8) : RW :=
 if s.fk = 1 ∨ s.fk = 2 then
  (if s.left.toNat ≤ b.length then .got 0 s (b.take s.left.toNat) s.left.toNat else .got 4 s b b.length)
 else if s.fk = 3 then
  (if (feedU s.ck [] 0 b).1 = 0 then .got (if (feedU s.ck [] 0 b).2.1.ph = 4 then 0 else 4) s (feedU s.ck [] 0 b).2.2.1 (feedU s.ck [] 0 b).2.2.2 else .err (feedU s.ck [] 0 b).1)
 else (if 100 < s.size + b.length then .err 9 else .got 4 s b b.length)
def allC : Nat → RS → List UInt8 → RW
 | 0, _, _ => .err 7
 | f + 1, s, b =>
  if s.ph = 0 then
   (if (endS b 400).2 = 4 then .got 4 s [] 0
   else if (endS b 400).2 ≠ 0 then .err (endS b 400).2
   else if (headX s (b.take (endS b 400).1.toNat) 100).er ≠ 0 then .err (headX s (b.take (endS b 400).1.toNat) 100).er
   else (allC f (headX s (b.take (endS b 400).1.toNat) 100).r (b.drop (endS b 400).1.toNat)).add [] (endS b 400).1.toNat)
  else bodyC s b
def GoodB (b : List UInt8) : Prop := ∀ p, 4 ≤ p → p ≤ b.length → (b.drop (p - 4)).take 4 = crlf2 → p ≤ 25 ∨ b.length ≤ p + 100
theorem GoodB.drop {b : List UInt8} (h : GoodB b) (k : Nat) : GoodB (b.drop k) := fun p h4 hp hw => by
 rw [List.length_drop] at hp ⊢
 rw [List.drop_drop] at hw
 have := h (p + k) (by omega) (by omega) (by rw [show p + k - 4 = k + (p - 4) by omega]; exact hw)
 omega
structure GoodS (s : RS) (b : List UInt8) : Prop where
 ok : OkN 100 s
 ph : s.ph = 0 ∨ s.ph = 1
 hd : s.ph = 0 → GoodB b
 ch : s.ph = 1 → s.fk = 3 → s.size + b.length ≤ 100
theorem end_window : ∀ (l : List UInt8) (i n : Nat), endGo i l = (n : Int) → i + 4 ≤ n ∧ n ≤ i + l.length ∧ (l.drop (n - i - 4)).take 4 = crlf2
 | [], i, n, h => by
  unfold endGo at h
  omega
 | x :: r, i, n, h => by
  rw [endGo_cons] at h
  split at h
  · rename_i hc
    have : n = i + 4 := by omega
    subst this
    have hl : 4 ≤ (x :: r).length := by
     have := congrArg List.length hc
     rw [List.length_take] at this
     simp [crlf2] at this
     simp; omega
    refine ⟨by omega, by omega, ?_⟩
    rw [show i + 4 - i - 4 = 0 by omega]
    exact hc
  · have := end_window r (i + 1) n h
    refine ⟨by omega, by simp; omega, ?_⟩
    rw [show n - i - 4 = (n - (i + 1) - 4) + 1 by omega, List.drop_succ_cons]
    exact this.2.2
theorem endS_end {b : List UInt8} {most : Int} {n : Nat} (h : endS b most = ((n : Int), 0)) : endZ b = (n : Int) ∧ (n : Int) ≤ most ∧ 4 ≤ n ∧ n ≤ b.length ∧ (b.drop (n - 4)).take 4 = crlf2 := by
 unfold endS at h
 split at h
 · rename_i hc
   have e : endZ b = (n : Int) := congrArg Prod.fst h
   have := end_window b 0 n e
   refine ⟨e, by omega, by omega, by omega, ?_⟩
   simpa using this.2.2
 · split at h <;> cases h
theorem endS_take_ok {b : List UInt8} {q n : Nat} {most : Int} (h : endS (b.take q) most = ((n : Int), 0)) : endS b most = ((n : Int), 0) ∧ n ≤ q := by
 obtain ⟨h1, h2, h3, h4, _⟩ := endS_end h
 rw [endZ_take] at h1
 rw [List.length_take] at h4
 split at h1
 · unfold endS
   rw [if_pos (by omega), h1]
   exact ⟨rfl, by omega⟩
 · omega
theorem endS_take_lim {b : List UInt8} {q : Nat} {most : Int} (h : endS (b.take q) most = (0, 3)) : endS b most = (0, 3) := by
 have hE := endZ_take b q
 unfold endS at h ⊢
 by_cases hc : 0 ≤ endZ (b.take q) ∧ endZ (b.take q) ≤ most
 · rw [if_pos hc] at h
   exact absurd (congrArg Prod.snd h) (by show ¬ (0 : Int) = 3; decide)
 · rw [if_neg hc] at h
   by_cases hm : most ≤ (b.take q).length
   · rw [List.length_take] at hm
     have : ¬ (0 ≤ endZ b ∧ endZ b ≤ most) := fun hz => hc (by rw [hE, if_pos (by omega)]; exact hz)
     rw [if_neg this, if_pos (by omega)]
   · rw [if_neg hm] at h
     exact absurd (congrArg Prod.snd h) (by show ¬ (4 : Int) = 3; decide)
theorem feedU_zero : ∀ (l : List UInt8) (s : Chk) (out : List UInt8) (i : Nat), ¬ (feedU s out i l).1 = 0 → (feedU s out i l).2.1 = zeroC
 | [], s, out, i, h => absurd rfl h
 | x :: r, s, out, i, h => by
  by_cases h4 : s.ph = 4
  · rw [feedU_done h4] at h; exact absurd rfl h
  · by_cases h1 : s.ph = 1
    · rw [feedU_data h1] at h ⊢
      exact feedU_zero r _ _ _ h
    · by_cases h0 : (stepS s x).1 = 0
      · rw [feedU_ok h4 h1 h0] at h ⊢
        exact feedU_zero r _ _ _ h
      · rw [feedU_err h4 h1 h0]
theorem feedU_shift : ∀ (l : List UInt8) (s : Chk) (out : List UInt8) (i : Nat), feedU s out i l = if (feedU s [] 0 l).1 = 0 then (0, (feedU s [] 0 l).2.1, out ++ (feedU s [] 0 l).2.2.1, i + (feedU s [] 0 l).2.2.2) else ((feedU s [] 0 l).1, zeroC, [], 0)
 | [], s, out, i => by simp [feedU_nil]
 | x :: r, s, out, i => by
  by_cases h4 : s.ph = 4
  · rw [feedU_done h4, feedU_done h4]; simp
  · by_cases h1 : s.ph = 1
    · rw [feedU_data h1, feedU_data h1, feedU_shift r (dataS s) (out ++ [x]) (i + 1), feedU_shift r (dataS s) ([] ++ [x]) (0 + 1)]
      by_cases h : (feedU (dataS s) [] 0 r).1 = 0
      · simp [h, Nat.add_assoc]
      · simp [h]
    · by_cases h0 : (stepS s x).1 = 0
      · rw [feedU_ok h4 h1 h0, feedU_ok h4 h1 h0, feedU_shift r (stepS s x).2 out (i + 1), feedU_shift r (stepS s x).2 [] (0 + 1)]
        by_cases h : (feedU (stepS s x).2 [] 0 r).1 = 0
        · simp [h, Nat.add_assoc]
        · simp [h]
      · rw [feedU_err h4 h1 h0, feedU_err h4 h1 h0]
        simp [h0]
theorem body_round {s : RS} {b : List UInt8} (hg : GoodS s b) (hp : s.ph = 1) (q : Nat) (hq : q ≤ b.length) (room : Int) (hr : 1 ≤ room) (hl : b.length ≤ 1000000) {x : NX} (hx : x = nextX s (b.take q) 400 100 room) :
  (¬ x.er = 0 → bodyC s b = .err x.er) ∧
  (x.er = 0 → x.kind = 3 → x.data = [] ∧ ∃ t, bodyC s b = .got 0 t [] x.n ∧ MsgS x.r = MsgS t) ∧
  (x.er = 0 → ¬ x.kind = 3 → x.kind = 0 ∧ x.n = 0 → x.data = [] ∧ x.r = s ∧ (q = b.length → bodyC s b = .got 4 s [] 0)) ∧
  (x.er = 0 → ¬ x.kind = 3 → ¬ (x.kind = 0 ∧ x.n = 0) → 1 ≤ x.n ∧ x.n ≤ q ∧ x.r.ph = 1 ∧ GoodS x.r (b.drop x.n) ∧ ((bodyC x.r (b.drop x.n)).add x.data x.n).same (bodyC s b)) := by
 have hql : (b.take q).length = q := by rw [List.length_take]; omega
 have hsz := hg.ok.ok.size
 have hsb := hg.ok.sz hp
 have hnx : nextX s (b.take q) 400 100 room = moreX s (b.take q) 100 room := by
  unfold nextX
  rw [if_neg (by omega), if_pos hp, if_neg (by omega)]
 rw [hnx] at hx
 have hok : x.er = 0 → OkN 100 x.r := fun h => by
  rw [hx] at h ⊢
  exact (moreX_ok (by decide) (by rw [hql]; omega) (by omega) hg.ok hp h).1
 unfold moreX at hx
 unfold bodyC
 by_cases hk : s.fk = 1 ∨ s.fk = 2
 · rw [if_pos hk] at hx ⊢
   by_cases h0 : s.fk = 1 ∨ s.left = 0
   · have hz : s.left = 0 := by
      rcases h0 with h | h
      · exact hg.ok.n1 hp h
      · exact h
     rw [if_pos h0] at hx
     rw [hx]
     refine ⟨fun h => absurd rfl h, fun _ _ => ⟨rfl, s, by rw [hz]; rfl, rfl⟩, fun _ h => absurd rfl h, fun _ h => absurd rfl h⟩
   · rw [if_neg h0] at hx
     have hk2 : s.fk = 2 := by omega
     have hlf := hg.ok.ok.left hk2
     have hm1 := minI_le s.left room
     have hm2 := minI_le (minI s.left room) (b.take q).length
     rw [hql] at hm2 hx
     obtain ⟨k, hkk⟩ : ∃ k : Nat, minI (minI s.left room) (q : Int) = (k : Int) := Int.eq_ofNat_of_zero_le (by omega)
     rw [hkk, Int.toNat_natCast] at hx
     by_cases hk0 : (k : Int) = 0
     · rw [if_pos hk0] at hx
       have hq0 : q = 0 := by omega
       rw [hx]
       refine ⟨fun h => absurd rfl h, fun _ h => absurd h (by show ¬ (0 : Int) = 3; decide), fun _ _ _ => ⟨rfl, rfl, fun he => ?_⟩, fun _ _ h => absurd ⟨rfl, rfl⟩ h⟩
       have : b = [] := List.eq_nil_of_length_eq_zero (by omega)
       subst this
       rw [if_neg (by simp; omega)]
       rfl
     · rw [if_neg hk0] at hx
       have hkb : k ≤ q ∧ (k : Int) ≤ s.left := by omega
       have htt : (b.take q).take k = b.take k := by rw [List.take_take, Nat.min_eq_left hkb.1]
       rw [htt] at hx
       have hok' := hok (by rw [hx])
       rw [hx] at hok' ⊢
       refine ⟨fun h => absurd rfl h, fun _ h => absurd h (by show ¬ (2 : Int) = 3; decide), fun _ _ h => absurd h.1 (by show ¬ (2 : Int) = 0; decide), fun _ _ _ => ⟨by dsimp only; omega, hkb.1, hp, ⟨hok', .inr hp, fun h => absurd hp (by dsimp only at h; omega), fun _ h => absurd h (by dsimp only; omega)⟩, ?_⟩⟩
       dsimp only
       rw [if_pos (.inr hk2), List.length_drop]
       by_cases hle : s.left.toNat ≤ b.length
       · rw [if_pos hle, if_pos (by omega)]
         refine ⟨rfl, rfl, ?_, by omega⟩
         rw [show s.left.toNat = k + (s.left - (k : Int)).toNat by omega, List.take_add]
       · rw [if_neg hle, if_neg (by omega)]
         exact ⟨rfl, rfl, List.take_append_drop k b, by omega⟩
 · rw [if_neg hk] at hx ⊢
   by_cases hk3 : s.fk = 3
   · rw [if_pos hk3] at hx ⊢
     have hch := hg.ch hp hk3
     have hm := minI_le room (100 + 1 - s.size)
     have hrk : 1 ≤ minI room (100 + 1 - s.size) := by omega
     have hfl := feedS_len (minI room (100 + 1 - s.size)) s.ck (b.take q)
     have hbad := feedS_bad (b.drop q) (minI room (100 + 1 - s.size)) (b.take q) s.ck [] 0 [] 0
     have hpiece := feedS_piece (b.drop q) (minI room (100 + 1 - s.size)) (b.take q) s.ck [] 0 [] 0
     have hmv : ∀ y p, b.take q = y :: p → ¬ s.ck.ph = 4 → (feedS (minI room (100 + 1 - s.size)) s.ck [] 0 (b.take q)).1 = 0 → 1 ≤ (feedS (minI room (100 + 1 - s.size)) s.ck [] 0 (b.take q)).2.2.2 := fun y p e h4 h => by
      rw [e] at h ⊢
      exact feedS_moves h4 hrk h
     have hnil : q = 0 → feedS (minI room (100 + 1 - s.size)) s.ck [] 0 (b.take q) = (0, s.ck, [], 0) := fun h => by
      subst h; rw [List.take_zero]; rfl
     have hd4 : s.ck.ph = 4 → feedS (minI room (100 + 1 - s.size)) s.ck [] 0 (b.take q) = (0, s.ck, [], 0) := fun h => by
      cases b.take q with
      | nil => rfl
      | cons y p => exact feedS_stop (.inl h)
     rw [List.take_append_drop] at hbad hpiece
     rw [hql] at hfl
     generalize feedS (minI room (100 + 1 - s.size)) s.ck [] 0 (b.take q) = f at *
     by_cases he : f.1 = 0
     · rw [if_neg (fun h => h he)] at hx
       obtain ⟨d, m, e1, e2, e3, e4, e5⟩ := hpiece he
       rw [List.nil_append] at e1 e5
       rw [Nat.zero_add] at e2 e5
       rw [hql] at e3
       rw [if_neg (by omega)] at hx
       have hfu : (feedU f.2.1 [] 0 (b.drop m)).1 = (feedU s.ck [] 0 b).1 ∧ (feedU s.ck [] 0 b).2.1 = (feedU f.2.1 [] 0 (b.drop m)).2.1 ∧ ((feedU s.ck [] 0 b).1 = 0 → (feedU s.ck [] 0 b).2.2.1 = d ++ (feedU f.2.1 [] 0 (b.drop m)).2.2.1 ∧ (feedU s.ck [] 0 b).2.2.2 = m + (feedU f.2.1 [] 0 (b.drop m)).2.2.2) := by
        rw [e5, feedU_shift (b.drop m) f.2.1 d m]
        refine ⟨?_, ?_, fun h => ?_⟩
        · split
          · rename_i h1; exact h1
          · rfl
        · split
          · rfl
          · rename_i h1
            rw [feedU_zero _ _ _ _ h1]
        · split at h
          · rename_i h1; rw [if_pos h1]; exact ⟨rfl, rfl⟩
          · rename_i h1; exact absurd h h1
       by_cases ho : 0 < f.2.2.1.length
       · rw [if_pos ho] at hx
         have hok' := hok (by rw [hx])
         rw [hx] at hok' ⊢
         have hm1 : 1 ≤ m := by rw [e1] at ho; omega
         refine ⟨fun h => absurd rfl h, fun _ h => absurd h (by show ¬ (2 : Int) = 3; decide), fun _ _ h => absurd h.1 (by show ¬ (2 : Int) = 0; decide), fun _ _ _ => ⟨by dsimp only; omega, by dsimp only; omega, hp, ⟨hok', .inr hp, fun h => absurd hp (by dsimp only at h; omega), fun _ _ => ?_⟩, ?_⟩⟩
         · dsimp only; rw [List.length_drop, e1, e2]; omega
         · dsimp only
           rw [if_neg hk, if_pos hk3, e2, hfu.1, hfu.2.1]
           by_cases h0 : (feedU s.ck [] 0 b).1 = 0
           · rw [if_pos h0, if_pos h0, (hfu.2.2 h0).1, (hfu.2.2 h0).2, e1]
             exact ⟨rfl, rfl, rfl, rfl⟩
           · rw [if_neg h0, if_neg h0]
             exact rfl
       · rw [if_neg ho] at hx
         have hd0 : d = [] := by rw [e1] at ho; exact List.eq_nil_of_length_eq_zero (by omega)
         subst hd0
         by_cases h4 : f.2.1.ph = 4
         · rw [if_pos h4] at hx
           rw [hx]
           refine ⟨fun h => absurd rfl h, fun _ _ => ⟨rfl, s, ?_, rfl⟩, fun _ h => absurd rfl h, fun _ h => absurd rfl h⟩
           dsimp only
           have h5 := feedU_done h4 [] 0 (b.drop m)
           rw [h5] at hfu
           rw [if_pos hfu.1.symm, hfu.2.1, if_pos h4, (hfu.2.2 hfu.1.symm).1, (hfu.2.2 hfu.1.symm).2, e2]
           rfl
         · rw [if_neg h4] at hx
           by_cases hm0 : m = 0
           · have hck : ¬ s.ck.ph = 4 := fun h => by
              rw [hd4 h] at h4; exact h4 h
             have hq0 : q = 0 := by
              rcases Nat.eq_zero_or_pos q with h | h
              · exact h
              · exfalso
                cases hbt : b.take q with
                | nil => rw [hbt] at hql; simp at hql; omega
                | cons y p => have := hmv y p hbt hck he; omega
             have hff := hnil hq0
             rw [hx]
             refine ⟨fun h => absurd rfl h, fun _ h => absurd h (by show ¬ (0 : Int) = 3; decide), fun _ _ _ => ⟨rfl, by rw [hff], fun hqb => ?_⟩, fun _ _ h => absurd ⟨rfl, by dsimp only; omega⟩ h⟩
             have : b = [] := List.eq_nil_of_length_eq_zero (by omega)
             subst this
             rw [feedU_nil, if_pos rfl, if_neg hck]
           · have hok' := hok (by rw [hx])
             rw [hx] at hok' ⊢
             refine ⟨fun h => absurd rfl h, fun _ h => absurd h (by show ¬ (0 : Int) = 3; decide), fun _ _ h => absurd h.2 (by dsimp only; omega), fun _ _ _ => ⟨by dsimp only; omega, by dsimp only; omega, hp, ⟨hok', .inr hp, fun h => absurd hp (by dsimp only at h; omega), fun _ _ => ?_⟩, ?_⟩⟩
             · dsimp only; rw [List.length_drop, e2]; omega
             · dsimp only
               rw [if_neg hk, if_pos hk3, e2, hfu.1, hfu.2.1]
               by_cases h0 : (feedU s.ck [] 0 b).1 = 0
               · rw [if_pos h0, if_pos h0, (hfu.2.2 h0).1, (hfu.2.2 h0).2]
                 exact ⟨rfl, rfl, rfl, rfl⟩
               · rw [if_neg h0, if_neg h0]
                 exact rfl
     · rw [if_pos he] at hx
       have h1 := hbad he
       rw [hx]
       refine ⟨fun _ => ?_, fun h => absurd h he, fun h => absurd h he, fun h => absurd h he⟩
       rw [h1, if_neg he]
       rfl
   · rw [if_neg hk3] at hx ⊢
     have hm1 := minI_le room (b.take q).length
     have hm2 := minI_le (minI room (b.take q).length) (100 + 1 - s.size)
     rw [hql] at hm1 hm2 hx
     obtain ⟨k, hkk⟩ : ∃ k : Nat, minI (minI room (q : Int)) (100 + 1 - s.size) = (k : Int) := Int.eq_ofNat_of_zero_le (by omega)
     rw [hkk, Int.toNat_natCast] at hx
     by_cases hk0 : (k : Int) ≤ 0
     · rw [if_pos hk0] at hx
       have hq0 : q = 0 := by omega
       rw [hx]
       refine ⟨fun h => absurd rfl h, fun _ h => absurd h (by show ¬ (0 : Int) = 3; decide), fun _ _ _ => ⟨rfl, rfl, fun he => ?_⟩, fun _ _ h => absurd ⟨rfl, rfl⟩ h⟩
       have : b = [] := List.eq_nil_of_length_eq_zero (by omega)
       subst this
       rw [if_neg (by simp; omega)]
       rfl
     · rw [if_neg hk0] at hx
       by_cases hfull : 100 < s.size + (k : Int)
       · rw [if_pos hfull] at hx
         rw [hx]
         refine ⟨fun _ => ?_, fun h => absurd h (by show ¬ (9 : Int) = 0; decide), fun h => absurd h (by show ¬ (9 : Int) = 0; decide), fun h => absurd h (by show ¬ (9 : Int) = 0; decide)⟩
         rw [if_pos (by omega)]; rfl
       · rw [if_neg hfull] at hx
         have htt : (b.take q).take k = b.take k := by rw [List.take_take, Nat.min_eq_left (by omega)]
         rw [htt] at hx
         have hok' := hok (by rw [hx])
         rw [hx] at hok' ⊢
         refine ⟨fun h => absurd rfl h, fun _ h => absurd h (by show ¬ (2 : Int) = 3; decide), fun _ _ h => absurd h.1 (by show ¬ (2 : Int) = 0; decide), fun _ _ _ => ⟨by dsimp only; omega, by dsimp only; omega, hp, ⟨hok', .inr hp, fun h => absurd hp (by dsimp only at h; omega), fun _ h => absurd h hk3⟩, ?_⟩⟩
         dsimp only
         rw [if_neg hk, if_neg hk3, List.length_drop]
         by_cases hle : 100 < s.size + b.length
         · rw [if_pos hle, if_pos (by omega)]
           exact rfl
         · rw [if_neg hle, if_neg (by omega)]
           exact ⟨rfl, rfl, List.take_append_drop k b, by omega⟩
end Go.Proofs.YteoadfckcilalaaGreatDoor
namespace Go.Proofs.YteoadfckcilalaaGreatDoor
open Go.RowKit

theorem tok_no_colon {n : ByteArray} (h : tokS n = true) : ∀ c ∈ n.data.toList, c ≠ 58 := fun c hc => by
 unfold tokS at h
 simp only [Bool.and_eq_true] at h
 have h1 := List.all_eq_true.1 h.1 c hc
 intro e
 subst e
 have : tokB 58 = false := by decide +kernel
 rw [this] at h1; cases h1
theorem val_trim {v : ByteArray} (h : valS v = true) : trimBA v = v := by
 unfold valS at h
 simp only [Bool.and_eq_true] at h
 have h2 := h.2
 rw [toList_eq] at h2
 exact of_decide_eq_true h2
theorem parse_line (n v P : ByteArray) (hn : tokS n = true) (hv : valS v = true) (hP : P.data.toList = n.data.toList ++ 58 :: 32 :: v.data.toList) : parseF P = some (n, v) := by
 have hnl : n.data.toList.length = n.size := by rw [Array.length_toList]; rfl
 have hsz : P.size = n.size + (2 + v.data.toList.length) := by
  have : P.size = P.data.toList.length := by rw [Array.length_toList]; rfl
  rw [this, hP, List.length_append, hnl]; simp; omega
 have hlt : n.size < P.size := by omega
 have hat : P.data.toList[n.size]? = some 58 := by
  rw [hP, List.getElem?_append_right (by omega), hnl, Nat.sub_self]; rfl
 have hc : colonI P = (n.size : Int) := by
  refine colonI_at P n.size hlt ?_ (fun j hj => ?_)
  · have h2 : P.data.toList[n.size]? = some P[n.size] := by
     rw [List.getElem?_eq_getElem (by simpa using hlt)]; rfl
    rw [hat] at h2
    exact (Option.some.inj h2).symm
  · rw [hP, List.getElem?_append_left (by omega)]
    intro e
    exact tok_no_colon hn 58 (List.mem_of_getElem? e) rfl
 rw [parseF_at hc]
 have e1 : P.extract 0 n.size = n := ba_ext (by
  rw [extract_ofL]
  show (ofL _).data.toList = _
  simp only [ofL, List.drop_zero, Nat.sub_zero, hP]
  rw [List.take_left' hnl])
 have e2 : trimBA (P.extract (n.size + 1) P.size) = v := by
  rw [← val_trim hv]
  refine ba_ext ?_
  rw [trimBA_list, trimBA_list, extract_ofL]
  have e3 : (P.data.toList.drop (n.size + 1)).take (P.size - (n.size + 1)) = 32 :: v.data.toList := by
   rw [hP, show n.size + 1 = n.data.toList.length + 1 by omega, List.drop_append, List.drop_of_length_le (by omega), Nat.add_sub_cancel_left, List.nil_append]
   show List.take _ (32 :: v.data.toList) = _
   exact List.take_of_length_le (by rw [List.length_cons]; omega)
  show trimL (ofL ((P.data.toList.drop (n.size + 1)).take (P.size - (n.size + 1)))).data.toList = _
  rw [e3]
  show trimL (32 :: v.data.toList) = _
  rw [trimL_front _ 32 (by decide)]
 rw [e1, e2, if_pos (by unfold fldB; rw [hn, hv]; rfl)]

end Go.Proofs.YteoadfckcilalaaGreatDoor
namespace Go.Proofs.YteoadfckcilalaaGreatDoor
open Go.RowKit

def noCL (l : List UInt8) : Prop := ∀ c ∈ l, ¬ c = 13 ∧ ¬ c = 10
theorem noCL.app {a b : List UInt8} (ha : noCL a) (hb : noCL b) : noCL (a ++ b) := fun c hc => by
 rcases List.mem_append.1 hc with h | h
 · exact ha c h
 · exact hb c h
theorem lines_word : ∀ (l cur r : List UInt8), noCL l → linesGo cur (l ++ 13 :: 10 :: r) = (linesGo [] r).map (⟨(cur ++ l).toArray⟩ :: ·)
 | [], cur, r, _ => by
  rw [List.nil_append, lines_more (by decide) (fun _ => rfl), lines_end (by simp), List.dropLast_concat, List.append_nil]
 | c :: l, cur, r, h => by
  have hc := h c (List.mem_cons_self ..)
  rw [List.cons_append, lines_more hc.2 (fun e => absurd e hc.1), lines_word l (cur ++ [c]) r (fun x hx => h x (List.mem_cons_of_mem _ hx)), List.append_assoc]
  rfl
def wordsB (ws : List (List UInt8)) : List UInt8 := ws.flatMap (· ++ [13, 10])
theorem wordsB_cons (w : List UInt8) (ws : List (List UInt8)) : wordsB (w :: ws) = w ++ 13 :: 10 :: wordsB ws := by
 unfold wordsB; rw [List.flatMap_cons, List.append_assoc]; rfl
theorem lines_words : ∀ ws : List (List UInt8), (∀ w ∈ ws, noCL w) → linesGo [] (wordsB ws) = some (ws.map fun w => (⟨w.toArray⟩ : ByteArray))
 | [], _ => by rw [show wordsB [] = [] from rfl, lines_nil]; rfl
 | w :: ws, h => by
  rw [wordsB_cons, lines_word w [] _ (h w (List.mem_cons_self ..)), lines_words ws (fun x hx => h x (List.mem_cons_of_mem _ hx))]
  rfl
theorem endGo_word : ∀ (l r : List UInt8) (i : Nat), noCL l → endGo i (l ++ r) = endGo (i + l.length) r
 | [], r, i, _ => rfl
 | c :: l, r, i, h => by
  have hc := h c (List.mem_cons_self ..)
  rw [List.cons_append, endGo_cons, if_neg (fun e => by
   have := congrArg List.head? e
   rw [List.take_succ_cons] at this
   exact hc.1 (Option.some.inj this)), endGo_word l r (i + 1) (fun x hx => h x (List.mem_cons_of_mem _ hx)), List.length_cons, show i + 1 + l.length = i + (l.length + 1) by omega]
theorem end_words : ∀ (ws : List (List UInt8)) (i : Nat), ¬ ws = [] → (∀ w ∈ ws, noCL w ∧ ¬ w = []) → endGo i (wordsB ws ++ [13, 10]) = ((i + (wordsB ws).length + 2 : Nat) : Int)
 | [], _, h, _ => absurd rfl h
 | w :: ws, i, _, h => by
  have hw := h w (List.mem_cons_self ..)
  have e : wordsB (w :: ws) ++ [13, 10] = w ++ 13 :: 10 :: (wordsB ws ++ [13, 10]) := by rw [wordsB_cons, List.append_assoc]; rfl
  have hl : (wordsB (w :: ws)).length = w.length + 2 + (wordsB ws).length := by rw [wordsB_cons, List.length_append, List.length_cons, List.length_cons]; omega
  rw [e, endGo_word w _ i hw.1, hl]
  cases ws with
  | nil =>
   rw [show wordsB [] = [] from rfl, List.nil_append, endGo_cons, if_pos (show List.take 4 [13, 10, 13, 10] = crlf2 from rfl)]
   rw [List.length_nil]
   omega
  | cons v vs =>
   have hv := h v (List.mem_cons_of_mem _ (List.mem_cons_self ..))
   obtain ⟨c, v', rfl⟩ : ∃ c v', v = c :: v' := by
    cases v with
    | nil => exact absurd rfl hv.2
    | cons c v' => exact ⟨c, v', rfl⟩
   have hc := hv.1 c (List.mem_cons_self ..)
   have hn : wordsB ((c :: v') :: vs) ++ [13, 10] = c :: (v' ++ 13 :: 10 :: (wordsB vs ++ [13, 10])) := by rw [wordsB_cons, List.append_assoc]; rfl
   have ih := end_words ((c :: v') :: vs) (i + w.length + 2) (by simp) (fun x hx => h x (List.mem_cons_of_mem _ hx))
   rw [endGo_cons, if_neg (fun e => by
    rw [hn] at e
    have := congrArg (fun l => l[2]?) e
    simp only [List.take_succ_cons, crlf2] at this
    exact hc.1 (Option.some.inj this)), endGo_cons, if_neg (fun e => by
    have := congrArg List.head? e
    rw [List.take_succ_cons] at this
    have h2 := Option.some.inj this
    revert h2; decide), show i + w.length + 1 + 1 = i + w.length + 2 by omega, ih]
   omega
theorem linesS_words (ws : List (List UInt8)) (h0 : ¬ ws = []) (h : ∀ w ∈ ws, noCL w ∧ ¬ w = []) : linesS (wordsB ws ++ [13, 10]) = some (ws.map fun w => (⟨w.toArray⟩ : ByteArray)) := by
 have e : wordsB ws ++ [13, 10] = wordsB (ws ++ [[]]) := by unfold wordsB; rw [List.flatMap_append]; rfl
 have h1 := end_words ws 0 h0 h
 have h2 : endGo 0 (wordsB ws ++ [13, 10]) = ((0 + (wordsB ws ++ [13, 10]).length : Nat) : Int) := by
  rw [h1, List.length_append, List.length_cons, List.length_cons, List.length_nil]; omega
 have h3 := end_suffix _ 0 h2
 unfold linesS endZ
 rw [if_pos ⟨by rw [h2, Nat.zero_add], h3.1⟩, e, lines_words (ws ++ [[]]) (fun w hw => by
  rcases List.mem_append.1 hw with hw | hw
  · exact (h w hw).1
  · obtain rfl := List.mem_singleton.1 hw
    exact fun c hc => absurd hc (by simp)), Option.map_some, List.map_append, List.map_cons, List.map_nil, List.dropLast_concat]
def lineW (f : Fld) : List UInt8 := f.1.data.toList ++ [58, 32] ++ f.2.data.toList
theorem linesB_words : ∀ x : List Fld, linesB x = wordsB (x.map lineW)
 | [] => rfl
 | f :: r => by
  have ih := linesB_words r
  unfold linesB at ih ⊢
  rw [List.flatMap_cons, List.map_cons, wordsB_cons, ← ih]
  unfold lineB lineW
  simp
theorem tok_noCL {m : ByteArray} (h : tokS m = true) : noCL m.data.toList := fun c hc => by
 unfold tokS at h
 rw [Bool.and_eq_true] at h
 have h1 := List.all_eq_true.1 h.1 c hc
 constructor
 · rintro rfl; revert h1; decide +kernel
 · rintro rfl; revert h1; decide +kernel
theorem targ_noCL {m : ByteArray} (h : targetS m = true) : noCL m.data.toList := fun c hc => by
 unfold targetS at h
 rw [Bool.and_eq_true] at h
 have h1 := List.all_eq_true.1 h.1 c hc
 constructor
 · rintro rfl; revert h1; decide +kernel
 · rintro rfl; revert h1; decide +kernel
theorem vis_noCL {m : ByteArray} (h : visS m = true) : noCL m.data.toList := fun c hc => by
 unfold visS at h
 have h1 := List.all_eq_true.1 h c hc
 constructor
 · rintro rfl; revert h1; decide +kernel
 · rintro rfl; revert h1; decide +kernel
def noCLb (l : List UInt8) : Bool := l.all fun c => !(c == 13) && !(c == 10)
theorem noCLb_ok {l : List UInt8} (h : noCLb l = true) : noCL l := fun c hc => by
 have := List.all_eq_true.1 h c hc
 simpa using this
theorem num_noCL {z : Int} (h0 : 0 ≤ z) (h1 : z ≤ 599) : noCL (fmtS 10 z).data.toList := by
 obtain ⟨k, rfl⟩ : ∃ k : Nat, z = k := ⟨z.toNat, by omega⟩
 have hk : k < 600 := by omega
 have h : ∀ m : Fin 600, noCLb (fmtS 10 (m.val : Int)).data.toList = true := by decide +kernel
 exact noCLb_ok (h ⟨k, hk⟩)
theorem nonempty_ba {s : ByteArray} (h : 0 < s.size) : ¬ s.data.toList = [] := fun e => by
 have h1 := congrArg List.length e
 rw [Array.length_toList, List.length_nil] at h1
 have h2 : s.data.size = s.size := rfl
 omega
theorem lineW_ok {f : Fld} (h : fldB f.1 f.2 = true) : noCL (lineW f) ∧ ¬ lineW f = [] := by
 unfold fldB at h
 rw [Bool.and_eq_true] at h
 have hv := h.2
 unfold valS at hv
 rw [Bool.and_eq_true] at hv
 refine ⟨((tok_noCL h.1).app (noCLb_ok (by decide))).app (vis_noCL hv.1), fun e => ?_⟩
 have h1 := congrArg List.length e
 unfold lineW at h1
 simp at h1
theorem fieldsGo_words : ∀ x : List Fld, allB x = true → fieldsGo (x.map fun f => (⟨(lineW f).toArray⟩ : ByteArray)) = some x
 | [], _ => rfl
 | f :: r, h => by
  have h0 := h
  unfold allB at h0
  rw [List.all_cons, Bool.and_eq_true] at h0
  have hf := h0.1
  unfold fldB at hf
  rw [Bool.and_eq_true] at hf
  have hp : parseF (⟨(lineW f).toArray⟩ : ByteArray) = some f := parse_line f.1 f.2 _ hf.1 hf.2 (by show lineW f = _; unfold lineW; simp)
  rw [List.map_cons]
  unfold fieldsGo
  rw [hp]
  simp only []
  rw [fieldsGo_words r h0.2]; rfl
theorem fieldsS_words {x : List Fld} (h : allB x = true) : fieldsS (x.map fun f => (⟨(lineW f).toArray⟩ : ByteArray)) = if 64 < x.length then (3, []) else (0, x) := by
 unfold fieldsS
 rw [List.length_map, fieldsGo_words x h]
theorem linesS_head {s : ByteArray} {x : List Fld} (hs : noCL s.data.toList) (h0 : 0 < s.size) (hx : allB x = true) : linesS (headB s x) = some (s :: x.map fun f => (⟨(lineW f).toArray⟩ : ByteArray)) := by
 have e : headB s x = wordsB (s.data.toList :: x.map lineW) ++ [13, 10] := by
  rw [headB_yes (by omega) hx, wordsB_cons, linesB_words x]
  simp
 rw [e, linesS_words _ (by simp) (fun w hw => by
  rcases List.mem_cons.1 hw with rfl | hw
  · exact ⟨hs, nonempty_ba h0⟩
  · obtain ⟨f, hf, rfl⟩ := List.mem_map.1 hw
    unfold allB at hx
    exact lineW_ok (List.all_eq_true.1 hx f hf)), List.map_cons, List.map_map]
 rfl
theorem fmtReq_line {m t : ByteArray} {z : Int} (hm : tokS m = true) (ht : targetS t = true) (hz : z = 0 ∨ z = 1) : noCL (fmtReq m t z).data.toList ∧ 0 < (fmtReq m t z).size := by
 unfold fmtReq
 rw [if_pos ⟨hm, ht, by omega, by omega⟩]
 refine ⟨?_, by simp only [ByteArray.size_append]; have e1 : http1.size = 8 := rfl; omega⟩
 rw [ba_app_list, ba_app_list, ba_app_list, ba_app_list]
 exact ((((tok_noCL hm).app (noCLb_ok (by decide))).app (targ_noCL ht)).app (noCLb_ok (by decide))).app (num_noCL (by omega) (by omega))
theorem headR_made {m t : ByteArray} {z : Int} {x : List Fld} (hm : tokS m = true) (ht : targetS t = true) (hz : z = 0 ∨ z = 1) (hx : allB x = true) :
  headR (headB (fmtReq m t z) x) = if 64 < x.length then (3, ⟨#[]⟩, ⟨#[]⟩, 0, []) else if 1 < (valuesL x hostN).length ∨ ((valuesL x hostN).length = 0 ∧ z = 1) then (2, ⟨#[]⟩, ⟨#[]⟩, 0, []) else (0, m, t, z, x) := by
 obtain ⟨h1, h2⟩ := fmtReq_line hm ht hz
 have h3 := linesS_head h1 h2 hx
 have h4 := twice_req hm ht hz
 have h5 := fieldsS_words hx
 unfold headR
 rw [h3]
 simp only []
 rw [h4]
 simp only []
 rw [h5]
 by_cases h64 : 64 < x.length
 · simp only [if_pos h64]; rfl
 · simp only [if_neg h64]; rfl
theorem fmtRep_line {st z : Int} {r : ByteArray} (h0 : 100 ≤ st) (h1 : st ≤ 599) (hz : z = 0 ∨ z = 1) (hr : visS r = true) : noCL (fmtRep st r z).data.toList := by
 unfold fmtRep
 rw [if_pos ⟨h0, h1, by omega, by omega, hr⟩]
 rw [ba_app_list, ba_app_list, ba_app_list, ba_app_list, ba_app_list]
 exact (((((noCLb_ok (by decide) : noCL http0.data.toList).app (num_noCL (by omega) (by omega))).app (noCLb_ok (by decide))).app (num_noCL (by omega) h1)).app (noCLb_ok (by decide))).app (vis_noCL hr)
end Go.Proofs.YteoadfckcilalaaGreatDoor
