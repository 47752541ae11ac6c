/- awake of the laws on readers. What follows the text (padding), and Sum. The digest and the state in the reference. The state in the reference; the small functions of the laws. The law ReaderLimits, its bytes. Interim replies are left out. The law ReaderLimits. The law ReaderLimits: what eight rounds of Next lead to. -/
import Derived.Test.YtejbkbccljoldaaGreatDoorPk1
import Derived.Test.YtejbkbccljoldaaGreatDoorPk2
import Derived.Test.YtejbkbccljoldaaGreatDoorPk3
import Derived.Test.YtejbkbccljoldaaGreatDoorPk4
import Derived.Test.YtejbkbccljoldaaGreatDoorPk5
import Derived.Test.YtejbkbccljoldaaGreatDoorPk6
import Derived.Test.YtejbkbccljoldaaGreatDoorPk7
import Derived.Test.YtejbkbccljoldaaGreatDoorPk8
import Derived.Test.YtejbkbccljoldaaGreatDoorPk9
import Derived.Test.YtejbkbccljoldaaGreatDoorPk10
import Derived.Test.YtejbkbccljoldaaGreatDoorRows
import Derived.WalkKit
import Derived.WalkSpells
import Derived.WalkLawsBesides
import Derived.BigQuiet
import Derived.Deep.QuietTactic
import Derived.Lib.Bytealg
import Derived.Lib.IndexLaws
import Derived.Lib.Hide
import Derived.Laws.IdiomStrings
import Derived.Lib.SlTrimSet
import Derived.Lib.IndexBytes
import Derived.Lib.Split
import Derived.Deep.AppendLies
import Derived.Shelf.Strings.SlTrimAscii
import Derived.Shelf.Strings.SplitShaped
import Derived.Shelf.LaysM
import Derived.Shelf.Strings.BuilderK
import Derived.Shelf.Strconv.Itoa4
import Derived.Shelf.Strings.Prefix
import Derived.Shelf.Bytes.SlIndexWhole
import Derived.Test.YtejbkbccljoldaaGreatDoorProg
import Derived.Lib.SplitLaws
import Derived.WalkSmall
import Derived.ProofKit
import Derived.OpenShut
import Derived.Lib.Strings
import Derived.SliceStrings
import Derived.Deep.Quiet
import Derived.Tactics
import Derived.KernelRfl
import Derived.Below
import Derived.Laws.Bits64
import Derived.Lib.SlBytesConst
import Derived.Maps.AppendAt
import Derived.Laws.AppendOwnNone
import Derived.Great.BuildSlice
import Derived.Laws.Rows
import Derived.Laws.BitsAllLaws
import Derived.Laws.Shifts
import Derived.Maps.OwnOps
import Derived.Maps.OwnSet
import Derived.Deep.SlicePairs
import Derived.Lib.AppendZerosOnto
import Derived.Lib.AppendStr
import Derived.Laws.CopyOwn
import Derived.OwnWalk
import Derived.Laws.Strings3
import Derived.Laws.Concat
import Derived.Lib.ItoaMem
import Derived.Deep.RegionHeld3
import Derived.IntWalk
import Derived.Laws.RangeAny
import Derived.LoopTactic
import Derived.Sort.Grow
import Derived.Lib.ConvBytes
import Derived.Deep.DeepCutAuto
import Derived.Deep.MidRow
import Derived.Laws.Tables
import Derived.Deep.WholeRow
import Derived.StillTailTactics
import Derived.Deep.CutBlock
import Derived.Lib.LaidTab
import Derived.LaidSub
import Derived.Laws.Bits64b
import Derived.Lib.FrozenHead2
import Derived.Deep.Matrix
import Derived.Lib.LazyBuf
import Derived.ArgAppend
namespace Go.Proofs.YtejbkbccljoldaaGreatDoor
open Go.RowKit

set_option linter.unusedVariables false
def akR : List UInt8 := [80, 79, 83, 84, 32, 47, 32, 72, 84, 84, 80, 47, 49, 46, 49, 13, 10, 72, 111, 115, 116, 58, 32, 97, 13, 10, 67, 111, 110, 116, 101, 110, 116, 45, 76, 101, 110, 103, 116, 104, 58, 32, 51, 13, 10, 13, 10, 97, 98, 99, 71, 69, 84]
def ak1 : NX := nextX zeroR akR 100 10 10
def ak2 : NX := nextX ak1.r (akR.drop 47) 100 10 10
def ak3 : NX := nextX ak2.r (akR.drop 50) 100 10 10
theorem ak1_f : ak1.er = 0 ∧ ak1.kind = 1 ∧ ak1.n = 47 ∧ ak1.r.fr = true := by decide +kernel
theorem ak2_f : ak2.er = 0 ∧ ak2.kind = 2 ∧ ak2.n = 3 ∧ ak2.data = [97, 98, 99] := by decide +kernel
theorem ak3_f : ak3.er = 0 ∧ ak3.kind = 3 ∧ ak3.n = 0 := by decide +kernel
theorem okN_zero : OkN 10 zeroR := ⟨okC_zeroR, .inl rfl, fun h => absurd h (by decide), fun h => absurd h (by decide), fun h => absurd h (by decide), fun h => absurd h (by decide)⟩
theorem ak1_ok : OkN 10 ak1.r := (nextX_ok (by decide) (by decide) okN_zero ak1_f.1).1
theorem ak2_ok : OkN 10 ak2.r := (nextX_ok (by decide) (by decide) ak1_ok ak2_f.1).1
theorem ak1_nm : NmS ak1.r := nextX_names nmS_zero _ _ _ _
theorem ak2_nm : NmS ak2.r := nextX_names ak1_nm _ _ _ _
theorem ak3_nm : NmS ak3.r := nextX_names ak2_nm _ _ _ _
section
variable {L : (Nat → Prop) × (Nat → Prop)} {N q : Nat} {s : RS} {x : NX} {w : World} {v : Value} {cs ds : Array Value} {T : TypeId} {fz : Nat × Nat}
theorem NxV.rowL (h : NxV L x w v) (hq : ¬ L.1 q) (hr : w.heap[q]? = some (.cells cs T fz)) (hu : NoU8 cs) : NxV L x (w.setRow q ds) v := by
  obtain ⟨fa, fc, ga, gc, la, lc, pa, pc, h1, h2, h3⟩ := h
  exact ⟨fa, fc, ga, gc, la, lc, pa, pc, h1, h2.rowL hq hr hu, isBytes_rowR hr hu h3⟩
theorem AgS.rowL (h : AgS L s w v) (hq : ¬ L.1 q) (hr : w.heap[q]? = some (.cells cs T fz)) (hu : NoU8 cs) : AgS L s (w.setRow q ds) v := by
  obtain ⟨fa, fc, ga, gc, la, lc, h1, h2⟩ := h
  exact ⟨fa, fc, ga, gc, la, lc, h1, h2.rowL hq hr hu⟩
theorem prow_noStr (k : Int) (a : Option Addr) (n c : Nat) : NoStr #[.int .i64 k, .slice a n c] := noStr_of rfl
theorem prow_noU8 (k : Int) (a : Option Addr) (n c : Nat) : NoU8 #[.int .i64 k, .slice a n c] := noU8_22 rfl
end
theorem wp_storePo {a : Act} {w : World} {o : Oper} {Q : Exit → Act → World → Prop} {K : Act → World → Prop} {y z : Operand} (ho : o.op = .store 41 y z) {g : Nat} {x x0 : NX} (h1 : a.eval y = .pointer (some ⟨g, 0, none⟩)) (h0 : PtV x0 w g) (h2 : AgP x w (a.eval z)) (hK : ∀ cs ds, PVr w g ds → NoU8 ds → NoStr ds → PtV x (w.setRow g cs) g → K (a.put o.dst undef) (w.setRow g cs)) : o.wp Tryz.prog a w K Q := by
  obtain ⟨pa0, pc0, hr0, _⟩ := h0
  obtain ⟨pa, pc, e2, h3⟩ := h2
  refine wp_store_row 41 _ _ ho g #[.int .i64 x.kind, .slice pa (List.length x.data) pc] h1 e2 41 _ hr0 sizePt rfl (onePt ..) ?_
  exact hK _ _ hr0 (prow_noU8 _ _ _ _) (prow_noStr _ _ _ _) ⟨pa, pc, setRow_heap _ _ _ _ _ _ hr0, isBytes_rowR hr0 (prow_noU8 _ _ _ _) h3⟩
/-- In awake: the two variables, the bytes. -/
structure AwJ (w : World) (g2 g3 : Nat) (s : RS) (y : NX) (W : World) : Prop where
  st : StV (fun k => k ≠ g2, fun _ => True) s W g2
  pt : PtV y W g3
  bt : IsBytes W (some ⟨w.heap.size, 0, none⟩) akR 53
  bl : Below w.heap.size w W
  ne : g3 ≠ g2 ∧ w.heap.size ≤ g2 ∧ w.heap.size ≤ g3 ∧ g2 < W.heap.size ∧ g3 < W.heap.size
theorem AwJ.keep {w : World} {g2 g3 : Nat} {s : RS} {y : NX} {W W' : World} (h : AwJ w g2 g3 s y W) (hb : Below W.heap.size W W') : AwJ w g2 g3 s y W' :=
  ⟨h.st.keep hb, h.pt.keep hb, h.bt.keep hb, below_trans h.bl hb, h.ne.1, h.ne.2.1, h.ne.2.2.1, Nat.lt_of_lt_of_le h.ne.2.2.2.1 hb.size, Nat.lt_of_lt_of_le h.ne.2.2.2.2 hb.size⟩
set_option maxRecDepth 100000 in
set_option maxHeartbeats 2000000 in
theorem awakeN_any (mm : Int) (w : World) (hm : HdOk w mm) : Calls Tryz.prog 17 #[] w fun e w' => e = .returned (.bool true) ∧ Below w.heap.size w w' := by
  have kc := fun (w : World) (C : Array Value) (n c : Nat) => Lib.run_convert_bytes_const (P := Tryz.prog) w 23 5 C n c Tryz.underlying23 Tryz.underlying5
  have HM := Box.mk hm
  clear hm
  go_enter Tryz.func17, Tryz.ntmps17
  go_wp2_with fail
  clear kc
  obtain ⟨W1, hW1⟩ : ∃ W1, W1 = w.alloc (.cells (bytesV akR).toArray 5 (53, 54)) := ⟨_, rfl⟩
  have HB1 := Box.mk (show Below w.heap.size w W1 by rw [hW1]; exact below_oneF w _)
  have HBY := Box.mk (show IsBytes W1 (some ⟨w.heap.size, 0, none⟩) akR 53 by rw [hW1]; exact row_bytesH (heap_alloc_new w (.cells (bytesV akR).toArray 5 (53, 54))) (by decide))
  change Calls _ _ _ (w.alloc (.cells (bytesV akR).toArray 5 (53, 54))) _
  rw [← hW1]
  clear hW1
  refine (forRequest_any W1).mono ?_
  rintro e w2 ⟨rfl, hb2⟩
  have HBY2 := Box.mk (HBY.out.keep hb2)
  have HB2 := Box.mk (below_trans HB1.out hb2)
  clear hb2 HBY HB1
  have HC := Box.mk (show Calls Tryz.prog 12 #[.agg #[.bool false, .string ⟨#[]⟩, .int .i64 0, .string ⟨#[]⟩, .string ⟨#[]⟩, .int .i64 0, .slice none 0 0, .bool false, .slice none 0 0, .int .i64 0, .string ⟨#[]⟩, .int .i64 0, .slice none 0 0, .slice none 0 0, .int .i64 0, .int .i64 0, .int .i64 0, .int .i64 0, .int .i64 0, .int .i64 0, .int .i64 0, .slice none 0 0], .slice (some ⟨w.heap.size, 0, none⟩) 53 53, .int .i64 100, .int .i64 10, .int .i64 10] w2 (RetX (fun _ => True) w2 ak1) from projNext_any (fun _ => True) zeroR akR 100 10 10 (some ⟨w.heap.size, 0, none⟩) 53 none none none 0 0 0 w2 mm HBY2.out (by decide) ⟨FldsIn.nil _ _, FldsIn.nil _ _, .inl ⟨rfl, rfl, rfl⟩, (fun y e => by cases e), (fun y e => by cases e)⟩ (HM.out.keep HB2.out) okN_zero (by decide) (by decide) (fun _ _ => trivial))
  go_wp2_with fail
  refine HC.out.mono ?_
  rintro e w3 ⟨f4, c4, g4, d4, l4, e4, pa, pc, he, hm3, hd3, hb3⟩
  obtain ⟨cr, hcr⟩ : ∃ cr : Array Value, cr = #[.bool ak1.r.rep, .string ak1.r.meth, .int .i64 ak1.r.ph, .string ak1.r.m, .string ak1.r.t, .int .i64 ak1.r.z, .slice f4 (List.length ak1.r.xs) c4, .bool ak1.r.fr, .slice none 0 0, .int .i64 ak1.r.st, .string ak1.r.rs, .int .i64 ak1.r.z2, .slice g4 (List.length ak1.r.ys) d4, .slice none 0 0, .int .i64 ak1.r.fk, .int .i64 ak1.r.fl, .int .i64 ak1.r.left, .int .i64 ak1.r.size, .int .i64 ak1.r.ck.ph, .int .i64 ak1.r.ck.left, .int .i64 ak1.r.ck.tr, .slice l4 (List.length ak1.r.ck.line) e4] := ⟨_, rfl⟩
  obtain ⟨pr, hpr⟩ : ∃ pr : Array Value, pr = #[.int .i64 ak1.kind, .slice pa (List.length ak1.data) pc] := ⟨_, rfl⟩
  rw [← hcr, ← hpr, ak1_f.1, ak1_f.2.2.1] at he
  subst he
  have HCR := Box.mk hcr
  have HPR := Box.mk hpr
  have hcr22 : cr.size = 22 := by rw [hcr]; rfl
  have hcr1 : cr.all (·.oneCell') = true := by rw [hcr]; exact oneRd ..
  have hpr2 : pr.size = 2 := by rw [hpr]; rfl
  have hpr1 : pr.all (·.oneCell') = true := by rw [hpr]; exact onePt ..
  have HSR := Box.mk (show (Tryz.prog.info? 37).map (·.size) = some cr.size by rw [hcr22]; exact sizeRd)
  have HSP := Box.mk (show (Tryz.prog.info? 41).map (·.size) = some pr.size by rw [hpr2]; exact sizePt)
  have HB3 := Box.mk (below_trans HB2.out hb3)
  have HBY3 := Box.mk (HBY2.out.keep hb3)
  have HR3 := Box.mk hm3
  have HD3 := Box.mk hd3
  have hw3 := HB3.out.size
  clear hcr hpr hm3 hd3 hb3 HC HB2 HBY2
  obtain ⟨W4, hW4⟩ : ∃ W4, W4 = (w3.alloc (.cells #[.bool false, .string ⟨#[]⟩, .int .i64 0, .string ⟨#[]⟩, .string ⟨#[]⟩, .int .i64 0, .slice none 0 0, .bool false, .slice none 0 0, .int .i64 0, .string ⟨#[]⟩, .int .i64 0, .slice none 0 0, .slice none 0 0, .int .i64 0, .int .i64 0, .int .i64 0, .int .i64 0, .int .i64 0, .int .i64 0, .int .i64 0, .slice none 0 0] 37)).alloc (.cells #[.int .i64 0, .slice none 0 0] 41) := ⟨_, rfl⟩
  have HV2 := Box.mk (show RVr W4 w3.heap.size #[.bool false, .string ⟨#[]⟩, .int .i64 0, .string ⟨#[]⟩, .string ⟨#[]⟩, .int .i64 0, .slice none 0 0, .bool false, .slice none 0 0, .int .i64 0, .string ⟨#[]⟩, .int .i64 0, .slice none 0 0, .slice none 0 0, .int .i64 0, .int .i64 0, .int .i64 0, .int .i64 0, .int .i64 0, .int .i64 0, .int .i64 0, .slice none 0 0] by rw [hW4]; exact RVr.keep (heap_alloc_new w3 (.cells #[.bool false, .string ⟨#[]⟩, .int .i64 0, .string ⟨#[]⟩, .string ⟨#[]⟩, .int .i64 0, .slice none 0 0, .bool false, .slice none 0 0, .int .i64 0, .string ⟨#[]⟩, .int .i64 0, .slice none 0 0, .slice none 0 0, .int .i64 0, .int .i64 0, .int .i64 0, .int .i64 0, .int .i64 0, .int .i64 0, .int .i64 0, .slice none 0 0] 37)) (below_oneF _ _))
  have HV3 := Box.mk (show PVr W4 (w3.heap.size + 1) #[.int .i64 0, .slice none 0 0] by
    have h := heap_alloc_new (w3.alloc (.cells #[.bool false, .string ⟨#[]⟩, .int .i64 0, .string ⟨#[]⟩, .string ⟨#[]⟩, .int .i64 0, .slice none 0 0, .bool false, .slice none 0 0, .int .i64 0, .string ⟨#[]⟩, .int .i64 0, .slice none 0 0, .slice none 0 0, .int .i64 0, .int .i64 0, .int .i64 0, .int .i64 0, .int .i64 0, .int .i64 0, .int .i64 0, .slice none 0 0] 37)) (.cells #[.int .i64 0, .slice none 0 0] 41)
    rw [World.size_alloc] at h
    rw [hW4]; exact h)
  have HB4 := Box.mk (show Below w3.heap.size w3 W4 by rw [hW4]; exact below_twoF (below_oneF _ _) _)
  have HV3b := Box.mk (show PVr (W4.setRow w3.heap.size cr) (w3.heap.size + 1) #[.int .i64 0, .slice none 0 0] from (setRow_other _ _ _ _ (by omega)).trans HV3.out)
  rw [hW4] at HV2 HV3b
  go_upto_region 3 with (first | refine wpList_store_row rfl 37 _ _ rfl w3.heap.size cr rfl rfl 37 _ HV2.out HSR.out (by rw [hcr22]; rfl) hcr1 ?_ | refine wpList_store_row rfl 41 _ _ rfl (w3.heap.size + 1) pr rfl rfl 41 _ HV3b.out HSP.out (by rw [hpr2]; rfl) hpr1 ?_)
  rw [← hW4] at HV2 HV3b
  rw [← hW4]
  clear hW4
  obtain ⟨g2, hg2⟩ : ∃ g2, g2 = w3.heap.size := ⟨_, rfl⟩
  obtain ⟨g3, hg3⟩ : ∃ g3, g3 = w3.heap.size + 1 := ⟨_, rfl⟩
  obtain ⟨W5, hW5⟩ : ∃ W5, W5 = (W4.setRow w3.heap.size cr).setRow (w3.heap.size + 1) pr := ⟨_, rfl⟩
  have hR5 : RVr W5 g2 #[.bool ak1.r.rep, .string ak1.r.meth, .int .i64 ak1.r.ph, .string ak1.r.m, .string ak1.r.t, .int .i64 ak1.r.z, .slice f4 (List.length ak1.r.xs) c4, .bool ak1.r.fr, .slice none 0 0, .int .i64 ak1.r.st, .string ak1.r.rs, .int .i64 ak1.r.z2, .slice g4 (List.length ak1.r.ys) d4, .slice none 0 0, .int .i64 ak1.r.fk, .int .i64 ak1.r.fl, .int .i64 ak1.r.left, .int .i64 ak1.r.size, .int .i64 ak1.r.ck.ph, .int .i64 ak1.r.ck.left, .int .i64 ak1.r.ck.tr, .slice l4 (List.length ak1.r.ck.line) e4] := by rw [hW5, hg2, ← HCR.out]; exact (setRow_other _ _ _ _ (by omega)).trans (setRow_heap _ _ _ _ _ _ HV2.out)
  have hP5 : PVr W5 g3 #[.int .i64 ak1.kind, .slice pa (List.length ak1.data) pc] := by rw [hW5, hg3, ← HPR.out]; exact setRow_heap _ _ _ _ _ _ HV3b.out
  have hb35 : Below w3.heap.size w3 W5 := by rw [hW5]; exact below_setRow (below_setRow HB4.out (Nat.le_refl _) _) (by omega) _
  have hm5 := HR3.out.keep hb35
  have HJ := Box.mk (show AwJ w g2 g3 ak1.r ak1 W5 from ⟨⟨f4, c4, g4, d4, l4, e4, hR5, ⟨hm5.f1, hm5.f2, hm5.ln, fun y e hx => by have := HR3.out.f1.old e hx; show y.block ≠ g2; omega, fun y e hx => by have := HR3.out.f2.old e hx; show y.block ≠ g2; omega⟩, fun _ _ _ => trivial⟩, ⟨pa, pc, hP5, HD3.out.keep hb35⟩, HBY3.out.keep hb35, below_trans HB3.out hb35, by omega, by omega, by omega, hR5.lt, (Array.getElem?_eq_some_iff.1 hP5).1⟩)
  have hk0 : W5.cell? ⟨g3, 0, none⟩ = some (.int .i64 1) := by rw [cell_of_row _ _ _ _ _ _ hP5]; show some (Value.int .i64 ak1.kind) = _; rw [ak1_f.2.1]
  have hk7 : W5.cell? ⟨g2, 7, none⟩ = some (.bool true) := by rw [RVr.cell hR5]; show some (Value.bool ak1.r.fr) = _; rw [ak1_f.2.2.2]
  rw [← hg3]
  rw [← hg3] at hW5
  rw [← hg2]
  rw [← hg2] at hW5
  rw [← hW5]
  clear hW5 hR5 hP5 hb35 hm5 HV2 HV3 HV3b HB4 HCR HPR HSR HSP hcr1 hpr1 hcr22 hpr2 HB3 HBY3 HR3 HD3 hg2 hg3 hw3
  go_wp2_with fail
  rename_i K hK
  clear hk0 hk7
  refine wp_region_phases [9, 10] (fun p => match p with | 0 => [0, 1, 2, 3, 4, 5, 6, 7, 8] | 1 => [6, 7, 8] | _ => [7, 8, 11, 12])
    (fun p => match p with | 0 => [.srow (fun k => k ≠ g2, fun _ => True) ak1.r, .val (.slice (some ⟨w.heap.size, 0, none⟩) 53 53), .bytes (akR.drop 47), .nxt (fun k => k ≠ g2, fun _ => True) ak2, .nxt (fun k => k ≠ g2, fun _ => True) ak2, .srow (fun k => k ≠ g2, fun _ => True) ak2.r, .prow ak2, .val (.int .i64 (ak2.n : Int)), .val (.int .i64 ak2.er), .any, .any, .nope, .nope] | 1 => [.any, .any, .any, .any, .nxt (fun k => k ≠ g2, fun _ => True) ak2, .any, .prow ak2, .val (.int .i64 (ak2.n : Int)), .val (.int .i64 ak2.er), .any, .any, .nope, .nope] | _ => [.any, .any, .any, .any, .nxt (fun k => k ≠ g2, fun _ => True) ak2, .any, .any, .val (.int .i64 (ak2.n : Int)), .val (.int .i64 ak2.er), .any, .any, .val (.int .i64 (ak2.n : Int)), .val (.int .i64 ak2.er)])
    (fun p => match p with | 0 => AwJ w g2 g3 ak1.r ak1 | 1 => AwJ w g2 g3 ak2.r ak1 | _ => AwJ w g2 g3 ak2.r ak2)
    (by kernel_rfl) (by kernel_rfl) (by kernel_rfl) (by kernel_rfl) (by kernel_rfl) (by kernel_rfl) ?_ HJ.out ?_ ?_ ?_
  · intro p wa wb h hb
    match p, h with
    | 0, h => exact AwJ.keep h hb
    | 1, h => exact AwJ.keep h hb
    | (_ + 2), h => exact AwJ.keep h hb
  · intro p hp
    match p, hp with
    | 0, _ =>
      refine ⟨?_, ?_, ?_, ?_, ?_, ?_, ?_, ?_, ?_, trivial⟩ <;> intro a1 wx hv hf hd
      · exact ⟨wanted_none rfl, loc_loadS rfl (hf.base 2 rfl) hv.st fun v h => h⟩
      · exact ⟨wanted_none rfl, loc_move rfl (hf.base 1 rfl)⟩
      · exact ⟨wanted_none rfl, loc_from rfl (l := akR) (i := 47) ⟨_, _, hd 1 rfl, hv.bt⟩ rfl (by decide) fun v h => h⟩
      · exact ⟨wanted_none rfl, loc_callPx rfl (HM.out.keep hv.bl) (hd 0 rfl) (hd 2 rfl) rfl rfl rfl (by decide) ak1_ok (by decide) (by decide) (fun k hk => ⟨by have := hv.ne.2.2.2.1; show k ≠ g2; omega, trivial⟩) fun v w' h => h⟩
      · exact ⟨wanted_none rfl, loc_move rfl (hd 3 rfl)⟩
      · exact ⟨wanted_none rfl, loc_nx0 rfl (hd 4 rfl) fun v h => h⟩
      · exact ⟨wanted_none rfl, loc_nx1 rfl (hd 4 rfl) fun v h => h⟩
      · exact ⟨wanted_none rfl, loc_nx2 rfl (hd 4 rfl) rfl⟩
      · exact ⟨wanted_none rfl, loc_nx3 rfl (hd 4 rfl) rfl⟩
    | 1, _ =>
      refine ⟨?_, ?_, ?_, trivial⟩ <;> intro a1 wx hv hf hd
      · exact ⟨wanted_none rfl, loc_nx1 rfl (hd 4 rfl) fun v h => h⟩
      · exact ⟨wanted_none rfl, loc_nx2 rfl (hd 4 rfl) rfl⟩
      · exact ⟨wanted_none rfl, loc_nx3 rfl (hd 4 rfl) rfl⟩
    | 2, _ =>
      refine ⟨?_, ?_, ?_, ?_, trivial⟩ <;> intro a1 wx hv hf hd
      · exact ⟨wanted_none rfl, loc_nx2 rfl (hd 4 rfl) rfl⟩
      · exact ⟨wanted_none rfl, loc_nx3 rfl (hd 4 rfl) rfl⟩
      · exact ⟨wanted_none rfl, loc_assign rfl (hd 7 rfl)⟩
      · exact ⟨wanted_none rfl, loc_assign rfl (hd 8 rfl)⟩
  · intro p hp
    match p, hp with
    | 0, _ =>
      intro a2 wx hv hf hd
      refine ⟨wanted_none rfl, wp_storeRo rfl (hf.base 2 rfl) hv.st (fun e => e rfl) (hd 5 rfl) fun cs ds hr hu hst => ?_⟩
      have hsz : (wx.setRow g2 cs).heap.size = wx.heap.size := by simp [World.setRow]
      exact ⟨undef, rfl, ⟨hst, hv.pt.rowZ hv.ne.1 hr hu, isBytes_rowR hr hu hv.bt, below_setRow hv.bl hv.ne.2.1 _, hv.ne.1, hv.ne.2.1, hv.ne.2.2.1, by rw [hsz]; exact hv.ne.2.2.2.1, by rw [hsz]; exact hv.ne.2.2.2.2⟩, trivial, ⟨.inr fun _ _ _ => trivial, .inr fun _ _ _ => trivial, .inr fun _ _ _ => trivial, .inr fun _ _ _ => trivial, .inr fun _ _ h => NxV.rowL h (fun e => e rfl) hr hu, .inr fun _ _ _ => trivial, .inr fun _ _ h => AgP.rowZ h hr hu, .inr fun _ _ h => h, .inr fun _ _ h => h, .inl rfl, .inr fun _ _ _ => trivial, .inr fun _ _ h => h.elim, .inr fun _ _ h => h.elim, trivial⟩⟩
    | 1, _ =>
      intro a2 wx hv hf hd
      refine ⟨wanted_none rfl, wp_storePo rfl (hf.base 3 rfl) hv.pt (hd 6 rfl) fun cs ds hr hu hs hpt => ?_⟩
      have hsz : (wx.setRow g3 cs).heap.size = wx.heap.size := by simp [World.setRow]
      exact ⟨undef, rfl, ⟨hv.st.rowZ ak2_nm (fun e => hv.ne.1 e.symm) hr hs hu, hpt, isBytes_rowR hr hu hv.bt, below_setRow hv.bl hv.ne.2.2.1 _, hv.ne.1, hv.ne.2.1, hv.ne.2.2.1, by rw [hsz]; exact hv.ne.2.2.2.1, by rw [hsz]; exact hv.ne.2.2.2.2⟩, trivial, ⟨.inr fun _ _ _ => trivial, .inr fun _ _ _ => trivial, .inr fun _ _ _ => trivial, .inr fun _ _ _ => trivial, .inr fun _ _ h => NxV.rowZ h ak2_nm hr hs hu, .inr fun _ _ _ => trivial, .inr fun _ _ _ => trivial, .inr fun _ _ h => h, .inr fun _ _ h => h, .inr fun _ _ _ => trivial, .inl rfl, .inr fun _ _ h => h.elim, .inr fun _ _ h => h.elim, trivial⟩⟩
  · intro a2 w9 hv hf hh
    have e4 : a2.eval (.tmp 4) = .int .i64 (ak2.n : Int) := hh 11 (by decide)
    have e5 : a2.eval (.tmp 5) = .int .i64 ak2.er := hh 12 (by decide)
    clear hh
    rw [fr_putAll hf]
    clear hf
    simp only [putAll, e4, e5]
    generalize a2.eval (.tmp 34) = u34
    generalize a2.eval (.tmp 35) = u35
    generalize a2.eval (.tmp 36) = u36
    generalize a2.eval (.tmp 37) = u37
    generalize a2.eval (.tmp 33) = u33
    generalize a2.eval (.tmp 38) = u38
    generalize a2.eval (.tmp 39) = u39
    generalize a2.eval (.tmp 40) = u40
    generalize a2.eval (.tmp 41) = u41
    clear e4 e5 a2
    simp only [Act.put, List.setIfInBounds_toArray, List.set_cons_succ, List.set_cons_zero]
    rw [ak2_f.1, ak2_f.2.2.1]
    refine hK _ _ ?_
    clear hK
    obtain ⟨pa, pc, hp, hd⟩ := hv.pt
    have hk0 : w9.cell? ⟨g3, 0, none⟩ = some (.int .i64 2) := by rw [cell_of_row _ _ _ _ _ _ hp]; show some (Value.int .i64 ak2.kind) = _; rw [ak2_f.2.1]
    have hk1 : w9.cell? ⟨g3, 1, none⟩ = some (.slice pa (List.length ak2.data) pc) := by rw [cell_of_row _ _ _ _ _ _ hp]; rfl
    have hcv := conv_bytes hd
    rw [show (⟨ak2.data.toArray⟩ : ByteArray) = ⟨#[97, 98, 99]⟩ by rw [ak2_f.2.2.2]] at hcv
    have HV := Box.mk hv
    clear hv hp hd
    go_wp2_with fail
    rename_i K hK
    clear hk0 hk1 hcv
    refine wp_region_phases [9] (fun p => match p with | 0 => [0, 1, 2, 3, 4, 5, 6, 7, 8] | _ => [5, 7, 8, 10, 11])
      (fun p => match p with | 0 => [.srow (fun k => k ≠ g2, fun _ => True) ak2.r, .val (.slice (some ⟨w.heap.size, 0, none⟩) 53 53), .bytes (akR.drop 50), .nxt (fun k => k ≠ g2, fun _ => True) ak3, .nxt (fun k => k ≠ g2, fun _ => True) ak3, .srow (fun k => k ≠ g2, fun _ => True) ak3.r, .prow ak3, .val (.int .i64 (ak3.n : Int)), .val (.int .i64 ak3.er), .any, .nope, .nope] | _ => [.any, .any, .any, .any, .nxt (fun k => k ≠ g2, fun _ => True) ak3, .srow (fun k => k ≠ g2, fun _ => True) ak3.r, .any, .val (.int .i64 (ak3.n : Int)), .val (.int .i64 ak3.er), .any, .val (.int .i64 (ak3.n : Int)), .val (.int .i64 ak3.er)])
      (fun p => match p with | 0 => AwJ w g2 g3 ak2.r ak2 | _ => AwJ w g2 g3 ak2.r ak3)
      (by kernel_rfl) (by kernel_rfl) (by kernel_rfl) (by kernel_rfl) (by kernel_rfl) (by kernel_rfl) ?_ HV.out ?_ ?_ ?_
    · intro p wa wb h hb
      match p, h with
      | 0, h => exact AwJ.keep h hb
      | (_ + 1), h => exact AwJ.keep h hb
    · intro p hp
      match p, hp with
      | 0, _ =>
        refine ⟨?_, ?_, ?_, ?_, ?_, ?_, ?_, ?_, ?_, trivial⟩ <;> intro a1 wx hv hf hd
        · exact ⟨wanted_none rfl, loc_loadS rfl (hf.base 2 rfl) hv.st fun v h => h⟩
        · exact ⟨wanted_none rfl, loc_move rfl (hf.base 1 rfl)⟩
        · exact ⟨wanted_none rfl, loc_from rfl (l := akR) (i := 50) ⟨_, _, hd 1 rfl, hv.bt⟩ rfl (by decide) fun v h => h⟩
        · exact ⟨wanted_none rfl, loc_callPx rfl (HM.out.keep hv.bl) (hd 0 rfl) (hd 2 rfl) rfl rfl rfl (by decide) ak2_ok (by decide) (by decide) (fun k hk => ⟨by have := hv.ne.2.2.2.1; show k ≠ g2; omega, trivial⟩) fun v w' h => h⟩
        · exact ⟨wanted_none rfl, loc_move rfl (hd 3 rfl)⟩
        · exact ⟨wanted_none rfl, loc_nx0 rfl (hd 4 rfl) fun v h => h⟩
        · exact ⟨wanted_none rfl, loc_nx1 rfl (hd 4 rfl) fun v h => h⟩
        · exact ⟨wanted_none rfl, loc_nx2 rfl (hd 4 rfl) rfl⟩
        · exact ⟨wanted_none rfl, loc_nx3 rfl (hd 4 rfl) rfl⟩
      | 1, _ =>
        refine ⟨?_, ?_, ?_, ?_, ?_, trivial⟩ <;> intro a1 wx hv hf hd
        · exact ⟨wanted_none rfl, loc_nx0 rfl (hd 4 rfl) fun v h => h⟩
        · exact ⟨wanted_none rfl, loc_nx2 rfl (hd 4 rfl) rfl⟩
        · exact ⟨wanted_none rfl, loc_nx3 rfl (hd 4 rfl) rfl⟩
        · exact ⟨wanted_none rfl, loc_assign rfl (hd 7 rfl)⟩
        · exact ⟨wanted_none rfl, loc_assign rfl (hd 8 rfl)⟩
    · intro p hp
      match p, hp with
      | 0, _ =>
        intro a2 wx hv hf hd
        refine ⟨wanted_none rfl, wp_storePo rfl (hf.base 3 rfl) hv.pt (hd 6 rfl) fun cs ds hr hu hs hpt => ?_⟩
        have hsz : (wx.setRow g3 cs).heap.size = wx.heap.size := by simp [World.setRow]
        exact ⟨undef, rfl, ⟨hv.st.rowZ ak2_nm (fun e => hv.ne.1 e.symm) hr hs hu, hpt, isBytes_rowR hr hu hv.bt, below_setRow hv.bl hv.ne.2.2.1 _, hv.ne.1, hv.ne.2.1, hv.ne.2.2.1, by rw [hsz]; exact hv.ne.2.2.2.1, by rw [hsz]; exact hv.ne.2.2.2.2⟩, trivial, ⟨.inr fun _ _ _ => trivial, .inr fun _ _ _ => trivial, .inr fun _ _ _ => trivial, .inr fun _ _ _ => trivial, .inr fun _ _ h => NxV.rowZ h ak3_nm hr hs hu, .inr fun _ _ h => AgS.rowZ h ak3_nm hr hs hu, .inr fun _ _ _ => trivial, .inr fun _ _ h => h, .inr fun _ _ h => h, .inl rfl, .inr fun _ _ h => h.elim, .inr fun _ _ h => h.elim, trivial⟩⟩
    · intro a2 w9 hv hf hh
      have e4 : a2.eval (.tmp 4) = .int .i64 (ak3.n : Int) := hh 10 (by decide)
      have e5 : a2.eval (.tmp 5) = .int .i64 ak3.er := hh 11 (by decide)
      clear hh
      rw [fr_putAll hf]
      clear hf
      simp only [putAll, e4, e5]
      generalize a2.eval (.tmp 60) = u60
      generalize a2.eval (.tmp 61) = u61
      generalize a2.eval (.tmp 62) = u62
      generalize a2.eval (.tmp 63) = u63
      generalize a2.eval (.tmp 59) = u59
      generalize a2.eval (.tmp 64) = u64
      generalize a2.eval (.tmp 65) = u65
      generalize a2.eval (.tmp 66) = u66
      generalize a2.eval (.tmp 67) = u67
      clear e4 e5 a2
      simp only [Act.put, List.setIfInBounds_toArray, List.set_cons_succ, List.set_cons_zero]
      rw [ak3_f.1, ak3_f.2.2]
      refine hK _ _ ?_
      clear hK
      obtain ⟨pa, pc, hp, hd⟩ := hv.pt
      have hk0 : w9.cell? ⟨g3, 0, none⟩ = some (.int .i64 3) := by rw [cell_of_row _ _ _ _ _ _ hp]; show some (Value.int .i64 ak3.kind) = _; rw [ak3_f.2.1]
      have HB := Box.mk hv.bl
      clear hv hp hd
      go_wp2_with fail
      go_ret
      exact ⟨rfl, HB.out⟩
end Go.Proofs.YtejbkbccljoldaaGreatDoor
namespace Go.Proofs.YtejbkbccljoldaaGreatDoor
open Go.RowKit

/-- One byte of a slice of the call's own is written. -/
theorem AccB.store {w0 w : World} {k n cap : Nat} {l : List UInt8} (h : AccB w0 w (.slice (some ⟨k, 0, none⟩) n cap) l) (i : Nat) (hi : i < l.length) (c : UInt8) :
    (∃ u, w.cell? ⟨k, i, none⟩ = some u) ∧ w.frozen? ⟨k, i, none⟩ = false ∧ AccB w0 (w.setCell ⟨k, i, none⟩ (.int .u8 (c.toNat : Int))) (.slice (some ⟨k, 0, none⟩) n cap) (l.set i c) := by
  obtain ⟨⟨h1, h2⟩, hb⟩ := h
  rcases h2 with ⟨e, _⟩ | ⟨g, cap', cur, e, hg, hh, hn, hm, hs, ht⟩
  · cases e
  · injection e with e1 e2 e3
    injection e1 with e1
    injection e1 with e1
    subst e1 e2 e3
    have hlt : i < cur.size := by rw [hs]; omega
    refine ⟨⟨cur[i], by rw [cell_of_row _ _ _ _ _ _ hh]; simp [hlt]⟩, frozen_of_row _ _ _ _ _ hh, ⟨?_, ?_⟩, hb.setCell (p := ⟨k, i, none⟩) hg _⟩
    · simp [Go.Proofs.YtejbkbccljoldaaGreatDoor.bytesV]
    · refine .inr ⟨k, cap, cur.setIfInBounds i (.int .u8 (c.toNat : Int)), by simp, hg, heap_setCell_same _ _ _ _ _ _ hh, by simpa using hn, hm, by simpa using hs, ?_⟩
      rw [Array.toList_setIfInBounds, List.length_set, List.take_set, ht]
      unfold Go.Proofs.YtejbkbccljoldaaGreatDoor.bytesV
      rw [List.map_set]

end Go.Proofs.YtejbkbccljoldaaGreatDoor
namespace Go.Proofs.YtejbkbccljoldaaGreatDoor
open Go.RowKit

/-- The worlds that keep what was there in W. -/
structure BelowOf (W : World) where
  val : World
  prop : Below W.heap.size W val
instance (W : World) : Nonempty (BelowOf W) := ⟨⟨W, Below.refl _ _⟩⟩
theorem wp_region_below_tail {P : Program} {id : Nat} {Q : Exit → Act → World → Prop} {a : Act} {w : World} {full : List Oper} (n : Nat) (hm : P.follows .mixedOrders = true)
    (hlen : full.length = n + 1) (hB : backB full = true) (hS : sinkAll .any full n = true)
    (hL : (Region.noSelect (full.take n).toArray && Region.lexFrom .any (full.take n).toArray n 0 (Array.replicate (n + 1) false)) = true)
    (h : wpQuiet P (full.take n).toArray (fun w' => ∃ b : BelowOf w, w' = b.val) (fun a' => ∀ w', (∃ b : BelowOf w, w' = b.val) → wpList P full.toArray Q (full.drop n) a' w') (full.take n) a) : (Code.region id full.toArray true).wp P Q a w :=
  wp_region_quiet_tail (C := fun w' => ∃ b : BelowOf w, w' = b.val) n hm hlen hB hS hL ⟨⟨{ w with drawn := w.drawn + 1 }, ⟨rfl, rfl, rfl, Nat.le_refl _, fun _ _ => rfl⟩⟩, rfl⟩ h
end Go.Proofs.YtejbkbccljoldaaGreatDoor
namespace Go.Proofs.YtejbkbccljoldaaGreatDoor
open Go.RowKit

theorem within_val (z : Int) (n : Nat) (h0 : 0 < n) (hn : n ≤ 1000) : ∃ k : Nat, k < n ∧ (wrap64 (z.tmod n + n)).tmod n = (k : Int) := by
  have h1 : z.tmod n < n := Int.tmod_lt_of_pos z (by omega)
  have h2 : -(n : Int) < z.tmod n := Int.lt_tmod_of_pos z (by omega)
  generalize z.tmod n = y at *
  have e : wrap64 (y + n) = y + n := by simp only [wrap64]; omega
  rw [e, Int.tmod_eq_emod_of_nonneg (by omega)]
  exact ⟨((y + n) % n).toNat, by have := Int.emod_lt_of_pos (y + n) (show (0 : Int) < n by omega); have := Int.emod_nonneg (y + n) (show (n : Int) ≠ 0 by omega); omega, by have := Int.emod_nonneg (y + n) (show (n : Int) ≠ 0 by omega); omega⟩
set_option maxHeartbeats 400000 in
theorem within_any (z : Int) (n : Nat) (w : World) (h0 : 0 < n) (hn : n ≤ 1000) :
    Calls Tryz.prog 10 #[.int .i64 z, .int .i64 n] w fun e w' => ∃ k : Nat, k < n ∧ e = .returned (.int .i64 k) ∧ w = w' := by
  obtain ⟨k, hk, he⟩ := within_val z n h0 hn
  go_enter Tryz.func10, Tryz.ntmps10
  go_wp2
  go_ret
  exact ⟨k, hk, rfl, rfl⟩

end Go.Proofs.YtejbkbccljoldaaGreatDoor
namespace Go.Proofs.YtejbkbccljoldaaGreatDoor
open Go.RowKit

set_option linter.unusedVariables false
def limF (k : Nat) (ch : Bool) : List Fld := if ch then [((⟨#[72, 111, 115, 116]⟩ : ByteArray), (⟨#[97]⟩ : ByteArray))] ++ [((⟨#[84, 114, 97, 110, 115, 102, 101, 114, 45, 69, 110, 99, 111, 100, 105, 110, 103]⟩ : ByteArray), (⟨#[99, 104, 117, 110, 107, 101, 100]⟩ : ByteArray))] else [((⟨#[72, 111, 115, 116]⟩ : ByteArray), (⟨#[97]⟩ : ByteArray))] ++ [((⟨#[67, 111, 110, 116, 101, 110, 116, 45, 76, 101, 110, 103, 116, 104]⟩ : ByteArray), fmtS 10 k)]
def limH (k : Nat) (ch : Bool) : List UInt8 := headB (fmtReq (⟨#[80, 85, 84]⟩ : ByteArray) (⟨#[47]⟩ : ByteArray) 1) (limF k ch)
def limD (k : Nat) : List UInt8 := List.replicate k 120
def limE (k : Nat) (ch : Bool) : List UInt8 := if ch then encodeS [(limD k).take (k / 2), (limD k).drop (k / 2)] else limD k
def limW (k : Nat) (ch : Bool) : List UInt8 := limH k ch ++ limE k ch
/-- What some rounds of Next give: the error, the state. -/
def limGo : Nat → RS → List UInt8 → Int → Int × RS
  | 0, s, _, _ => (0, s)
  | n + 1, s, b, m => if (nextX s b 400 m 400).er = 0 then limGo n (nextX s b 400 m 400).r (b.drop (nextX s b 400 m 400).n) m else ((nextX s b 400 m 400).er, s)
def LimOk (k m : Nat) (p : Int × RS) : Prop := if m < k then p.1 = 9 else p.1 = 0 ∧ p.2.ph = 2 ∧ p.2.size = k
theorem limH_len (k : Nat) (h : k < 60) (ch : Bool) : 4 ≤ (limH k ch).length ∧ (limH k ch).length ≤ 200 := by
  have h1 : ∀ j : Fin 60, 4 ≤ (limH j.val false).length ∧ (limH j.val false).length ≤ 200 := by decide +kernel
  have h2 : 4 ≤ (limH 0 true).length ∧ (limH 0 true).length ≤ 200 := by decide +kernel
  cases ch with
  | false => exact h1 ⟨k, h⟩
  | true => exact h2
theorem limF_small (k : Nat) (h : k < 60) (ch : Bool) : SmallF (limF k ch) := by
  have h1 : ∀ j : Fin 60, (fmtS 10 (j.val : Int)).size ≤ 3 := by decide +kernel
  intro f hf
  unfold limF at hf
  cases ch with
  | false =>
    simp only [Bool.false_eq_true, if_false, List.cons_append, List.nil_append, List.mem_cons, List.not_mem_nil, or_false] at hf
    rcases hf with rfl | rfl
    · exact ⟨by decide, by decide⟩
    · exact ⟨(by show 14 ≤ 1048576; omega), Nat.le_trans (h1 ⟨k, h⟩) (by decide)⟩
  | true =>
    simp only [if_true, List.cons_append, List.nil_append, List.mem_cons, List.not_mem_nil, or_false] at hf
    rcases hf with rfl | rfl
    · exact ⟨by decide, by decide⟩
    · exact ⟨by decide, by decide⟩
theorem fill_set (k i : Nat) (h : i < k) : (bytesV (List.replicate i 120 ++ List.replicate (k - i) 0)).toArray.setIfInBounds i (.int .u8 120) = (bytesV (List.replicate (i + 1) 120 ++ List.replicate (k - (i + 1)) 0)).toArray := by
  obtain ⟨q, rfl⟩ : ∃ q, k = i + 1 + q := ⟨k - (i + 1), by omega⟩
  rw [show i + 1 + q - i = q + 1 by omega, show i + 1 + q - (i + 1) = q by omega]
  unfold bytesV
  rw [List.setIfInBounds_toArray, List.replicate_succ, List.replicate_succ', List.append_assoc]
  simp
set_option maxRecDepth 100000 in
set_option maxHeartbeats 2000000 in
theorem limWire_any (k : Nat) (ch : Bool) (fa ba : Option Addr) (fc bc : Nat) (w : World) (hk : k < 60) (hx : FldsC w fa [((⟨#[72, 111, 115, 116]⟩ : ByteArray), (⟨#[97]⟩ : ByteArray))] fc) (hd : IsBytes w ba (limD k) bc) :
    Calls Tryz.prog 22 #[.agg #[.string (⟨#[80, 85, 84]⟩ : ByteArray), .string (⟨#[47]⟩ : ByteArray), .int .i64 1, .slice fa 1 fc, .bool true, .slice ba k bc], .bool ch] w fun e w' => ∃ v, e = .returned v ∧ OwnM w.heap.size w' v (limW k ch) ∧ Below w.heap.size w w' := by
  have hl : (limD k).length = k := List.length_replicate
  have h1 := limH_len k hk ch
  have h2 := limF_small k hk ch
  cases ch with
  | false =>
    have h := wireL_any (⟨#[80, 85, 84]⟩ : ByteArray) (⟨#[47]⟩ : ByteArray) 1 [((⟨#[72, 111, 115, 116]⟩ : ByteArray), (⟨#[97]⟩ : ByteArray))] (limD k) fa ba fc bc false w (by decide) (by decide) hx hd (by decide) (by omega) (by rw [hl]; exact h2) (by decide +kernel) (by rw [hl]; exact Nat.lt_of_lt_of_le (by decide) h1.1) (by rw [hl]; exact Nat.le_trans h1.2 (by decide)) (fun h => by cases h)
    rw [hl] at h
    exact h
  | true =>
    have h := wireC_any (⟨#[80, 85, 84]⟩ : ByteArray) (⟨#[47]⟩ : ByteArray) 1 [((⟨#[72, 111, 115, 116]⟩ : ByteArray), (⟨#[97]⟩ : ByteArray))] (limD k) fa ba fc bc true w (by decide) (by decide) hx hd (by decide) (by omega) h2 (by decide +kernel) (Nat.lt_of_lt_of_le (by decide) h1.1) (Nat.le_trans h1.2 (by decide)) rfl rfl (k / 2) (limE k true) (by rw [hl]) rfl (by omega)
    rw [hl] at h
    exact h
end Go.Proofs.YtejbkbccljoldaaGreatDoor
namespace Go.Proofs.YtejbkbccljoldaaGreatDoor
open Go.RowKit

theorem endS_front {h r : List UInt8} (h1 : endZ h = h.length) (h2 : 4 ≤ h.length) (h3 : h.length ≤ 400) : endS (h ++ r) 400 = ((h.length : Int), 0) := by
  have h4 := endZ_take (h ++ r) h.length
  rw [List.take_left, h1] at h4
  unfold endS
  split at h4
  · rw [if_pos (by omega), ← h4]
  · omega
theorem headR_ends {h : List UInt8} (h0 : (headR h).1 = 0) : endZ h = h.length ∧ 4 ≤ h.length := by
  unfold headR at h0
  split at h0
  · rename_i l0 ls hL
    unfold linesS at hL
    split at hL
    · rename_i hc; exact hc
    · cases hL
  · cases h0
def begR (rep : Bool) (p : ByteArray) : RS := { zeroR with rep := rep, meth := p }
theorem begR_ok (rep : Bool) (p : ByteArray) (body : Int) : OkN body (begR rep p) := ⟨⟨okC_zero, fun h => absurd h (by show ¬ (0 : Int) = 2; decide), by show (0 : Int) ≤ 0 ∧ (0 : Int) ≤ 1000000000; decide, ⟨fun f hf => absurd hf (by simp [begR, zeroR]), by show 0 ≤ 64; decide⟩, ⟨fun f hf => absurd hf (by simp [begR, zeroR]), by show 0 ≤ 64; decide⟩⟩, .inl rfl, fun h => absurd h (by show ¬ (0 : Int) = 1; decide), fun h => absurd h (by show ¬ (0 : Int) = 1; decide), fun h => absurd h (by show ¬ (0 : Int) = 1; decide), fun h => absurd h (by show ¬ (0 : Int) = 1; decide)⟩
end Go.Proofs.YtejbkbccljoldaaGreatDoor
namespace Go.Proofs.YtejbkbccljoldaaGreatDoor
open Go.RowKit

set_option linter.unusedVariables false
theorem fill_get (k i : Nat) (h : i < k) : (bytesV (List.replicate i 120 ++ List.replicate (k - i) 0)).toArray[i]? = some (.int .u8 0) := by
  obtain ⟨q, rfl⟩ : ∃ q, k = i + 1 + q := ⟨k - (i + 1), by omega⟩
  rw [show i + 1 + q - i = q + 1 by omega]
  simp [bytesV, List.replicate_succ]
/-- In the loop of ReaderLimits. -/
def LimJ (w : World) (q : Nat) (m : Int) (R : Int × RS) (i : Nat) (s : RS) (rest : List UInt8) (er : Int) (bv : Value) (W : World) : Prop :=
  StV (fun k => k ≠ q, fun _ => True) s W q ∧ BytesV W bv rest ∧ Below w.heap.size w W ∧ OkN m s ∧ rest.length ≤ 1000000 ∧ (er = 0 → limGo (8 - i) s rest m = R) ∧ (¬ er = 0 → R.1 = er)
theorem okN_m (m : Nat) (h : m < 60) : OkN (m : Int) zeroR := begR_ok false ⟨#[]⟩ m
theorem limW_len (k : Nat) (h : k < 60) (ch : Bool) : (limW k ch).length ≤ 1000000 := by
  have h1 := (limH_len k h ch).2
  unfold limW
  rw [List.length_append]
  have h2 : (limE k ch).length ≤ 130000 := by
    unfold limE
    cases ch with
    | false => show (limD k).length ≤ _; unfold limD; rw [List.length_replicate]; omega
    | true =>
      show (encodeS [(limD k).take (k / 2), (limD k).drop (k / 2)]).length ≤ _
      exact encode2_len _ _ (by unfold limD; simp; omega) (by unfold limD; simp; omega)
  omega
theorem limJ_next {w : World} {q m : Nat} {R : Int × RS} {j : Nat} {s : RS} {rest : List UInt8} {x : NX} (hx : nextX s rest 400 m 400 = x) (hok : OkN m s) (hl : rest.length ≤ 1000000) (hm : m < 60) (hj : j < 8) (hg : limGo (8 - j) s rest m = R) :
    x.n ≤ rest.length ∧ OkN m x.r ∧ (rest.drop x.n).length ≤ 1000000 ∧ (x.er = 0 → limGo (8 - (j + 1)) x.r (rest.drop x.n) m = R) ∧ (¬ x.er = 0 → R.1 = x.er) := by
  obtain ⟨p, hp⟩ : ∃ p, 8 - j = p + 1 := ⟨7 - j, by omega⟩
  rw [hp] at hg
  rw [show 8 - (j + 1) = p by omega]
  unfold limGo at hg
  rw [hx] at hg
  by_cases h0 : x.er = 0
  · have h := nextX_ok (s := s) (b := rest) (most := 400) (body := m) (room := 400) (by omega) hl hok (by rw [hx]; exact h0)
    rw [hx] at h
    rw [if_pos h0] at hg
    exact ⟨h.2.1, h.1, by rw [List.length_drop]; omega, fun _ => hg, fun h => absurd h0 h⟩
  · obtain ⟨er, h1, h2⟩ := nextX_err (s := s) (b := rest) (most := 400) (body := m) (room := 400) (by rw [hx]; exact h0)
    rw [hx] at h1
    rw [if_neg h0] at hg
    subst h1
    exact ⟨Nat.zero_le _, okN_m m hm, by rw [List.length_drop]; omega, fun h => absurd h h0, fun _ => by rw [← hg]⟩
theorem limJ_end {w W : World} {q m i j : Nat} {R : Int × RS} {s : RS} {rest : List UInt8} {er : Int} {bv : Value} (h : LimJ w q m R j s rest er bv W) (hR : LimOk i m R) (hj : j ≤ 8) (hc : ¬ (j < 8 ∧ er = 0)) :
    (m < i → er = 9) ∧ (¬ m < i → er = 0 ∧ j = 8 ∧ s.ph = 2 ∧ s.size = i) := by
  obtain ⟨_, _, _, _, _, h1, h2⟩ := h
  unfold LimOk at hR
  by_cases h0 : er = 0
  · have hj8 : j = 8 := by omega
    subst hj8
    have h3 : (0, s) = R := h1 h0
    subst h3
    by_cases hlt : m < i
    · rw [if_pos hlt] at hR
      exact absurd hR (by show ¬ (0 : Int) = 9; decide)
    · rw [if_neg hlt] at hR
      exact ⟨fun h => absurd h hlt, fun _ => ⟨h0, rfl, hR.2.1, hR.2.2⟩⟩
  · have h3 := h2 h0
    by_cases hlt : m < i
    · rw [if_pos hlt] at hR
      exact ⟨fun _ => by rw [← h3]; exact hR, fun h => absurd hlt h⟩
    · rw [if_neg hlt] at hR
      exact absurd (h3.symm.trans hR.1) h0
set_option maxRecDepth 100000 in
set_option maxHeartbeats 2000000 in
theorem readerLimits_pre (hM : ∀ (k m : Nat) (ch : Bool), k < 60 → m < 60 → LimOk k m (limGo 8 zeroR (limW k ch) (m : Int))) (n bd : Int) (ch : Bool) (mm : Int) (w : World) (hk : HdOk w mm) : Calls Tryz.prog 6 #[.int .i64 n, .int .i64 bd, .bool ch] w fun e w' => e = .returned (.bool true) ∧ Below w.heap.size w w' := by
  have HOK := Box.mk hk
  have HM := Box.mk hM
  clear hk hM
  go_enter Tryz.func6, Tryz.ntmps6
  go_wp2_with fail
  refine (within_any n 60 _ (by decide) (by decide)).mono ?_
  rintro e w1 ⟨k, hk, rfl, rfl⟩
  go_wp2_with fail
  refine (within_any bd 60 _ (by decide) (by decide)).mono ?_
  rintro e w1 ⟨m, hm, rfl, rfl⟩
  have hk60 : k < 60 := hk
  have hm60 : m < 60 := hm
  clear hk hm
  obtain ⟨i0, hi, hz0, hz1, hz2⟩ := info_parts Tryz.info5
  have HI := Box.mk (show i0.bytes * k ≤ 281474976710656 ∧ k ≤ maxLen by rw [hz2]; unfold maxLen; omega)
  have HZ := Box.mk (And.intro hi (And.intro hz0 hz1))
  clear hi hz0 hz1 hz2
  go_wp2_with (at_make; refine wpList_make_full _ rfl _ _ 23 rfl w.heap.size 5 i0 (.int .u8 0) 1 Tryz.underlying23 HZ.out.1 HZ.out.2.1 HZ.out.2.2 .i64 .i64 _ _ k rfl rfl (by omega) (by omega) HI.out.1 HI.out.2 (Nat.le_refl _) ?c1)
  case c1 =>
    intro w1 hown hgrow
    have hr0 := made_row hown
    have hlt1 : w.heap.size < w1.heap.size := (Array.getElem?_eq_some_iff.1 hr0).1
    have HR0 := Box.mk hr0
    have HB1 := Box.mk ((Below.refl w.heap.size w).grown hgrow (Nat.le_refl _) fun k hk => by cases hk)
    clear hown hgrow hr0 HI HZ
    go_wp2_with fail
    go_loopw [8] (fun iv wr => ∃ i : Nat, i ≤ k ∧ iv = .int .i64 i ∧ Box (wr.heap[w.heap.size]? = some (.cells (bytesV (List.replicate i 120 ++ List.replicate (k - i) 0)).toArray 5 (0, 0)) ∧ Below w.heap.size w wr)) (fun iv _ => k - (intOf iv).toNat)
    case atStart => exact ⟨0, Nat.zero_le _, rfl, ⟨by rw [HR0.out]; rfl, HB1.out⟩⟩
    case round =>
      obtain ⟨i, hik, rfl, HA⟩ := hrel
      by_cases hlt : i < k
      · have hc : wr.cell? ⟨w.heap.size, i, none⟩ = some (.int .u8 0) := by
          rw [cell_of_row _ _ _ _ _ _ HA.out.1]
          exact fill_get k i hlt
        have hf : wr.frozen? ⟨w.heap.size, i, none⟩ = false := by simp [World.frozen?, HA.out.1]
        obtain ⟨W2, hW2⟩ : ∃ W2, W2 = wr.setCell ⟨w.heap.size, i, none⟩ (.int .u8 120) := ⟨_, rfl⟩
        have HA2 := Box.mk (show W2.heap[w.heap.size]? = some (.cells (bytesV (List.replicate (i + 1) 120 ++ List.replicate (k - (i + 1)) 0)).toArray 5 (0, 0)) ∧ Below w.heap.size w W2 from ⟨by rw [hW2, heap_setCell_same _ _ _ _ _ _ HA.out.1, fill_set k i hlt], by rw [hW2]; exact HA.out.2.setCell (Nat.le_refl _) _⟩)
        go_upto_region 5 with fail
        rw [← hW2]
        clear hW2 hc hf HA
        go_wp2_with fail
        go_roundw
        case rel => exact ⟨i + 1, by omega, by go_num, HA2⟩
        case measure => simp [intOf]; omega
      · have hik2 : i = k := by omega
        subst hik2
        clear hlt hik HR0 HB1
        have hrd : wr.heap[w.heap.size]? = some (.cells (bytesV (limD i)).toArray 5 (0, 0)) := by
          have := HA.out.1
          rw [Nat.sub_self, List.replicate_zero, List.append_nil] at this
          exact this
        have HBD := Box.mk (show IsBytes wr (some ⟨w.heap.size, 0, none⟩) (limD i) i by
          have := row_bytesH hrd (by unfold limD maxLen; rw [List.length_replicate]; omega)
          rw [show (limD i).length = i from List.length_replicate] at this
          exact this)
        have HBR := Box.mk HA.out.2
        clear hrd HA
        have hwr := HBR.out.size
        obtain ⟨Wa, hWa⟩ : ∃ Wa, Wa = wr.alloc (.cells #[.string ⟨#[72, 111, 115, 116]⟩, .string ⟨#[97]⟩] 62) := ⟨_, rfl⟩
        have HFa := Box.mk (show FldsIn Wa (some ⟨wr.heap.size, 0, none⟩) [((⟨#[72, 111, 115, 116]⟩ : ByteArray), (⟨#[97]⟩ : ByteArray))] by rw [hWa]; exact fldsIn_one wr _ _)
        have HBa := Box.mk (show Below wr.heap.size wr Wa by rw [hWa]; exact below_oneF _ _)
        have hsa : Wa.heap.size = wr.heap.size + 1 := by rw [hWa]; exact World.size_alloc ..
        have HSA := Box.mk hsa
        clear hsa
        obtain ⟨rq, hrq⟩ : ∃ rq : Array Value, rq = #[.string (⟨#[80, 85, 84]⟩ : ByteArray), .string (⟨#[47]⟩ : ByteArray), .int .i64 1, .slice (some ⟨wr.heap.size, 0, none⟩) 1 1, .bool true, .slice (some ⟨w.heap.size, 0, none⟩) i i] := ⟨_, rfl⟩
        have HVb := Box.mk (show (Wa.alloc (.cells #[.string ⟨#[]⟩, .string ⟨#[]⟩, .int .i64 0, .slice none 0 0, .bool false, .slice none 0 0] 29)).heap[Wa.heap.size]? = some (.cells #[.string ⟨#[]⟩, .string ⟨#[]⟩, .int .i64 0, .slice none 0 0, .bool false, .slice none 0 0] 29 (0, 0)) from heap_alloc_new _ _)
        obtain ⟨Wb, hWb⟩ : ∃ Wb, Wb = (Wa.alloc (.cells #[.string ⟨#[]⟩, .string ⟨#[]⟩, .int .i64 0, .slice none 0 0, .bool false, .slice none 0 0] 29)).setRow Wa.heap.size #[.string (⟨#[80, 85, 84]⟩ : ByteArray), .string (⟨#[47]⟩ : ByteArray), .int .i64 1, .slice (some ⟨wr.heap.size, 0, none⟩) 1 1, .bool true, .slice (some ⟨w.heap.size, 0, none⟩) i i] := ⟨_, rfl⟩
        have HFb := Box.mk (show FldsIn Wb (some ⟨wr.heap.size, 0, none⟩) [((⟨#[72, 111, 115, 116]⟩ : ByteArray), (⟨#[97]⟩ : ByteArray))] by rw [hWb]; exact HFa.out.keep (below_setRow (below_oneF _ _) (Nat.le_refl _) _))
        have HBb := Box.mk (show Below wr.heap.size wr Wb by rw [hWb]; exact below_trans HBa.out (below_setRow (below_oneF _ _) (Nat.le_refl _) _))
        have HQb := Box.mk (show Wb.heap[Wa.heap.size]? = some (.cells #[.string (⟨#[80, 85, 84]⟩ : ByteArray), .string (⟨#[47]⟩ : ByteArray), .int .i64 1, .slice (some ⟨wr.heap.size, 0, none⟩) 1 1, .bool true, .slice (some ⟨w.heap.size, 0, none⟩) i i] 29 (0, 0)) by rw [hWb]; exact setRow_heap _ _ _ _ _ _ HVb.out)
        clear hrq
        rw [HSA.out] at HVb HQb hWb
        have HWA := Box.mk hWa
        rw [hWa] at HVb hWb
        clear hWa
        go_upto_region 8 with (refine wpList_store_row rfl 29 _ _ rfl (wr.heap.size + 1) #[.string (⟨#[80, 85, 84]⟩ : ByteArray), .string (⟨#[47]⟩ : ByteArray), .int .i64 1, .slice (some ⟨wr.heap.size, 0, none⟩) 1 1, .bool true, .slice (some ⟨w.heap.size, 0, none⟩) i i] rfl rfl 29 _ HVb.out sizeR rfl (by simp [Value.oneCell']) ?_)
        rw [← hWb]
        clear hWb HVb
        go_wp2_with (refine wpList_load_row rfl 29 _ rfl (wr.heap.size + 1) rfl 29 #[.string (⟨#[80, 85, 84]⟩ : ByteArray), .string (⟨#[47]⟩ : ByteArray), .int .i64 1, .slice (some ⟨wr.heap.size, 0, none⟩) 1 1, .bool true, .slice (some ⟨w.heap.size, 0, none⟩) i i] (0, 0) _ HQb.out Tryz.underlying29 rfl sizeR ?_)
        refine (limWire_any i ch (some ⟨wr.heap.size, 0, none⟩) (some ⟨w.heap.size, 0, none⟩) 1 i Wb hk60 ⟨HFb.out, fun e => by cases e⟩ (HBD.out.keep HBb.out)).mono ?_
        rintro e w4 ⟨v, rfl, hown, hb4⟩
        obtain ⟨g, c, rfl, hgc, hby⟩ := hown.form
        have HBY := Box.mk hby
        have HB4 := Box.mk (below_trans (below_trans HBR.out HBb.out) hb4)
        clear hown hgc hby hb4 HBb HQb HBa HFa HFb HBD HBR HSA HWA hwr
        go_wp2_with fail
        refine (forRequest_any w4).mono ?_
        rintro e w5 ⟨rfl, hb5⟩
        obtain ⟨q, hq⟩ : ∃ q, q = w5.heap.size := ⟨_, rfl⟩
        obtain ⟨W6, hW6⟩ : ∃ W6, W6 = (w5.alloc (.cells #[.bool false, .string ⟨#[]⟩, .int .i64 0, .string ⟨#[]⟩, .string ⟨#[]⟩, .int .i64 0, .slice none 0 0, .bool false, .slice none 0 0, .int .i64 0, .string ⟨#[]⟩, .int .i64 0, .slice none 0 0, .slice none 0 0, .int .i64 0, .int .i64 0, .int .i64 0, .int .i64 0, .int .i64 0, .int .i64 0, .int .i64 0, .slice none 0 0] 37)).setRow w5.heap.size #[.bool false, .string ⟨#[]⟩, .int .i64 0, .string ⟨#[]⟩, .string ⟨#[]⟩, .int .i64 0, .slice none 0 0, .bool false, .slice none 0 0, .int .i64 0, .string ⟨#[]⟩, .int .i64 0, .slice none 0 0, .slice none 0 0, .int .i64 0, .int .i64 0, .int .i64 0, .int .i64 0, .int .i64 0, .int .i64 0, .int .i64 0, .slice none 0 0] := ⟨_, rfl⟩
        have HX6 := Box.mk (show RVr (w5.alloc (.cells #[.bool false, .string ⟨#[]⟩, .int .i64 0, .string ⟨#[]⟩, .string ⟨#[]⟩, .int .i64 0, .slice none 0 0, .bool false, .slice none 0 0, .int .i64 0, .string ⟨#[]⟩, .int .i64 0, .slice none 0 0, .slice none 0 0, .int .i64 0, .int .i64 0, .int .i64 0, .int .i64 0, .int .i64 0, .int .i64 0, .int .i64 0, .slice none 0 0] 37)) w5.heap.size #[.bool false, .string ⟨#[]⟩, .int .i64 0, .string ⟨#[]⟩, .string ⟨#[]⟩, .int .i64 0, .slice none 0 0, .bool false, .slice none 0 0, .int .i64 0, .string ⟨#[]⟩, .int .i64 0, .slice none 0 0, .slice none 0 0, .int .i64 0, .int .i64 0, .int .i64 0, .int .i64 0, .int .i64 0, .int .i64 0, .int .i64 0, .slice none 0 0] from heap_alloc_new _ _)
        have hb56 : Below w5.heap.size w5 W6 := by rw [hW6]; exact below_setRow (below_oneF _ _) (Nat.le_refl _) _
        have hR6 : RVr W6 q #[.bool false, .string ⟨#[]⟩, .int .i64 0, .string ⟨#[]⟩, .string ⟨#[]⟩, .int .i64 0, .slice none 0 0, .bool false, .slice none 0 0, .int .i64 0, .string ⟨#[]⟩, .int .i64 0, .slice none 0 0, .slice none 0 0, .int .i64 0, .int .i64 0, .int .i64 0, .int .i64 0, .int .i64 0, .int .i64 0, .int .i64 0, .slice none 0 0] := by rw [hW6, hq]; exact setRow_heap _ _ _ _ _ _ HX6.out
        obtain ⟨R, hR⟩ : ∃ R, R = limGo 8 zeroR (limW i ch) (m : Int) := ⟨_, rfl⟩
        have HRM := Box.mk (show LimOk i m R by rw [hR]; exact HM.out i m ch hk60 hm60)
        have hlen := limW_len i hk60 ch
        have HJ := Box.mk (show LimJ w q (m : Int) R 0 zeroR (limW i ch) 0 (.slice (some ⟨g, 0, none⟩) (limW i ch).length c) W6 from
          ⟨⟨none, 0, none, 0, none, 0, hR6, ⟨⟨FldsIn.nil _ _, FldsIn.nil _ _, .inl ⟨rfl, rfl, rfl⟩, (fun _ e => by cases e), (fun _ e => by cases e)⟩, fun _ e => by cases e⟩⟩, ⟨⟨_, _, rfl, HBY.out.keep (below_trans hb5 hb56)⟩, below_trans HB4.out (below_trans hb5 hb56), okN_m m hm60, hlen, fun _ => hR.symm, fun h => absurd rfl h⟩⟩)
        have hq6 : q < W6.heap.size := hR6.lt
        have hwq : w.heap.size ≤ q := by rw [hq]; exact (below_trans HB4.out hb5).size
        clear hR hb56 hR6 HBY HB4 hb5 hlen
        go_upto_region 10 with (refine wpList_store_row rfl 37 _ _ rfl w5.heap.size #[.bool false, .string ⟨#[]⟩, .int .i64 0, .string ⟨#[]⟩, .string ⟨#[]⟩, .int .i64 0, .slice none 0 0, .bool false, .slice none 0 0, .int .i64 0, .string ⟨#[]⟩, .int .i64 0, .slice none 0 0, .slice none 0 0, .int .i64 0, .int .i64 0, .int .i64 0, .int .i64 0, .int .i64 0, .int .i64 0, .int .i64 0, .slice none 0 0] rfl rfl 37 _ HX6.out sizeRd rfl (oneRd ..) ?_)
        rw [← hW6, ← hq]
        rw [← hq] at hW6
        clear hW6 HX6
        clear hq
        go_wp2_with fail
        go_loopw [10, 12, 13] (fun bv ev iv wr => ∃ (j : Nat) (s : RS) (rest : List UInt8) (er : Int), ev = .int .i64 er ∧ iv = .int .i64 (j : Int) ∧ j ≤ 8 ∧ Box (LimJ w q (m : Int) R j s rest er bv wr)) (fun _ _ iv _ => 8 - (intOf iv).toNat)
        case atStart => exact ⟨0, zeroR, limW i ch, 0, rfl, rfl, by omega, HJ⟩
        case round =>
          clear HJ
          obtain ⟨j, s, rest, er, rfl, rfl, hj8, HJ⟩ := hrel
          by_cases hcc : j < 8 ∧ er = 0
          · obtain ⟨hj, he⟩ := hcc
            subst he
            obtain ⟨⟨f7, c7, g7, d7, l7, e7, hr3, hm3⟩, ⟨ba, bc, rfl, hby⟩, hbl, hok, hln, hg1, _⟩ := HJ.out
            obtain ⟨cs, hcs⟩ : ∃ cs : Array Value, cs = #[.bool s.rep, .string s.meth, .int .i64 s.ph, .string s.m, .string s.t, .int .i64 s.z, .slice f7 (List.length s.xs) c7, .bool s.fr, .slice none 0 0, .int .i64 s.st, .string s.rs, .int .i64 s.z2, .slice g7 (List.length s.ys) d7, .slice none 0 0, .int .i64 s.fk, .int .i64 s.fl, .int .i64 s.left, .int .i64 s.size, .int .i64 s.ck.ph, .int .i64 s.ck.left, .int .i64 s.ck.tr, .slice l7 (List.length s.ck.line) e7] := ⟨_, rfl⟩
            have hcs22 : cs.size = 22 := by rw [hcs]; rfl
            have HU3 := Box.mk (show NoU8 cs by rw [hcs]; exact noU8_22 rfl)
            have HSC := Box.mk (show (Tryz.prog.info? 37).map (·.size) = some cs.size by rw [hcs22]; exact sizeRd)
            obtain ⟨x, hx⟩ : ∃ x, nextX s rest 400 m 400 = x := ⟨_, rfl⟩
            have hc := projNext_any (fun k => k ≠ q) s rest 400 m 400 ba bc f7 g7 l7 c7 d7 e7 wr mm hby hln hm3.m (HOK.out.keep hbl) hok (by omega) (by omega) (fun g' h => by have := hr3.lt; omega)
            rw [← hcs, hx] at hc
            rw [← hcs] at hr3
            have HC := Box.mk hc
            have HR3 := Box.mk hr3
            have HN := Box.mk (limJ_next (w := w) (q := q) hx hok hln hm60 hj (hg1 rfl))
            have HBY := Box.mk hby
            have HBL := Box.mk hbl
            clear hc hr3 hm3 hby hbl hok hg1 hx hcs HJ
            go_wp2_with (refine wpList_load_row rfl 37 _ rfl q rfl 37 cs (0, 0) _ HR3.out Tryz.underlying37 rfl HSC.out ?_)
            refine HC.out.mono ?_
            rintro e w4 ⟨f4, c4, g4, d4, l4, e4, pa, pc, he, hm4, hd4, hb4⟩
            obtain ⟨cr, hcr⟩ : ∃ cr : Array Value, cr = #[.bool x.r.rep, .string x.r.meth, .int .i64 x.r.ph, .string x.r.m, .string x.r.t, .int .i64 x.r.z, .slice f4 (List.length x.r.xs) c4, .bool x.r.fr, .slice none 0 0, .int .i64 x.r.st, .string x.r.rs, .int .i64 x.r.z2, .slice g4 (List.length x.r.ys) d4, .slice none 0 0, .int .i64 x.r.fk, .int .i64 x.r.fl, .int .i64 x.r.left, .int .i64 x.r.size, .int .i64 x.r.ck.ph, .int .i64 x.r.ck.left, .int .i64 x.r.ck.tr, .slice l4 (List.length x.r.ck.line) e4] := ⟨_, rfl⟩
            rw [← hcr] at he
            subst he
            have hcr22 : cr.size = 22 := by rw [hcr]; rfl
            have hcc2 : cs.size = cr.size := by rw [hcs22, hcr22]
            have hcr1 : cr.all (·.oneCell') = true := by rw [hcr]; exact oneRd ..
            have HSR := Box.mk (show (Tryz.prog.info? 37).map (·.size) = some cr.size by rw [hcr22]; exact sizeRd)
            have hr4 : RVr w4 q cs := HR3.out.keep hb4
            have HR4 := Box.mk hr4
            obtain ⟨pa5, pc5, hpart, hb5⟩ := part_q (HBY.out.keep hb4) HN.out.1
            obtain ⟨W5, hW5⟩ : ∃ W5, W5 = w4.setRow q cr := ⟨_, rfl⟩
            have HJ2 := Box.mk (show LimJ w q (m : Int) R (j + 1) x.r (rest.drop x.n) x.er (.slice pa5 (rest.length - x.n) pc5) W5 from
              ⟨⟨f4, c4, g4, d4, l4, e4, by rw [hW5, ← hcr]; exact setRow_heap _ _ _ _ _ _ hr4, by rw [hW5]; exact RMemQ.rowL ⟨hm4, fun _ _ _ => trivial⟩ (fun h => h rfl) hr4 HU3.out⟩, ⟨pa5, pc5, by rw [List.length_drop], by rw [hW5]; exact isBytes_rowR hr4 HU3.out hb5⟩, by rw [hW5]; exact below_setRow (below_trans HBL.out hb4) hwq _, HN.out.2.1, HN.out.2.2.1, HN.out.2.2.2.1, HN.out.2.2.2.2⟩)
            have hxn := HN.out.1
            clear hr4 hm4 hd4 hb4 hb5 hcr HC HR3 HN HBY HBL HSC hcs22 hcr22 HU3
            have hmx : ∀ (ts : Array TypeId) (t : TypeId) (W : World), (Builtin.max_ ts t #[.int .i64 (x.n : Int), .int .i64 0]).run Tryz.prog W = .ok (.int .i64 (x.n : Int)) W := fun ts t W => by
              rw [run_max_int2, if_neg (by omega)]
            have hmn : ∀ (ts : Array TypeId) (t : TypeId) (W : World), (Builtin.min_ ts t #[.int .i64 (x.n : Int), .int .i64 (rest.length : Int)]).run Tryz.prog W = .ok (.int .i64 (x.n : Int)) W := fun ts t W => by
              rw [run_min_int2, if_neg (by omega)]
            go_upto_region 16 with (refine wpList_store_row rfl 37 _ _ rfl q cr rfl rfl 37 _ HR4.out HSR.out hcc2 hcr1 ?_)
            rw [← hW5]
            clear hW5 HR4 HSR hcc2 hcr1
            go_wp2_with fail
            go_roundw
            case rel => exact ⟨j + 1, x.r, rest.drop x.n, x.er, rfl, by go_num, by omega, HJ2⟩
            case measure => simp [intOf]; omega
          · have HE := Box.mk (limJ_end HJ.out HRM.out hj8 hcc)
            have hbl := HJ.out.2.2.1
            have HBL := Box.mk hbl
            have hst := HJ.out.1
            clear hbl
            by_cases hlt : m < i
            · obtain rfl : er = 9 := HE.out.1 hlt
              have hlt2 : (i : Int) > (m : Int) := by omega
              clear HE hcc HJ hst HRM
              by_cases hj : j < 8
              all_goals
                go_wp2_with fail
                refine (awakeN_any mm _ (HOK.out.keep HBL.out)).mono ?_
                rintro e w8 ⟨rfl, hb8⟩
                go_wp2_with fail
                go_ret
                exact ⟨rfl, below_trans HBL.out hb8⟩
            · obtain ⟨rfl, rfl, hph, hsz⟩ := HE.out.2 hlt
              have hlt2 : ¬ (i : Int) > (m : Int) := by omega
              obtain ⟨f7, c7, g7, d7, l7, e7, hr3, hm3⟩ := hst
              have hk2 : wr.cell? ⟨q, 2, none⟩ = some (.int .i64 2) := by rw [RVr.cell hr3, ← hph]; rfl
              have hk17 : wr.cell? ⟨q, 17, none⟩ = some (.int .i64 (i : Int)) := by rw [RVr.cell hr3, ← hsz]; rfl
              clear HE hcc HJ HRM hr3 hm3 hph hsz
              go_wp2_with fail
              refine (awakeN_any mm _ (HOK.out.keep HBL.out)).mono ?_
              rintro e w8 ⟨rfl, hb8⟩
              go_wp2_with fail
              go_ret
              exact ⟨rfl, below_trans HBL.out hb8⟩
end Go.Proofs.YtejbkbccljoldaaGreatDoor
namespace Go.Proofs.YtejbkbccljoldaaGreatDoor
open Go.RowKit

set_option linter.unusedVariables false
theorem feedU_grow (l : List UInt8) (s : Chk) (out : List UInt8) (i : Nat) (h : (feedU s out i l).1 = 0) : out.length ≤ (feedU s out i l).2.2.1.length := by
  rw [feedU_shift] at h ⊢
  split
  · show _ ≤ (out ++ _).length
    rw [List.length_append]; omega
  · rename_i h2
    rw [if_neg h2] at h
    exact absurd h h2
theorem feedS_fits (room : Int) : ∀ (l : List UInt8) (s : Chk) (out : List UInt8) (i : Nat), (feedU s out i l).1 = 0 → ((feedU s out i l).2.2.1.length : Int) ≤ room → feedS room s out i l = feedU s out i l
  | [], _, _, _, _, _ => rfl
  | x :: r, s, out, i, h, hr => by
    by_cases h4 : s.ph = 4
    · rw [feedU_done h4]; unfold feedS; rw [if_pos (.inl h4)]
    · by_cases h1 : s.ph = 1
      · rw [feedU_data h1] at h hr ⊢
        have hg := feedU_grow r (dataS s) (out ++ [x]) (i + 1) h
        rw [List.length_append, List.length_singleton] at hg
        have ih := feedS_fits room r (dataS s) (out ++ [x]) (i + 1) h hr
        unfold feedS
        rw [if_neg (by rintro (h | ⟨_, h⟩); exact h4 h; omega), if_pos h1]
        exact ih
      · by_cases h0 : (stepS s x).1 = 0
        · rw [feedU_ok h4 h1 h0] at h hr ⊢
          have ih := feedS_fits room r (stepS s x).2 out (i + 1) h hr
          unfold feedS
          rw [if_neg (by rintro (h | ⟨h, _⟩); exact h4 h; exact h1 h), if_neg h1, if_pos h0]
          exact ih
        · rw [feedU_err h4 h1 h0] at h
          exact absurd h h0
theorem feedS_full (room : Int) : ∀ (l : List UInt8) (s : Chk) (out : List UInt8) (i : Nat), (feedU s out i l).1 = 0 → (out.length : Int) ≤ room → room ≤ ((feedU s out i l).2.2.1.length : Int) → (feedS room s out i l).1 = 0 ∧ room ≤ ((feedS room s out i l).2.2.1.length : Int)
  | [], _, _, _, _, _, hr => ⟨rfl, hr⟩
  | x :: r, s, out, i, h, hl, hr => by
    by_cases h4 : s.ph = 4
    · rw [feedU_done h4] at hr
      unfold feedS; rw [if_pos (.inl h4)]
      exact ⟨rfl, hr⟩
    · by_cases h1 : s.ph = 1
      · by_cases hro : room ≤ (out.length : Int)
        · unfold feedS; rw [if_pos (.inr ⟨h1, hro⟩)]
          exact ⟨rfl, hro⟩
        · rw [feedU_data h1] at h hr
          have ih := feedS_full room r (dataS s) (out ++ [x]) (i + 1) h (by rw [List.length_append, List.length_singleton]; omega) hr
          unfold feedS
          rw [if_neg (by rintro (h | ⟨_, h⟩); exact h4 h; exact hro h), if_pos h1]
          exact ih
      · by_cases h0 : (stepS s x).1 = 0
        · rw [feedU_ok h4 h1 h0] at h hr
          have ih := feedS_full room r (stepS s x).2 out (i + 1) h hl hr
          unfold feedS
          rw [if_neg (by rintro (h | ⟨h, _⟩); exact h4 h; exact h1 h), if_neg h1, if_pos h0]
          exact ih
        · rw [feedU_err h4 h1 h0] at h
          exact absurd h h0
theorem limGo_done (m : Int) : ∀ (n : Nat) (s : RS) (b : List UInt8), s.ph = 2 → limGo n s b m = (0, s)
  | 0, _, _, _ => rfl
  | n + 1, s, b, h => by
    have hx : nextX s b 400 m 400 = ⟨0, s, 0, [], 0⟩ := by unfold nextX; rw [if_neg (by omega), if_neg (by omega)]
    unfold limGo
    rw [hx, if_pos rfl]
    exact limGo_done m n s _ h
/-- What the head says. -/
def limR (k : Nat) (ch : Bool) : RS := { zeroR with m := ⟨#[80, 85, 84]⟩, t := ⟨#[47]⟩, z := 1, xs := limF k ch, fr := true, fk := if ch then 3 else 2, fl := if ch then 0 else k, left := if ch then 0 else k, size := 0, ck := zeroC, ph := 1 }
theorem limF_all (k : Nat) (h : k < 60) (ch : Bool) : allB (limF k ch) = true ∧ (valuesL (limF k ch) hostN).length = 1 := by
  have h1 : ∀ j : Fin 60, allB (limF j.val false) = true ∧ (valuesL (limF j.val false) hostN).length = 1 := by decide +kernel
  have h2 : allB (limF 0 true) = true ∧ (valuesL (limF 0 true) hostN).length = 1 := by decide +kernel
  cases ch with
  | false => exact h1 ⟨k, h⟩
  | true => exact h2
theorem limF_two (k : Nat) (ch : Bool) : (limF k ch).length = 2 := by cases ch <;> rfl
theorem limH_head (k : Nat) (h : k < 60) (ch : Bool) : headR (limH k ch) = (0, ⟨#[80, 85, 84]⟩, ⟨#[47]⟩, 1, limF k ch) := by
  obtain ⟨h1, h2⟩ := limF_all k h ch
  unfold limH
  rw [headR_made (by decide +kernel) (by decide +kernel) (.inr rfl) h1, limF_two, h2, if_neg (by decide), if_neg (by omega)]
theorem limF_frame (k : Nat) (h : k < 60) (ch : Bool) : frameS 1 (limF k ch) 1 = (if ch then 3 else 2, if ch then 0 else (k : Int), 0) := by
  have h1 : ∀ j : Fin 60, frameS 1 (limF j.val false) 1 = (2, (j.val : Int), 0) := by decide +kernel
  have h2 : frameS 1 (limF 0 true) 1 = (3, 0, 0) := by decide +kernel
  cases ch with
  | false => exact h1 ⟨k, h⟩
  | true => exact h2
theorem lim_first (k m : Nat) (h : k < 60) (ch : Bool) (r : List UInt8) : nextX zeroR (limH k ch ++ r) 400 m 400 = if ch = false ∧ m < k then errX 9 else ⟨0, limR k ch, 1, [], (limH k ch).length⟩ := by
  have hh := limH_head k h ch
  have hf := limF_frame k h ch
  have hl := limH_len k h ch
  obtain ⟨h1, h2⟩ := headR_ends (h := limH k ch) (by rw [hh])
  have hE := endS_front (r := r) h1 h2 (by omega)
  unfold nextX
  rw [if_pos (show zeroR.ph = 0 from rfl)]
  unfold firstX
  rw [hE, if_neg (by show ¬ (0 : Int) = 4; decide), if_neg (by show ¬ (0 : Int) ≠ 0; decide)]
  rw [show ((((limH k ch).length : Int), (0 : Int)).1).toNat = (limH k ch).length from Int.toNat_natCast _, List.take_left]
  unfold headX
  rw [if_neg (show ¬ zeroR.rep = true from by decide), hh, if_neg (by show ¬ (0 : Int) ≠ 0; decide)]
  dsimp only
  clear hh hl h1 h2 hE
  cases ch with
  | false =>
    have hf : frameS 1 (limF k false) 1 = (2, (k : Int), 0) := hf
    rw [hf]
    unfold finX
    rw [if_neg (by show ¬ (0 : Int) ≠ 0; decide)]
    by_cases hlt : m < k
    · rw [if_pos (by show (2 : Int) = 2 ∧ (m : Int) < (k : Int); omega), if_pos ⟨rfl, hlt⟩]
    · rw [if_neg (by show ¬ ((2 : Int) = 2 ∧ (m : Int) < (k : Int)); omega), if_neg (by rintro ⟨_, h⟩; exact hlt h)]
      rfl
  | true =>
    have hf : frameS 1 (limF k true) 1 = (3, 0, 0) := hf
    rw [hf]
    unfold finX
    rw [if_neg (by show ¬ (0 : Int) ≠ 0; decide)]
    rw [if_neg (by show ¬ ((3 : Int) = 2 ∧ _); intro h; exact absurd h.1 (by decide)), if_neg (by rintro ⟨h, _⟩; cases h)]
    rfl
theorem next_body {s : RS} {b : List UInt8} {m : Int} (h1 : s.ph = 1) : nextX s b 400 m 400 = moreX s b m 400 := by
  unfold nextX
  rw [if_neg (by omega), if_pos h1, if_neg (by decide)]
theorem more_end {s : RS} {b : List UInt8} {m : Int} (h2 : s.fk = 2) (h3 : s.left = 0) : moreX s b m 400 = ⟨0, { s with ph := 2 }, 3, [], 0⟩ := by
  unfold moreX
  rw [if_pos (.inr h2), if_pos (.inr h3)]
theorem more_data {s : RS} {b : List UInt8} {m : Int} (h2 : s.fk = 2) (h3 : s.left = b.length) (h4 : 0 < b.length) (h5 : b.length ≤ 400) : moreX s b m 400 = ⟨0, { s with left := 0, size := s.size + b.length }, 2, b, b.length⟩ := by
  have hmin : minI (minI s.left 400) b.length = b.length := by
    rw [h3]; unfold minI
    repeat' split
    all_goals omega
  unfold moreX
  rw [if_pos (show s.fk = 1 ∨ s.fk = 2 from .inr h2), if_neg (by omega), hmin, if_neg (by omega), h3, Int.sub_self, Int.toNat_natCast, List.take_length]
theorem limGo_step {n : Nat} {s : RS} {b : List UInt8} {m : Int} {x : NX} (hx : nextX s b 400 m 400 = x) (h0 : x.er = 0) : limGo (n + 1) s b m = limGo n x.r (b.drop x.n) m := by
  show (if _ then _ else _) = _
  rw [hx, if_pos h0]
theorem limGo_stop {n : Nat} {s : RS} {b : List UInt8} {m : Int} {x : NX} (hx : nextX s b 400 m 400 = x) (h0 : ¬ x.er = 0) : limGo (n + 1) s b m = (x.er, s) := by
  show (if _ then _ else _) = _
  rw [hx, if_neg h0]
theorem lim_length (k m : Nat) (hk : k < 60) (hm : m < 60) : LimOk k m (limGo 8 zeroR (limW k false) (m : Int)) := by
  have hl : (limD k).length = k := List.length_replicate
  have h1 := lim_first k m hk false (limD k)
  unfold LimOk
  by_cases hlt : m < k
  · rw [if_pos ⟨rfl, hlt⟩] at h1
    rw [show limW k false = limH k false ++ limD k from rfl, limGo_stop (n := 7) h1 (by show ¬ (9 : Int) = 0; decide), if_pos hlt]
    rfl
  · rw [if_neg (fun h => hlt h.2)] at h1
    rw [show limW k false = limH k false ++ limD k from rfl, limGo_step (n := 7) h1 rfl, if_neg hlt]
    rw [show List.drop (NX.mk 0 (limR k false) 1 [] (limH k false).length).n (limH k false ++ limD k) = limD k from List.drop_left]
    by_cases h0 : k = 0
    · have h2 : nextX (limR k false) (limD k) 400 (m : Int) 400 = ⟨0, { limR k false with ph := 2 }, 3, [], 0⟩ := by
        rw [next_body rfl, more_end rfl (by show (k : Int) = 0; omega)]
      rw [limGo_step (n := 6) h2 rfl, limGo_done _ _ _ _ rfl]
      exact ⟨rfl, rfl, by show (0 : Int) = (k : Int); omega⟩
    · have h2 : nextX (limR k false) (limD k) 400 (m : Int) 400 = ⟨0, { limR k false with left := 0, size := (0 : Int) + (limD k).length }, 2, limD k, (limD k).length⟩ := by
        rw [next_body rfl, more_data rfl (by show (k : Int) = _; rw [hl]) (by omega) (by omega)]
        rfl
      rw [limGo_step (n := 6) h2 rfl]
      have h3 : nextX { limR k false with left := 0, size := (0 : Int) + (limD k).length } (List.drop (limD k).length (limD k)) 400 (m : Int) 400 = ⟨0, { limR k false with left := 0, size := (0 : Int) + (limD k).length, ph := 2 }, 3, [], 0⟩ := by
        rw [next_body rfl, more_end rfl rfl]
      rw [limGo_step (n := 5) h3 rfl, limGo_done _ _ _ _ rfl]
      exact ⟨rfl, rfl, by show (0 : Int) + _ = _; rw [hl]; omega⟩
theorem lim_chunks (k m : Nat) (hk : k < 60) (hm : m < 60) : LimOk k m (limGo 8 zeroR (limW k true) (m : Int)) := by
  have hl : (limD k).length = k := List.length_replicate
  obtain ⟨E, hE⟩ : ∃ E, E = encodeS [(limD k).take (k / 2), (limD k).drop (k / 2)] := ⟨_, rfl⟩
  have hfu : feedU zeroC [] 0 E = (0, ⟨4, 0, 2, []⟩, limD k, E.length) := by
    have h := feed_enc [] [(limD k).take (k / 2), (limD k).drop (k / 2)] [] 0 (fun d hd => by
      simp only [List.mem_cons, List.not_mem_nil, or_false] at hd
      rcases hd with rfl | rfl
      · rw [List.length_take]; omega
      · rw [List.length_drop]; omega)
    rw [← encodeS_eq, ← hE, List.append_nil, List.nil_append, Nat.zero_add] at h
    rw [h]
    simp
  have h1 := lim_first k m hk true E
  rw [if_neg (by rintro ⟨h, _⟩; cases h)] at h1
  have hroom : minI 400 ((m : Int) + 1 - (limR k true).size) = (m : Int) + 1 := by
    show minI 400 ((m : Int) + 1 - 0) = _
    unfold minI
    rw [if_neg (by omega)]; omega
  unfold LimOk
  rw [show limW k true = limH k true ++ E by rw [hE]; rfl, limGo_step (n := 7) h1 rfl]
  rw [show List.drop (NX.mk 0 (limR k true) 1 [] (limH k true).length).n (limH k true ++ E) = E from List.drop_left]
  by_cases hlt : m < k
  · obtain ⟨q1, q2⟩ := feedS_full ((m : Int) + 1) E zeroC [] 0 (by rw [hfu]) (by show (0 : Int) ≤ _; omega) (by rw [hfu]; show _ ≤ ((limD k).length : Int); omega)
    have h2 : nextX (limR k true) E 400 (m : Int) 400 = errX 9 := by
      rw [next_body rfl]
      unfold moreX
      rw [if_neg (by show ¬ ((3 : Int) = 1 ∨ (3 : Int) = 2); omega), if_pos (show (limR k true).fk = 3 from rfl), hroom]
      rw [show (limR k true).ck = zeroC from rfl, if_neg (by rw [q1]; decide), if_pos (by show (m : Int) < 0 + _; omega)]
    rw [if_pos hlt, limGo_stop (n := 6) h2 (by show ¬ (9 : Int) = 0; decide)]
    rfl
  · have hfs : feedS ((m : Int) + 1) zeroC [] 0 E = (0, ⟨4, 0, 2, []⟩, limD k, E.length) := by
      rw [feedS_fits _ _ _ _ _ (by rw [hfu]) (by rw [hfu]; show ((limD k).length : Int) ≤ _; omega), hfu]
    rw [if_neg hlt]
    by_cases h0 : k = 0
    · have h2 : nextX (limR k true) E 400 (m : Int) 400 = ⟨0, { limR k true with ck := ⟨4, 0, 2, []⟩, ph := 2 }, 3, [], E.length⟩ := by
        rw [next_body rfl]
        unfold moreX
        rw [if_neg (by show ¬ ((3 : Int) = 1 ∨ (3 : Int) = 2); omega), if_pos (show (limR k true).fk = 3 from rfl), hroom]
        rw [show (limR k true).ck = zeroC from rfl, hfs, if_neg (fun h => h rfl), if_neg (by show ¬ (m : Int) < 0 + ((limD k).length : Int); omega), if_neg (by show ¬ 0 < (limD k).length; omega), if_pos rfl]
      rw [limGo_step (n := 6) h2 rfl, limGo_done _ _ _ _ rfl]
      exact ⟨rfl, rfl, by show (0 : Int) = (k : Int); omega⟩
    · have h2 : nextX (limR k true) E 400 (m : Int) 400 = ⟨0, { limR k true with ck := ⟨4, 0, 2, []⟩, size := (0 : Int) + (limD k).length }, 2, limD k, E.length⟩ := by
        rw [next_body rfl]
        unfold moreX
        rw [if_neg (by show ¬ ((3 : Int) = 1 ∨ (3 : Int) = 2); omega), if_pos (show (limR k true).fk = 3 from rfl), hroom]
        rw [show (limR k true).ck = zeroC from rfl, hfs, if_neg (fun h => h rfl), if_neg (by show ¬ (m : Int) < 0 + ((limD k).length : Int); omega), if_pos (by show 0 < (limD k).length; omega)]
        rfl
      rw [limGo_step (n := 6) h2 rfl]
      have hd : ∀ (room : Int) (l : List UInt8), feedS room ⟨4, 0, 2, []⟩ [] 0 l = (0, ⟨4, 0, 2, []⟩, [], 0) := fun room l => by
        cases l with
        | nil => rfl
        | cons x r => unfold feedS; rw [if_pos (.inl rfl)]
      have h3 : nextX { limR k true with ck := ⟨4, 0, 2, []⟩, size := (0 : Int) + (limD k).length } (List.drop E.length E) 400 (m : Int) 400 = ⟨0, { limR k true with ck := ⟨4, 0, 2, []⟩, size := (0 : Int) + (limD k).length, ph := 2 }, 3, [], 0⟩ := by
        rw [next_body rfl]
        unfold moreX
        rw [if_neg (by show ¬ ((3 : Int) = 1 ∨ (3 : Int) = 2); omega), if_pos (show (limR k true).fk = 3 from rfl)]
        dsimp only
        rw [hd, if_neg (fun h => h rfl), if_neg (by show ¬ (m : Int) < 0 + ((limD k).length : Int) + 0; omega), if_neg (by decide), if_pos rfl]
      rw [limGo_step (n := 5) h3 rfl, limGo_done _ _ _ _ rfl]
      exact ⟨rfl, rfl, by show (0 : Int) + _ = _; rw [hl]; omega⟩
theorem readerLimits_any (n bd : Int) (ch : Bool) (mm : Int) (w : World) (hk : HdOk w mm) : Calls Tryz.prog 6 #[.int .i64 n, .int .i64 bd, .bool ch] w fun e w' => e = .returned (.bool true) ∧ Below w.heap.size w w' :=
  readerLimits_pre (fun k m ch h1 h2 => by
    cases ch with
    | false => exact lim_length k m h1 h2
    | true => exact lim_chunks k m h1 h2) n bd ch mm w hk
end Go.Proofs.YtejbkbccljoldaaGreatDoor
