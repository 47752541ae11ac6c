/- Writing messages: Make and Text of package writer. Opening the arguments of the laws on fields. The law WriterMake. -/
import Derived.Test.YteoadfckcilalaaDoorPk1
import Derived.Test.YteoadfckcilalaaDoorPk2
import Derived.Test.YteoadfckcilalaaDoorRows
import Derived.WalkKit
import Derived.WalkSpells
import Derived.WalkLawsBesides
import Derived.BigQuiet
import Derived.Deep.QuietTactic
import Derived.Lib.Bytealg
import Derived.Lib.IndexLaws
import Derived.Lib.Hide
import Derived.Laws.IdiomStrings
import Derived.Lib.SlTrimSet
import Derived.Lib.IndexBytes
import Derived.Lib.Split
import Derived.Deep.AppendLies
import Derived.Shelf.Strings.SlTrimAscii
import Derived.Shelf.Strings.SplitShaped
import Derived.Shelf.LaysM
import Derived.Shelf.Strings.BuilderK
import Derived.Shelf.Strconv.Itoa4
import Derived.Shelf.Strings.Prefix
import Derived.Shelf.Bytes.SlIndexWhole
import Derived.Test.YteoadfckcilalaaDoorProg
import Derived.Lib.SplitLaws
import Derived.WalkSmall
import Derived.ProofKit
import Derived.OpenShut
import Derived.Lib.Strings
import Derived.SliceStrings
import Derived.Deep.Quiet
import Derived.Tactics
import Derived.KernelRfl
import Derived.Below
import Derived.Laws.Bits64
import Derived.Lib.SlBytesConst
import Derived.Maps.AppendAt
import Derived.Laws.AppendOwnNone
import Derived.Great.BuildSlice
import Derived.Laws.Rows
import Derived.Laws.BitsAllLaws
import Derived.Laws.Shifts
import Derived.Maps.OwnOps
import Derived.Maps.OwnSet
import Derived.Deep.SlicePairs
import Derived.Lib.AppendZerosOnto
import Derived.Lib.AppendStr
import Derived.Laws.CopyOwn
import Derived.OwnWalk
import Derived.Laws.Strings3
import Derived.Laws.Concat
import Derived.Lib.ItoaMem
import Derived.IntWalk
import Derived.Laws.RangeAny
import Derived.LoopTactic
import Derived.Sort.Grow
import Derived.Lib.ConvBytes
import Derived.Lib.LaidTab
import Derived.LaidSub
import Derived.Laws.Bits64b
import Derived.Deep.DeepCutAuto
import Derived.Deep.CutBlock
import Derived.Lib.FrozenHead2
import Derived.Deep.RegionHeld3
import Derived.Deep.Matrix
import Derived.MakeChecks
import Derived.Deep.MidRow
import Derived.Laws.Tables
import Derived.Deep.WholeRow
import Derived.StillTailTactics
import Derived.Lib.LazyBuf
import Derived.ArgAppend
namespace Go.Proofs.YteoadfckcilalaaDoor
open Go.RowKit

set_option linter.unusedVariables false
theorem fldsIn_twoW (w : World) (a b c d : ByteArray) : FldsIn (w.alloc (.cells #[.string a, .string b, .string c, .string d] 38)) (some ⟨w.heap.size, 0, none⟩) [(a, b), (c, d)] := fun j hj => by
  match j, hj with
  | 0, _ => exact ⟨_, rfl, by rw [Addr.add_lit, new_cellF]; rfl, by rw [Addr.add_lit, new_cellF]; rfl⟩
  | 1, _ => exact ⟨_, rfl, by rw [Addr.add_lit, new_cellF]; rfl, by rw [Addr.add_lit, new_cellF]; rfl⟩
/-- A made reply comes back. -/
def RetMk (w : World) (st : Int) (kind body : ByteArray) (more : List Fld) (e : Ending) (w' : World) : Prop :=
  ∃ fa fc ba bc, e = .returned (.agg #[.int .i64 st, .string (reasS st), .int .i64 1, .slice fa (List.length (makeX kind body.size ++ more)) fc, .slice ba (List.length body.data.toList) bc]) ∧
    FldsIn w' fa (makeX kind body.size ++ more) ∧ IsBytes w' ba body.data.toList bc ∧ Below w.heap.size w w'
set_option maxRecDepth 100000 in
set_option maxHeartbeats 2000000 in
theorem projMake_any (st : Int) (kind body : ByteArray) (more : List Fld) (ma : Option Addr) (mc : Nat) (w : World) (hbz : body.size ≤ 4000000000) (hm : FldsC w ma more mc) (hml : more.length ≤ 1000000) (ht : Tabs w) (hr : ReasT w) :
    Calls Tryd.prog 6 #[.int .i64 st, .string kind, .string body, .slice ma more.length mc] w (RetMk w st kind body more) := by
  obtain ⟨W1, hW1⟩ : ∃ W1, W1 = w.alloc (.cells #[.int .i64 0, .string ⟨#[]⟩, .int .i64 0, .slice none 0 0, .slice none 0 0] 28) := ⟨_, rfl⟩
  have HB1 := Box.mk (show Below w.heap.size w W1 by rw [hW1]; exact below_oneF _ _)
  have HA1 := Box.mk (show W1.heap[w.heap.size]? = some (.cells #[.int .i64 0, .string ⟨#[]⟩, .int .i64 0, .slice none 0 0, .slice none 0 0] 28 (0, 0)) by rw [hW1]; exact heap_alloc_new _ _)
  have HT := Box.mk ht
  have HR := Box.mk hr
  have HM := Box.mk hm
  have HBZ := Box.mk hbz
  have HML := Box.mk hml
  have HW1 := Box.mk hW1
  clear hm hml ht hr hW1 hbz
  go_enter Tryd.func6, Tryd.ntmps6
  go_upto_region 1 with fail
  rw [← HW1.out]
  clear HW1
  go_wp2_with fail
  refine (decimal_any (body.size : Int) W1 (by omega) (by have := HBZ.out; omega) (tabs_below HT.out HB1.out)).mono ?_
  rintro e w2 ⟨rfl, hb2⟩
  obtain ⟨W3, hW3⟩ : ∃ W3, W3 = w2.alloc (.cells #[.string ctWr, .string kind, .string clWr, .string (fmtS 10 (body.size : Int))] 38) := ⟨_, rfl⟩
  have hb23 : Below w2.heap.size w2 W3 := by rw [hW3]; exact below_oneF _ _
  have hb13 := below_trans hb2 hb23
  have HB3 := Box.mk (below_trans HB1.out hb13)
  have HA3 := Box.mk ((hb13.block _ (lt_row HA1.out)).trans HA1.out)
  have HF3 := Box.mk (show FldsC W3 (some ⟨w2.heap.size, 0, none⟩) (makeX kind body.size) 2 by rw [hW3]; exact ⟨fldsIn_twoW w2 ctWr kind clWr (fmtS 10 (body.size : Int)), fun e => by cases e⟩)
  have HW3 := Box.mk hW3
  clear hb2 hb23 hb13 hW3 HB1 HA1
  go_upto_region 2 with fail
  change Code.wp _ _ _ _ (w2.alloc (.cells #[.string ctWr, .string kind, .string clWr, .string (fmtS 10 (body.size : Int))] 38))
  rw [← HW3.out]
  clear HW3
  go_wp2_with fail
  refine (projReason_any st W3 (HR.out.keep HB3.out)).mono ?_
  rintro e w4 ⟨rfl, hb4⟩
  have HB4 := Box.mk (below_trans HB3.out hb4)
  have HA4 := Box.mk ((hb4.block _ (lt_row HA3.out)).trans HA3.out)
  have HF4 := Box.mk (HF3.out.keep hb4)
  clear hb4 HB3 HA3 HF3
  go_wp2_with fail
  refine (fWith_any (makeX kind body.size) more _ ma 2 mc w4 HF4.out (HM.out.keep HB4.out) (by show 2 ≤ _; decide) HML.out).mono ?_
  rintro e w5 ⟨fa, fc, he, hf5, hb5⟩
  obtain ⟨N, hN⟩ : ∃ N, N = List.length (makeX kind body.size ++ more) := ⟨_, rfl⟩
  rw [← hN] at he
  subst he
  have HN := Box.mk hN
  have hcvb := fun W => Lib.run_convert_string_bytes (P := Tryd.prog) W 9 26 5 body Tryd.underlying9 Tryd.underlying26 Tryd.underlying5
  have hb56 : Below w5.heap.size w5 (Lib.bytesWorld w5 5 body) := below_convH _ _ _
  have HB6 := Box.mk (below_trans (below_trans HB4.out hb5) hb56)
  have HA6 := Box.mk (((below_trans hb5 hb56).block _ (lt_row HA4.out)).trans HA4.out)
  have HF6 := Box.mk (hf5.keep hb56)
  have HI6 := Box.mk (isBytes_bytesWorld w5 body HBZ.out)
  have HB7 := Box.mk (below_setRow HB6.out (Nat.le_refl _) #[.int .i64 st, .string (reasS st), .int .i64 1, .slice fa N fc, .slice (some ⟨w5.heap.size, 0, none⟩) body.size (grownCap w5 body.size 0 5)])
  clear hb5 hf5 hb56 HB4 HA4 HF4 hN
  go_wp2_with (refine wpList_store_row rfl 28 _ _ rfl w.heap.size #[.int .i64 st, .string (reasS st), .int .i64 1, .slice fa N fc, .slice (some ⟨w5.heap.size, 0, none⟩) body.size (grownCap w5 body.size 0 5)] rfl rfl 28 _ HA6.out sizeA rfl (by simp [Value.oneCell']) ?_)
  (try simp only [Exit.inBlock, Exit.then])
  refine bodyPost_ret (results_r rfl _ _ w.heap.size 28 #[.int .i64 st, .string (reasS st), .int .i64 1, .slice fa N fc, .slice (some ⟨w5.heap.size, 0, none⟩) body.size (grownCap w5 body.size 0 5)] (0, 0) _ rfl (setRow_heap _ _ _ _ _ _ HA6.out) Tryd.underlying28 rfl sizeA) rfl ?_
  refine ⟨fa, fc, some ⟨w5.heap.size, 0, none⟩, grownCap w5 body.size 0 5, by rw [← HN.out]; rfl, ?_, ?_, HB7.out⟩
  · exact HF6.out.same fun y e => setRow_other _ _ _ _ (flds_away HA6.out (noStr_of rfl) (HF6.out.take 1) (by intro f hf; obtain rfl := List.mem_singleton.1 hf; show ¬ ctWr.size = 0; decide) y e (by simp [makeX]))
  · exact isBytes_rowR HA6.out (noU8_22 rfl) HI6.out
set_option maxRecDepth 100000 in
set_option maxHeartbeats 2000000 in
theorem projText_any (st : Int) (body : ByteArray) (more : List Fld) (ma : Option Addr) (mc : Nat) (w : World) (hbz : body.size ≤ 4000000000) (hm : FldsC w ma more mc) (hml : more.length ≤ 1000000) (ht : Tabs w) (hr : ReasT w) :
    Calls Tryd.prog 8 #[.int .i64 st, .string body, .slice ma more.length mc] w (RetMk w st txtWr body more) := by
  obtain ⟨W1, hW1⟩ : ∃ W1, W1 = w.alloc (.cells #[.int .i64 0, .string ⟨#[]⟩, .int .i64 0, .slice none 0 0, .slice none 0 0] 28) := ⟨_, rfl⟩
  have HB1 := Box.mk (show Below w.heap.size w W1 by rw [hW1]; exact below_oneF _ _)
  have HA1 := Box.mk (show W1.heap[w.heap.size]? = some (.cells #[.int .i64 0, .string ⟨#[]⟩, .int .i64 0, .slice none 0 0, .slice none 0 0] 28 (0, 0)) by rw [hW1]; exact heap_alloc_new _ _)
  have HCALL := Box.mk (projMake_any st txtWr body more ma mc W1 hbz (hm.keep HB1.out) hml (tabs_below ht HB1.out) (hr.keep HB1.out))
  have HW1 := Box.mk hW1
  clear hm hml ht hr hW1 hbz
  go_enter Tryd.func8, Tryd.ntmps8
  go_upto_region 1 with fail
  rw [← HW1.out]
  clear HW1
  go_wp2_with fail
  refine HCALL.out.mono ?_
  rintro e w2 ⟨fa, fc, ba, bc, he, hf2, hi2, hb2⟩
  obtain ⟨cr, hcr⟩ : ∃ cr : Array Value, cr = #[.int .i64 st, .string (reasS st), .int .i64 1, .slice fa (List.length (makeX txtWr body.size ++ more)) fc, .slice ba (List.length body.data.toList) bc] := ⟨_, rfl⟩
  rw [← hcr] at he
  subst he
  have HCR := Box.mk hcr
  have hcr5 : cr.size = 5 := by rw [hcr]; rfl
  have hcr1 : cr.all (·.oneCell') = true := by rw [hcr]; simp [Value.oneCell']
  have HSA := Box.mk (show (Tryd.prog.info? 28).map (·.size) = some cr.size by rw [hcr5]; exact sizeA)
  have HB2 := Box.mk (below_trans HB1.out hb2)
  have HA2 := Box.mk ((hb2.block _ (lt_row HA1.out)).trans HA1.out)
  have HF2 := Box.mk hf2
  have HI2 := Box.mk hi2
  have HB3 := Box.mk (below_setRow HB2.out (Nat.le_refl _) cr)
  clear hf2 hi2 hb2 HCALL HB1 HA1 hcr
  go_wp2_with (refine wpList_store_row rfl 28 _ _ rfl w.heap.size cr rfl rfl 28 _ HA2.out HSA.out hcr5.symm hcr1 ?_)
  (try simp only [Exit.inBlock, Exit.then])
  refine bodyPost_ret (results_r rfl _ _ w.heap.size 28 cr (0, 0) _ rfl (setRow_heap _ _ _ _ _ _ HA2.out) Tryd.underlying28 rfl HSA.out) rfl ?_
  refine ⟨fa, fc, ba, bc, by rw [HCR.out], ?_, ?_, HB3.out⟩
  · exact HF2.out.same fun y e => setRow_other _ _ _ _ (flds_away HA2.out (noStr_of rfl) (HF2.out.take 1) (by intro f hf; obtain rfl := List.mem_singleton.1 hf; decide) y e (by simp [makeX]))
  · exact isBytes_rowR HA2.out (noU8_22 rfl) HI2.out
def awN : ByteArray := ⟨#[110, 111, 10]⟩
def awX : List Fld := [(ctWr, txtWr), (clWr, ⟨#[51]⟩), (⟨#[88]⟩, ⟨#[121]⟩)]
theorem awX_eq : makeX txtWr awN.size ++ [((⟨#[88]⟩ : ByteArray), (⟨#[121]⟩ : ByteArray))] = awX := by
  have h : fmtS 10 ((3 : Nat) : Int) = ⟨#[51]⟩ := by decide +kernel
  show [(ctWr, txtWr), (clWr, fmtS 10 ((3 : Nat) : Int)), _] = _
  rw [h]; rfl
theorem awR_eq : reasS 404 = ⟨#[78, 111, 116, 32, 70, 111, 117, 110, 100]⟩ := by decide +kernel
theorem awF_small : SmallF awX := fun f hf => by
  unfold awX at hf
  simp only [List.mem_cons, List.not_mem_nil, or_false] at hf
  rcases hf with rfl | rfl | rfl <;> exact ⟨by decide, by decide⟩
def awB : List UInt8 := wrB (headB (fmtRep 404 ⟨#[78, 111, 116, 32, 70, 111, 117, 110, 100]⟩ 1) awX) [110, 111, 10]
theorem awB_eq : awB = [72, 84, 84, 80, 47, 49, 46, 49, 32, 52, 48, 52, 32, 78, 111, 116, 32, 70, 111, 117, 110, 100, 13, 10, 67, 111, 110, 116, 101, 110, 116, 45, 84, 121, 112, 101, 58, 32, 116, 101, 120, 116, 47, 112, 108, 97, 105, 110, 13, 10, 67, 111, 110, 116, 101, 110, 116, 45, 76, 101, 110, 103, 116, 104, 58, 32, 51, 13, 10, 88, 58, 32, 121, 13, 10, 13, 10, 110, 111, 10] := by decide +kernel
theorem awH_len : (headB (fmtRep 404 ⟨#[78, 111, 116, 32, 70, 111, 117, 110, 100]⟩ 1) awX).length + [(110 : UInt8), 111, 10].length ≤ 1000000000 := by
  have : (headB (fmtRep 404 ⟨#[78, 111, 116, 32, 70, 111, 117, 110, 100]⟩ 1) awX).length = 77 := by decide +kernel
  rw [this]; decide
theorem awS_len : (fmtRep 404 ⟨#[78, 111, 116, 32, 70, 111, 117, 110, 100]⟩ 1).size ≤ 3000000000 := by
  have : (fmtRep 404 ⟨#[78, 111, 116, 32, 70, 111, 117, 110, 100]⟩ 1).size = 22 := by decide +kernel
  omega
set_option maxRecDepth 100000 in
set_option maxHeartbeats 2000000 in
theorem awakeW_any (w : World) (ht : Tabs w) (hr : ReasT w) : Calls Tryd.prog 12 #[] w fun e w' => e = .returned (.bool true) ∧ Below w.heap.size w w' := by
  obtain ⟨W1, hW1⟩ : ∃ W1, W1 = w.alloc (.cells #[.string ⟨#[88]⟩, .string ⟨#[121]⟩] 38) := ⟨_, rfl⟩
  have HB1 := Box.mk (show Below w.heap.size w W1 by rw [hW1]; exact below_oneF _ _)
  have HF1 := Box.mk (show FldsC W1 (some ⟨w.heap.size, 0, none⟩) [((⟨#[88]⟩ : ByteArray), (⟨#[121]⟩ : ByteArray))] 1 by rw [hW1]; exact ⟨fldsIn_one w _ _, fun e => by cases e⟩)
  have HCALL := Box.mk (projText_any 404 awN [((⟨#[88]⟩ : ByteArray), (⟨#[121]⟩ : ByteArray))] (some ⟨w.heap.size, 0, none⟩) 1 W1 (by decide) HF1.out (by decide) (tabs_below ht HB1.out) (hr.keep HB1.out))
  have HT := Box.mk ht
  have HW1 := Box.mk hW1
  clear ht hr hW1
  go_enter Tryd.func12, Tryd.ntmps12
  go_wp2_with fail
  change Calls _ _ _ (w.alloc (.cells #[.string ⟨#[88]⟩, .string ⟨#[121]⟩] 38)) _
  rw [← HW1.out]
  clear HW1
  refine HCALL.out.mono ?_
  rintro e w2 ⟨fa, fc, ba, bc, he, hf2, hi2, hb2⟩
  rw [awX_eq] at he hf2
  rw [awR_eq] at he
  simp only [show List.length awX = 3 from rfl, show List.length awN.data.toList = 3 from rfl] at he
  rw [show awN.data.toList = [110, 111, 10] from rfl] at hi2
  subst he
  obtain ⟨fb, fo, fn, rfl⟩ : ∃ b o n, fa = some ⟨b, o, n⟩ := by
    obtain ⟨⟨b, o, n⟩, e, _⟩ := hf2 0 (by decide)
    exact ⟨b, o, n, e⟩
  obtain ⟨W3, hW3⟩ : ∃ W3, W3 = (w2.alloc (.cells #[.int .i64 0, .string ⟨#[]⟩, .int .i64 0, .slice none 0 0, .slice none 0 0] 28)).setRow w2.heap.size #[.int .i64 404, .string ⟨#[78, 111, 116, 32, 70, 111, 117, 110, 100]⟩, .int .i64 1, .slice (some ⟨fb, fo, fn⟩) 3 fc, .slice ba 3 bc] := ⟨_, rfl⟩
  have HV2 := Box.mk (show (w2.alloc (.cells #[.int .i64 0, .string ⟨#[]⟩, .int .i64 0, .slice none 0 0, .slice none 0 0] 28)).heap[w2.heap.size]? = some (.cells #[.int .i64 0, .string ⟨#[]⟩, .int .i64 0, .slice none 0 0, .slice none 0 0] 28 (0, 0)) from heap_alloc_new _ _)
  have hb23 : Below w2.heap.size w2 W3 := by rw [hW3]; exact below_setRow (below_oneF _ _) (Nat.le_refl _) _
  have HA3 := Box.mk (show W3.heap[w2.heap.size]? = some (.cells #[.int .i64 404, .string ⟨#[78, 111, 116, 32, 70, 111, 117, 110, 100]⟩, .int .i64 1, .slice (some ⟨fb, fo, fn⟩) 3 fc, .slice ba 3 bc] 28 (0, 0)) by rw [hW3]; exact setRow_heap _ _ _ _ _ _ HV2.out)
  have HB3 := Box.mk (below_trans (below_trans HB1.out hb2) hb23)
  have HF3 := Box.mk (hf2.keep hb23)
  have HI3 := Box.mk (hi2.keep hb23)
  have k1 : W3.cell? ⟨w2.heap.size, 1, none⟩ = some (.string ⟨#[78, 111, 116, 32, 70, 111, 117, 110, 100]⟩) := by rw [cell_of_row _ _ _ _ _ _ HA3.out]; rfl
  have k0 : W3.cell? ⟨w2.heap.size, 0, none⟩ = some (.int .i64 404) := by rw [cell_of_row _ _ _ _ _ _ HA3.out]; rfl
  have k2 : W3.cell? ⟨w2.heap.size, 2, none⟩ = some (.int .i64 1) := by rw [cell_of_row _ _ _ _ _ _ HA3.out]; rfl
  have k4 : W3.cell? ⟨w2.heap.size, 4, none⟩ = some (.slice ba 3 bc) := by rw [cell_of_row _ _ _ _ _ _ HA3.out]; rfl
  have k3 : W3.cell? ⟨w2.heap.size, 3, none⟩ = some (.slice (some ⟨fb, fo, fn⟩) 3 fc) := by rw [cell_of_row _ _ _ _ _ _ HA3.out]; rfl
  obtain ⟨c2, c3⟩ : W3.cell? ⟨fb, fo + 2, none⟩ = some (.string ⟨#[67, 111, 110, 116, 101, 110, 116, 45, 76, 101, 110, 103, 116, 104]⟩) ∧ W3.cell? ⟨fb, fo + 2 + 1, none⟩ = some (.string ⟨#[51]⟩) := by
    obtain ⟨f2, e2, c2, c3⟩ := HF3.out 1 (by decide)
    obtain rfl := Option.some.inj e2
    exact ⟨c2, c3⟩
  have HCALL2 := Box.mk (show Calls Tryd.prog 17 #[.agg #[.int .i64 404, .string ⟨#[78, 111, 116, 32, 70, 111, 117, 110, 100]⟩, .int .i64 1, .slice (some ⟨fb, fo, fn⟩) 3 fc, .slice ba 3 bc]] W3 (RetHdO W3 awB) from projRep_any 404 ⟨#[78, 111, 116, 32, 70, 111, 117, 110, 100]⟩ 1 awX [110, 111, 10] (some ⟨fb, fo, fn⟩) ba fc bc 0 W3 (by decide) HF3.out awF_small (by decide) awS_len HI3.out awH_len (tabs_below HT.out HB3.out))
  have HW3 := Box.mk hW3
  clear hf2 hi2 hb2 hb23 hW3 HCALL HB1 HF1
  go_upto_region 2 with (refine wpList_store_row rfl 28 _ _ rfl w2.heap.size #[.int .i64 404, .string ⟨#[78, 111, 116, 32, 70, 111, 117, 110, 100]⟩, .int .i64 1, .slice (some ⟨fb, fo, fn⟩) 3 fc, .slice ba 3 bc] rfl rfl 28 _ HV2.out sizeA rfl (by simp [Value.oneCell']) ?_)
  rw [← HW3.out]
  clear HW3
  go_wp2_with fail
  refine HCALL2.out.mono ?_
  rintro e w4 ⟨v, rfl, ho, hb4⟩
  obtain ⟨a5, c5, rfl, hib⟩ := ho.form
  have hcv := conv_bytes hib
  have hl : awB.length = 80 := by rw [awB_eq]; rfl
  rw [hl] at hcv ⊢
  rw [awB_eq] at hcv
  clear hl
  have HB4 := Box.mk (below_trans HB3.out hb4)
  clear ho hb4 hib HCALL2 HA3 HF3 HI3 HV2 k0 k1 k2 k3 k4 c2 c3
  go_wp2_with fail
  go_ret
  exact ⟨rfl, HB4.out⟩
end Go.Proofs.YteoadfckcilalaaDoor
namespace Go.Proofs.YteoadfckcilalaaDoor
open Go.ChangeShapes Go.WideShapes Go.ChangeAt Go.RowKit

theorem fields_none {H : Type} {enc : TypeId × Value → H} {W : World} {a : Option Addr} {len cap : Nat} {d : DataW H} {ps : List MemPlace} {base : Nat}
    (h : DataW.Trod enc Tryd.prog W base (fun _ => true) true 22 (.slice a len cap) d ps) : a = none → len = 0 ∧ cap = 0 := by
  obtain ⟨fuel, hf⟩ := h
  rcases Go.Deep.open_slice_pairs Tryd.underlying22 Tryd.underlying38 (by kernel_rfl) (by kernel_rfl) (by kernel_rfl) (by kernel_rfl) (by kernel_rfl) hf with ⟨hcs, _⟩ | ⟨x, n, c, m, k, V0, V1, D0, D1, P0, P1, hcs, _⟩
  · simp [Value.cells] at hcs
    obtain ⟨rfl, rfl, rfl⟩ := hcs
    exact fun _ => ⟨rfl, rfl⟩
  · simp [Value.cells] at hcs
    obtain ⟨rfl, rfl, rfl⟩ := hcs
    intro e; cases e
theorem open_fieldsC {H : Type} {enc : TypeId × Value → H} {W : World} {a : Option Addr} {len cap : Nat} {d : DataW H} {ps : List MemPlace} {base : Nat}
    (h : DataW.Trod enc Tryd.prog W base (fun _ => true) true 22 (.slice a len cap) d ps) :
    ∃ l : List Fld, len = l.length ∧ FldsC W a l cap ∧ l.length ≤ cap ∧ cap ≤ maxLen ∧ ShortF l ∧ (Rows.uptoBulk d ≤ 1048576 → SmallF l) := by
  obtain ⟨l, rfl, h1, h2, h3, h4, h5⟩ := open_fields h
  refine ⟨l, rfl, ⟨h1, fun e => ?_⟩, h2, h3, h4, fun hb f hf => ⟨Nat.le_trans (h5 f hf).1 hb, Nat.le_trans (h5 f hf).2 hb⟩⟩
  obtain ⟨e1, e2⟩ := fields_none h e
  exact ⟨List.eq_nil_of_length_eq_zero e1, e2⟩
end Go.Proofs.YteoadfckcilalaaDoor
namespace Go.Proofs.YteoadfckcilalaaDoor
open Go.RowKit

set_option linter.unusedVariables false
theorem bulk_oneW {H : Type} (d : DataW H) : 1 ≤ Rows.uptoBulk d := by
  cases d with
  | lit l => cases l <;> simp [Rows.uptoBulk]
  | _ => simp [Rows.uptoBulk]
theorem pairs_bulk {H : Type} (D0 D1 : Nat → DataW H) : ∀ l : List Nat, 3 * l.length ≤ Rows.uptoBulkAll (l.map fun i => (.agg [D0 i, D1 i] : DataW H))
  | [] => Nat.zero_le _
  | i :: r => by
    have ih := pairs_bulk D0 D1 r
    have h0 := bulk_oneW (D0 i)
    have h1 := bulk_oneW (D1 i)
    simp only [List.map_cons, Rows.uptoBulkAll, List.length_cons, Rows.uptoBulk]
    omega
theorem fields_bulkW {H : Type} {enc : TypeId × Value → H} {W : World} {a : Option Addr} {len cap : Nat} {d : DataW H} {ps : List MemPlace} {base : Nat}
    (h : DataW.Trod enc Tryd.prog W base (fun _ => true) true 22 (.slice a len cap) d ps) : 3 * len ≤ Rows.uptoBulk d := by
  obtain ⟨fuel, hf⟩ := h
  rcases Go.Deep.open_slice_pairs Tryd.underlying22 Tryd.underlying38 (by kernel_rfl) (by kernel_rfl) (by kernel_rfl) (by kernel_rfl) (by kernel_rfl) hf with ⟨hcs, _⟩ | ⟨x, n, c, m, k, V0, V1, D0, D1, P0, P1, hcs, _, hl, hm, hmm, hx, hi⟩
  · simp [Value.cells] at hcs
    omega
  · simp [Value.cells] at hcs
    obtain ⟨rfl, rfl, rfl⟩ := hcs
    have hd : d = .slice ((List.range len).map fun i => .agg [D0 i, D1 i]) ((List.range (m - len)).map fun j => .agg [D0 (len + j), D1 (len + j)]) := congrArg Prod.fst hx
    have := pairs_bulk D0 D1 (List.range len)
    rw [List.length_range] at this
    rw [hd]
    simp only [Rows.uptoBulk]
    omega
set_option maxRecDepth 100000 in
set_option maxHeartbeats 2000000 in
theorem refReason_any (st : Int) (w : World) : Calls Tryd.prog 11 #[.int .i64 st] w fun e w' => e = .returned (.string (reasS st)) ∧ Below w.heap.size w w' := by
  by_cases h200 : st = 200
  · have e : reasS 200 = ⟨#[79, 75]⟩ := by decide +kernel
    subst h200
    rw [e]
    go_enter Tryd.func11, Tryd.ntmps11
    go_wp2_with fail
    go_ret
    exact ⟨rfl, Below.refl _ _⟩
  by_cases h400 : st = 400
  · have e : reasS 400 = ⟨#[66, 97, 100, 32, 82, 101, 113, 117, 101, 115, 116]⟩ := by decide +kernel
    subst h400
    rw [e]
    go_enter Tryd.func11, Tryd.ntmps11
    go_wp2_with fail
    go_ret
    exact ⟨rfl, Below.refl _ _⟩
  by_cases h404 : st = 404
  · have e : reasS 404 = ⟨#[78, 111, 116, 32, 70, 111, 117, 110, 100]⟩ := by decide +kernel
    subst h404
    rw [e]
    go_enter Tryd.func11, Tryd.ntmps11
    go_wp2_with fail
    go_ret
    exact ⟨rfl, Below.refl _ _⟩
  by_cases h405 : st = 405
  · have e : reasS 405 = ⟨#[77, 101, 116, 104, 111, 100, 32, 78, 111, 116, 32, 65, 108, 108, 111, 119, 101, 100]⟩ := by decide +kernel
    subst h405
    rw [e]
    go_enter Tryd.func11, Tryd.ntmps11
    go_wp2_with fail
    go_ret
    exact ⟨rfl, Below.refl _ _⟩
  by_cases h408 : st = 408
  · have e : reasS 408 = ⟨#[82, 101, 113, 117, 101, 115, 116, 32, 84, 105, 109, 101, 111, 117, 116]⟩ := by decide +kernel
    subst h408
    rw [e]
    go_enter Tryd.func11, Tryd.ntmps11
    go_wp2_with fail
    go_ret
    exact ⟨rfl, Below.refl _ _⟩
  by_cases h409 : st = 409
  · have e : reasS 409 = ⟨#[67, 111, 110, 102, 108, 105, 99, 116]⟩ := by decide +kernel
    subst h409
    rw [e]
    go_enter Tryd.func11, Tryd.ntmps11
    go_wp2_with fail
    go_ret
    exact ⟨rfl, Below.refl _ _⟩
  by_cases h413 : st = 413
  · have e : reasS 413 = ⟨#[67, 111, 110, 116, 101, 110, 116, 32, 84, 111, 111, 32, 76, 97, 114, 103, 101]⟩ := by decide +kernel
    subst h413
    rw [e]
    go_enter Tryd.func11, Tryd.ntmps11
    go_wp2_with fail
    go_ret
    exact ⟨rfl, Below.refl _ _⟩
  by_cases h431 : st = 431
  · have e : reasS 431 = ⟨#[82, 101, 113, 117, 101, 115, 116, 32, 72, 101, 97, 100, 101, 114, 32, 70, 105, 101, 108, 100, 115, 32, 84, 111, 111, 32, 76, 97, 114, 103, 101]⟩ := by decide +kernel
    subst h431
    rw [e]
    go_enter Tryd.func11, Tryd.ntmps11
    go_wp2_with fail
    go_ret
    exact ⟨rfl, Below.refl _ _⟩
  by_cases h502 : st = 502
  · have e : reasS 502 = ⟨#[66, 97, 100, 32, 71, 97, 116, 101, 119, 97, 121]⟩ := by decide +kernel
    subst h502
    rw [e]
    go_enter Tryd.func11, Tryd.ntmps11
    go_wp2_with fail
    go_ret
    exact ⟨rfl, Below.refl _ _⟩
  by_cases h503 : st = 503
  · have e : reasS 503 = ⟨#[83, 101, 114, 118, 105, 99, 101, 32, 85, 110, 97, 118, 97, 105, 108, 97, 98, 108, 101]⟩ := by decide +kernel
    subst h503
    rw [e]
    go_enter Tryd.func11, Tryd.ntmps11
    go_wp2_with fail
    go_ret
    exact ⟨rfl, Below.refl _ _⟩
  by_cases h504 : st = 504
  · have e : reasS 504 = ⟨#[71, 97, 116, 101, 119, 97, 121, 32, 84, 105, 109, 101, 111, 117, 116]⟩ := by decide +kernel
    subst h504
    rw [e]
    go_enter Tryd.func11, Tryd.ntmps11
    go_wp2_with fail
    go_ret
    exact ⟨rfl, Below.refl _ _⟩
  by_cases h505 : st = 505
  · have e : reasS 505 = ⟨#[72, 84, 84, 80, 32, 86, 101, 114, 115, 105, 111, 110, 32, 78, 111, 116, 32, 83, 117, 112, 112, 111, 114, 116, 101, 100]⟩ := by decide +kernel
    subst h505
    rw [e]
    go_enter Tryd.func11, Tryd.ntmps11
    go_wp2_with fail
    go_ret
    exact ⟨rfl, Below.refl _ _⟩
  have HE := Box.mk (show errR = reasS st by
    unfold reasS reasL
    simp only [reasG]
    rw [if_neg (fun e => h200 e.symm), if_neg (fun e => h400 e.symm), if_neg (fun e => h404 e.symm), if_neg (fun e => h405 e.symm), if_neg (fun e => h408 e.symm), if_neg (fun e => h409 e.symm), if_neg (fun e => h413 e.symm), if_neg (fun e => h431 e.symm), if_neg (fun e => h502 e.symm), if_neg (fun e => h503 e.symm), if_neg (fun e => h504 e.symm), if_neg (fun e => h505 e.symm)])
  have b200 : (st == 200) = false := by rw [beq_eq_false_iff_ne]; exact h200
  have b400 : (st == 400) = false := by rw [beq_eq_false_iff_ne]; exact h400
  have b404 : (st == 404) = false := by rw [beq_eq_false_iff_ne]; exact h404
  have b405 : (st == 405) = false := by rw [beq_eq_false_iff_ne]; exact h405
  have b408 : (st == 408) = false := by rw [beq_eq_false_iff_ne]; exact h408
  have b409 : (st == 409) = false := by rw [beq_eq_false_iff_ne]; exact h409
  have b413 : (st == 413) = false := by rw [beq_eq_false_iff_ne]; exact h413
  have b431 : (st == 431) = false := by rw [beq_eq_false_iff_ne]; exact h431
  have b502 : (st == 502) = false := by rw [beq_eq_false_iff_ne]; exact h502
  have b503 : (st == 503) = false := by rw [beq_eq_false_iff_ne]; exact h503
  have b504 : (st == 504) = false := by rw [beq_eq_false_iff_ne]; exact h504
  have b505 : (st == 505) = false := by rw [beq_eq_false_iff_ne]; exact h505
  clear h200 h400 h404 h405 h408 h409 h413 h431 h502 h503 h504 h505
  go_enter Tryd.func11, Tryd.ntmps11
  go_wp2_with fail
  go_ret
  exact ⟨ret_str HE.out, Below.refl _ _⟩
theorem ownF_neW {B : Nat} {w : World} {v : Value} {l : List Fld} {q : Nat} {cs : Array Value} {fz : Nat × Nat} (h : OwnF B w v l) (hr : w.heap[q]? = some (.cells cs 28 fz)) : v.ownBlock ≠ some q := fun e => by
  rcases h.2 with ⟨h1, _⟩ | ⟨g', cap, cur, h1, h2, h3, _⟩
  · rw [h1] at e; cases e
  · rw [h1] at e
    obtain rfl : g' = q := Option.some.inj e
    rw [hr] at h3
    have := Option.some.inj h3
    injection this with _ h4
    exact absurd h4 (by decide)
set_option maxRecDepth 100000 in
set_option maxHeartbeats 2000000 in
theorem refMake_any (st : Int) (kind body : ByteArray) (more : List Fld) (ma : Option Addr) (mc : Nat) (w : World) (hbz : body.size ≤ 4000000000) (hm : FldsC w ma more mc) (hml : more.length ≤ 1000000) :
    Calls Tryd.prog 7 #[.int .i64 st, .string kind, .string body, .slice ma more.length mc] w (RetMk w st kind body more) := by
  obtain ⟨W1, hW1⟩ : ∃ W1, W1 = w.alloc (.cells #[.int .i64 0, .string ⟨#[]⟩, .int .i64 0, .slice none 0 0, .slice none 0 0] 28) := ⟨_, rfl⟩
  have HB1 := Box.mk (show Below w.heap.size w W1 by rw [hW1]; exact below_oneF _ _)
  have HA1 := Box.mk (show W1.heap[w.heap.size]? = some (.cells #[.int .i64 0, .string ⟨#[]⟩, .int .i64 0, .slice none 0 0, .slice none 0 0] 28 (0, 0)) by rw [hW1]; exact heap_alloc_new _ _)
  have HM := Box.mk hm
  have HBZ := Box.mk hbz
  have HML := Box.mk hml
  have HW1 := Box.mk hW1
  clear hm hml hW1 hbz
  go_enter Tryd.func7, Tryd.ntmps7
  go_upto_region 1 with fail
  rw [← HW1.out]
  clear HW1
  go_wp2_with fail
  refine (refDecimal_any (body.size : Int) W1 (by omega) (by have := HBZ.out; omega)).mono ?_
  rintro e w2 ⟨rfl, hb2⟩
  obtain ⟨W3, hW3⟩ : ∃ W3, W3 = w2.alloc (.cells #[.string ctWr, .string kind, .string clWr, .string (fmtS 10 (body.size : Int))] 38) := ⟨_, rfl⟩
  have hb23 : Below w2.heap.size w2 W3 := by rw [hW3]; exact below_oneF _ _
  have hb13 := below_trans hb2 hb23
  have HB3 := Box.mk (below_trans HB1.out hb13)
  have HA3 := Box.mk ((hb13.block _ (lt_row HA1.out)).trans HA1.out)
  have HF3 := Box.mk (show OwnF w2.heap.size W3 (.slice (some ⟨w2.heap.size, 0, none⟩) 2 2) (makeX kind body.size) by rw [hW3]; exact ⟨rfl, .inr ⟨w2.heap.size, 2, _, rfl, Nat.le_refl _, heap_alloc_new w2 (.cells #[.string ctWr, .string kind, .string clWr, .string (fmtS 10 (body.size : Int))] 38), Nat.le_refl _, by decide, rfl, rfl⟩⟩)
  have HS2 := Box.mk (show w.heap.size ≤ w2.heap.size from Nat.le_trans HB1.out.size hb2.size)
  have HW3 := Box.mk hW3
  clear hb2 hb23 hb13 hW3 HB1 HA1
  go_upto_region 2 with fail
  change Code.wp _ _ _ _ (w2.alloc (.cells #[.string ctWr, .string kind, .string clWr, .string (fmtS 10 (body.size : Int))] 38))
  rw [← HW3.out]
  clear HW3
  go_wp2_with fail
  refine (refReason_any st W3).mono ?_
  rintro e w4 ⟨rfl, hb4⟩
  have HB4 := Box.mk (below_trans HB3.out hb4)
  have HA4 := Box.mk ((hb4.block _ (lt_row HA3.out)).trans HA3.out)
  have HF4 := Box.mk (HF3.out.keep hb4)
  clear hb4 HB3 HA3 HF3
  have HML2 := Box.mk (show (makeX kind body.size).length + more.length ≤ 4398046511104 by have := HML.out; show 2 + _ ≤ _; omega)
  have HS4 := Box.mk (show w2.heap.size ≤ w4.heap.size from Nat.le_of_lt (HF4.out.lt rfl).2)
  have HM4 := Box.mk (HM.out.keep HB4.out)
  go_wp2_with (at_builtin; refine wpList_append_ownfs _ rfl _ _ rfl rfl HF4.out rfl HM4.out HML2.out HS4.out ?c1)
  case c1 =>
  intro v5 w5 ho5 hg5
  obtain ⟨fa, fc, rfl, hf5c, _⟩ := OwnF.shape ho5
  have hf5 := hf5c.1
  have hb5 : Below w.heap.size w w5 := HB4.out.grown hg5 HB4.out.size (fun q e => by have := (HF4.out.lt e).1; have := HS2.out; omega)
  have hA5 : w5.heap[w.heap.size]? = some (.cells #[.int .i64 0, .string ⟨#[]⟩, .int .i64 0, .slice none 0 0, .slice none 0 0] 28 (0, 0)) := (hg5.block _ (lt_row HA4.out) (fun e => ownF_neW HF4.out HA4.out e.symm)).trans HA4.out
  obtain ⟨N, hN⟩ : ∃ N, N = List.length (makeX kind body.size ++ more) := ⟨_, rfl⟩
  rw [← hN]
  have HN := Box.mk hN
  have hcvb := fun W => Lib.run_convert_string_bytes (P := Tryd.prog) W 9 26 5 body Tryd.underlying9 Tryd.underlying26 Tryd.underlying5
  have hb56 : Below w5.heap.size w5 (Lib.bytesWorld w5 5 body) := below_convH _ _ _
  have HB6 := Box.mk (below_trans hb5 hb56)
  have HA6 := Box.mk ((hb56.block _ (lt_row hA5)).trans hA5)
  have HF6 := Box.mk (hf5.keep hb56)
  have HI6 := Box.mk (isBytes_bytesWorld w5 body HBZ.out)
  have HB7 := Box.mk (below_setRow HB6.out (Nat.le_refl _) #[.int .i64 st, .string (reasS st), .int .i64 1, .slice fa N fc, .slice (some ⟨w5.heap.size, 0, none⟩) body.size (grownCap w5 body.size 0 5)])
  clear hb5 hf5 hb56 hN hA5 hg5 ho5 hf5c HB4 HA4 HF4 HML2 HS4 HM4
  go_wp2_with (refine wpList_store_row rfl 28 _ _ rfl w.heap.size #[.int .i64 st, .string (reasS st), .int .i64 1, .slice fa N fc, .slice (some ⟨w5.heap.size, 0, none⟩) body.size (grownCap w5 body.size 0 5)] rfl rfl 28 _ HA6.out sizeA rfl (by simp [Value.oneCell']) ?_)
  (try simp only [Exit.inBlock, Exit.then])
  refine bodyPost_ret (results_r rfl _ _ w.heap.size 28 #[.int .i64 st, .string (reasS st), .int .i64 1, .slice fa N fc, .slice (some ⟨w5.heap.size, 0, none⟩) body.size (grownCap w5 body.size 0 5)] (0, 0) _ rfl (setRow_heap _ _ _ _ _ _ HA6.out) Tryd.underlying28 rfl sizeA) rfl ?_
  refine ⟨fa, fc, some ⟨w5.heap.size, 0, none⟩, grownCap w5 body.size 0 5, by rw [← HN.out]; rfl, ?_, ?_, HB7.out⟩
  · exact HF6.out.same fun y e => setRow_other _ _ _ _ (flds_away HA6.out (noStr_of rfl) (HF6.out.take 1) (by intro f hf; obtain rfl := List.mem_singleton.1 hf; show ¬ ctWr.size = 0; decide) y e (by simp [makeX]))
  · exact isBytes_rowR HA6.out (noU8_22 rfl) HI6.out
set_option maxRecDepth 100000 in
set_option maxHeartbeats 2000000 in
theorem refTextW_any (st : Int) (body : ByteArray) (more : List Fld) (ma : Option Addr) (mc : Nat) (w : World) (hbz : body.size ≤ 4000000000) (hm : FldsC w ma more mc) (hml : more.length ≤ 1000000) :
    Calls Tryd.prog 9 #[.int .i64 st, .string body, .slice ma more.length mc] w (RetMk w st txtWr body more) := by
  obtain ⟨W1, hW1⟩ : ∃ W1, W1 = w.alloc (.cells #[.int .i64 0, .string ⟨#[]⟩, .int .i64 0, .slice none 0 0, .slice none 0 0] 28) := ⟨_, rfl⟩
  have HB1 := Box.mk (show Below w.heap.size w W1 by rw [hW1]; exact below_oneF _ _)
  have HA1 := Box.mk (show W1.heap[w.heap.size]? = some (.cells #[.int .i64 0, .string ⟨#[]⟩, .int .i64 0, .slice none 0 0, .slice none 0 0] 28 (0, 0)) by rw [hW1]; exact heap_alloc_new _ _)
  have HCALL := Box.mk (refMake_any st txtWr body more ma mc W1 hbz (hm.keep HB1.out) hml)
  have HW1 := Box.mk hW1
  clear hm hml hW1 hbz
  go_enter Tryd.func9, Tryd.ntmps9
  go_upto_region 1 with fail
  rw [← HW1.out]
  clear HW1
  go_wp2_with fail
  refine HCALL.out.mono ?_
  rintro e w2 ⟨fa, fc, ba, bc, he, hf2, hi2, hb2⟩
  obtain ⟨cr, hcr⟩ : ∃ cr : Array Value, cr = #[.int .i64 st, .string (reasS st), .int .i64 1, .slice fa (List.length (makeX txtWr body.size ++ more)) fc, .slice ba (List.length body.data.toList) bc] := ⟨_, rfl⟩
  rw [← hcr] at he
  subst he
  have HCR := Box.mk hcr
  have hcr5 : cr.size = 5 := by rw [hcr]; rfl
  have hcr1 : cr.all (·.oneCell') = true := by rw [hcr]; simp [Value.oneCell']
  have HSA := Box.mk (show (Tryd.prog.info? 28).map (·.size) = some cr.size by rw [hcr5]; exact sizeA)
  have HB2 := Box.mk (below_trans HB1.out hb2)
  have HA2 := Box.mk ((hb2.block _ (lt_row HA1.out)).trans HA1.out)
  have HF2 := Box.mk hf2
  have HI2 := Box.mk hi2
  have HB3 := Box.mk (below_setRow HB2.out (Nat.le_refl _) cr)
  clear hf2 hi2 hb2 HCALL HB1 HA1 hcr
  go_wp2_with (refine wpList_store_row rfl 28 _ _ rfl w.heap.size cr rfl rfl 28 _ HA2.out HSA.out hcr5.symm hcr1 ?_)
  (try simp only [Exit.inBlock, Exit.then])
  refine bodyPost_ret (results_r rfl _ _ w.heap.size 28 cr (0, 0) _ rfl (setRow_heap _ _ _ _ _ _ HA2.out) Tryd.underlying28 rfl HSA.out) rfl ?_
  refine ⟨fa, fc, ba, bc, by rw [HCR.out], ?_, ?_, HB3.out⟩
  · exact HF2.out.same fun y e => setRow_other _ _ _ _ (flds_away HA2.out (noStr_of rfl) (HF2.out.take 1) (by intro f hf; obtain rfl := List.mem_singleton.1 hf; decide) y e (by simp [makeX]))
  · exact isBytes_rowR HA2.out (noU8_22 rfl) HI2.out
def cells14 : Array Value := #[.int .i64 200, .int .i64 400, .int .i64 404, .int .i64 405, .int .i64 408, .int .i64 409, .int .i64 413, .int .i64 431, .int .i64 502, .int .i64 503, .int .i64 504, .int .i64 505, .int .i64 500, .int .i64 201]
theorem cells14_at : ∀ k : Fin 14, ∃ st, cells14[k.val]? = some (.int .i64 st) := by
  intro k
  match k with
  | ⟨0, _⟩ => exact ⟨200, rfl⟩
  | ⟨1, _⟩ => exact ⟨400, rfl⟩
  | ⟨2, _⟩ => exact ⟨404, rfl⟩
  | ⟨3, _⟩ => exact ⟨405, rfl⟩
  | ⟨4, _⟩ => exact ⟨408, rfl⟩
  | ⟨5, _⟩ => exact ⟨409, rfl⟩
  | ⟨6, _⟩ => exact ⟨413, rfl⟩
  | ⟨7, _⟩ => exact ⟨431, rfl⟩
  | ⟨8, _⟩ => exact ⟨502, rfl⟩
  | ⟨9, _⟩ => exact ⟨503, rfl⟩
  | ⟨10, _⟩ => exact ⟨504, rfl⟩
  | ⟨11, _⟩ => exact ⟨505, rfl⟩
  | ⟨12, _⟩ => exact ⟨500, rfl⟩
  | ⟨13, _⟩ => exact ⟨201, rfl⟩
set_option maxRecDepth 100000 in
set_option maxHeartbeats 2000000 in
theorem writerMake_any (st0 : Int) (kind body : ByteArray) (more : List Fld) (ma : Option Addr) (mc : Nat) (known : Bool) (w : World) (hbz : body.size ≤ 4000000) (hm : FldsC w ma more mc) (hml : more.length ≤ 1000000) (ht : Tabs w) (hr : ReasT w) :
    Calls Tryd.prog 3 #[.int .i64 st0, .string kind, .string body, .slice ma more.length mc, .bool known] w fun e w' => e = .returned (.bool true) ∧ Below w.heap.size w w' := by
  have HT := Box.mk ht
  have HR := Box.mk hr
  have HM := Box.mk hm
  have HBZ := Box.mk hbz
  have HML := Box.mk hml
  clear hm hml ht hr hbz
  go_enter Tryd.func3, Tryd.ntmps3
  cases known
  case' true =>
    go_wp2_with fail
    obtain ⟨q, hq, hqe⟩ := withI_range st0 14 (by decide) (by decide)
    change Calls _ _ _ (w.alloc (.cells cells14 3)) _
    obtain ⟨W1, hW1⟩ : ∃ W1, W1 = w.alloc (.cells cells14 3) := ⟨_, rfl⟩
    have HB1 := Box.mk (show Below w.heap.size w W1 by rw [hW1]; exact below_oneF _ _)
    have hrow : W1.heap[w.heap.size]? = some (.cells cells14 3 (0, 0)) := by rw [hW1]; exact heap_alloc_new _ _
    rw [← hW1]
    refine (withinF st0 14 W1 (by decide) (by decide)).mono ?_
    rintro e w1 ⟨he, hww⟩
    subst hww
    rw [hqe] at he
    subst he
    obtain ⟨st, hst⟩ := cells14_at ⟨q, hq⟩
    have hcell : w1.cell? ⟨w.heap.size, q, none⟩ = some (.int .i64 st) := by rw [cell_of_row _ _ _ _ _ _ hrow]; exact hst
    clear hqe hW1 hrow hst
    go_upto_region 3 with fail
    clear hcell
  case' false =>
    have HB1 := Box.mk (Below.refl w.heap.size w)
    go_upto_region 3 with fail
    generalize hst : st0 = st
    clear hst
    obtain ⟨w1, hw1⟩ : ∃ w1, w1 = w := ⟨_, rfl⟩
    rw [← hw1]
    have HB1 := Box.mk (show Below w.heap.size w w1 by rw [hw1]; exact HB1.out)
    clear hw1
  all_goals
    obtain ⟨d, hd⟩ : ∃ d, d = body.data.toList := ⟨_, rfl⟩
    obtain ⟨x, hx⟩ : ∃ x, x = makeX kind body.size ++ more := ⟨_, rfl⟩
    obtain ⟨y, hy⟩ : ∃ y, y = makeX txtWr body.size ++ more := ⟨_, rfl⟩
    obtain ⟨rs, hrs⟩ : ∃ rs, rs = reasS st := ⟨_, rfl⟩
    have HL := Box.mk (show x.length ≤ 2000000 ∧ y.length ≤ 2000000 by
      have := HML.out
      rw [hx, hy, List.length_append, List.length_append]
      show 2 + _ ≤ _ ∧ 2 + _ ≤ _
      omega)
    have HDE := Box.mk (And.intro hd (And.intro hx (And.intro hy hrs)))
    clear hd hx hy hrs
    go_wp2_with fail
    refine (projMake_any st kind body more ma mc w1 (by have := HBZ.out; omega) (HM.out.keep HB1.out) HML.out (tabs_below HT.out HB1.out) (HR.out.keep HB1.out)).mono ?_
    rintro e w2 ⟨fa, fc, bA, bc, he, hf2, hi2, hb2⟩
    rw [← HDE.out.1, ← HDE.out.2.1, ← HDE.out.2.2.2] at he
    rw [← HDE.out.2.1] at hf2
    rw [← HDE.out.1] at hi2
    subst he
    have HB2 := Box.mk (below_trans HB1.out hb2)
    have HF2 := Box.mk (And.intro hf2 hi2)
    clear hf2 hi2 hb2
    go_wp2_with fail
    refine (refMake_any st kind body more ma mc w2 (by have := HBZ.out; omega) (HM.out.keep HB2.out) HML.out).mono ?_
    rintro e w3 ⟨fa3, fc3, bA3, bc3, he, hf3, hi3, hb3⟩
    rw [← HDE.out.1, ← HDE.out.2.1, ← HDE.out.2.2.2] at he
    rw [← HDE.out.2.1] at hf3
    rw [← HDE.out.1] at hi3
    subst he
    have HB3 := Box.mk (below_trans HB2.out hb3)
    have HF3 := Box.mk (And.intro (HF2.out.1.keep hb3) (And.intro (HF2.out.2.keep hb3) (And.intro hf3 hi3)))
    clear hf3 hi3 hb3 HF2
    go_wp2_with fail
    refine (sameRep_any st 1 rs x d fa fa3 bA bA3 fc fc3 bc bc3 w3 HF3.out.1 HF3.out.2.2.1 HF3.out.2.1 HF3.out.2.2.2 HL.out.1).mono ?_
    rintro e w4 ⟨rfl, hb4⟩
    have HB4 := Box.mk (below_trans HB3.out hb4)
    clear hb4 HF3
    go_wp2_with fail
    refine (projText_any st body more ma mc w4 (by have := HBZ.out; omega) (HM.out.keep HB4.out) HML.out (tabs_below HT.out HB4.out) (HR.out.keep HB4.out)).mono ?_
    rintro e w5 ⟨fa5, fc5, bA5, bc5, he, hf5, hi5, hb5⟩
    rw [← HDE.out.1, ← HDE.out.2.2.1, ← HDE.out.2.2.2] at he
    rw [← HDE.out.2.2.1] at hf5
    rw [← HDE.out.1] at hi5
    subst he
    have HB5 := Box.mk (below_trans HB4.out hb5)
    have HF5 := Box.mk (And.intro hf5 hi5)
    clear hf5 hi5 hb5
    go_wp2_with fail
    refine (refTextW_any st body more ma mc w5 (by have := HBZ.out; omega) (HM.out.keep HB5.out) HML.out).mono ?_
    rintro e w6 ⟨fa6, fc6, bA6, bc6, he, hf6, hi6, hb6⟩
    rw [← HDE.out.1, ← HDE.out.2.2.1, ← HDE.out.2.2.2] at he
    rw [← HDE.out.2.2.1] at hf6
    rw [← HDE.out.1] at hi6
    subst he
    have HB6 := Box.mk (below_trans HB5.out hb6)
    have HF6 := Box.mk (And.intro (HF5.out.1.keep hb6) (And.intro (HF5.out.2.keep hb6) (And.intro hf6 hi6)))
    clear hf6 hi6 hb6 HF5
    go_wp2_with fail
    refine (sameRep_any st 1 rs y d fa5 fa6 bA5 bA6 fc5 fc6 bc5 bc6 w6 HF6.out.1 HF6.out.2.2.1 HF6.out.2.1 HF6.out.2.2.2 HL.out.2).mono ?_
    rintro e w7 ⟨rfl, hb7⟩
    have HB7 := Box.mk (below_trans HB6.out hb7)
    clear hb7 HF6
    go_wp2_with fail
    refine (projReason_any st w7 (HR.out.keep HB7.out)).mono ?_
    rintro e w8 ⟨he, hb8⟩
    rw [← HDE.out.2.2.2] at he
    subst he
    have HB8 := Box.mk (below_trans HB7.out hb8)
    clear hb8
    go_wp2_with fail
    refine (refReason_any st w8).mono ?_
    rintro e w9 ⟨he, hb9⟩
    rw [← HDE.out.2.2.2] at he
    subst he
    have HB9 := Box.mk (below_trans HB8.out hb9)
    have ee : ∀ y : List UInt8, (y == y) = true := fun y => by simp
    clear hb9
    go_wp2_with fail
    refine (awakeW_any _ (tabs_below HT.out HB9.out) (HR.out.keep HB9.out)).mono ?_
    rintro e wz ⟨rfl, hbz⟩
    go_wp2_with fail
    go_ret
    exact ⟨rfl, below_trans HB9.out hbz⟩
end Go.Proofs.YteoadfckcilalaaDoor
