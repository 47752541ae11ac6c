/- The project's reader: startRequest. The fields that the laws on framing make. awake of the laws on framing. The law FramingReply. What the law FramingAlone wants: a made frame beside fields that no rule names; single operations of a region that draws its order. The project's reader: startReply. The project's reader: readHead. The project's reader: readHead, whatever the head. Package chunked: leave, isExtension, startChunk, finishLine, readLine. -/
import Derived.Test.YteoadfckcilalaaGreatDoorPk1
import Derived.Test.YteoadfckcilalaaGreatDoorPk2
import Derived.Test.YteoadfckcilalaaGreatDoorPk3
import Derived.Test.YteoadfckcilalaaGreatDoorPk4
import Derived.Test.YteoadfckcilalaaGreatDoorPk5
import Derived.Test.YteoadfckcilalaaGreatDoorPk6
import Derived.Test.YteoadfckcilalaaGreatDoorPk7
import Derived.Test.YteoadfckcilalaaGreatDoorPk8
import Derived.Test.YteoadfckcilalaaGreatDoorRows
import Derived.WalkKit
import Derived.WalkSpells
import Derived.WalkLawsBesides
import Derived.BigQuiet
import Derived.Deep.QuietTactic
import Derived.Lib.Bytealg
import Derived.Lib.IndexLaws
import Derived.Lib.Hide
import Derived.Laws.IdiomStrings
import Derived.Lib.SlTrimSet
import Derived.Lib.IndexBytes
import Derived.Lib.Split
import Derived.Deep.AppendLies
import Derived.Shelf.Strings.SlTrimAscii
import Derived.Shelf.Strings.SplitShaped
import Derived.Shelf.LaysM
import Derived.Shelf.Strings.BuilderK
import Derived.Shelf.Strconv.Itoa4
import Derived.Shelf.Strings.Prefix
import Derived.Shelf.Bytes.SlIndexWhole
import Derived.Test.YteoadfckcilalaaGreatDoorProg
import Derived.Lib.SplitLaws
import Derived.WalkSmall
import Derived.ProofKit
import Derived.OpenShut
import Derived.Lib.Strings
import Derived.SliceStrings
import Derived.Deep.Quiet
import Derived.Tactics
import Derived.KernelRfl
import Derived.Below
import Derived.Laws.Bits64
import Derived.Lib.SlBytesConst
import Derived.Maps.AppendAt
import Derived.Laws.AppendOwnNone
import Derived.Great.BuildSlice
import Derived.Laws.Rows
import Derived.Laws.BitsAllLaws
import Derived.Laws.Shifts
import Derived.Maps.OwnOps
import Derived.Maps.OwnSet
import Derived.Deep.SlicePairs
import Derived.Lib.AppendZerosOnto
import Derived.Lib.AppendStr
import Derived.Laws.CopyOwn
import Derived.OwnWalk
import Derived.Laws.Strings3
import Derived.Laws.Concat
import Derived.Lib.ItoaMem
import Derived.Deep.RegionHeld3
import Derived.IntWalk
import Derived.Laws.RangeAny
import Derived.LoopTactic
import Derived.Sort.Grow
import Derived.Lib.ConvBytes
import Derived.Deep.DeepCutAuto
import Derived.Deep.MidRow
import Derived.Laws.Tables
import Derived.Deep.WholeRow
import Derived.StillTailTactics
import Derived.Deep.CutBlock
import Derived.Lib.LaidTab
import Derived.LaidSub
import Derived.Laws.Bits64b
import Derived.Lib.FrozenHead2
import Derived.Deep.Matrix
import Derived.Lib.LazyBuf
import Derived.ArgAppend
namespace Go.Proofs.YteoadfckcilalaaGreatDoor
open Go.RowKit

set_option linter.unusedVariables false
theorem checkFrameR_any (k l er body r : Int) (w : World) (hr : (if er = 3 ∨ k = 2 ∧ body < l then 9 else er) = r) :
    Calls Tryz.prog 112 #[.agg #[.int .i64 k, .int .i64 l], .int .i64 er, .int .i64 body] w fun e w' => e = .returned (.int .i64 r) ∧ Below w.heap.size w w' := by rw [← hr]; exact checkFrame_any k l er body w
set_option maxRecDepth 100000 in
set_option maxHeartbeats 4000000 in
theorem startReq_err (s : RS) (h : List UInt8) (body : Int) (ba : Option Addr) (bc : Nat) (fa ga la : Option Addr) (fc gc lc : Nat) (g : Nat) (mm : Int) (w : World) (hb : IsBytes w ba h bc) (hl : h.length ≤ 1000000) (hm : MVr w g #[.bool s.rep, .string s.meth, .int .i64 s.ph, .string s.m, .string s.t, .int .i64 s.z, .slice fa (List.length s.xs) fc, .bool s.fr, .slice none 0 0, .int .i64 s.st, .string s.rs, .int .i64 s.z2, .slice ga (List.length s.ys) gc, .slice none 0 0, .int .i64 s.fk, .int .i64 s.fl, .int .i64 s.left, .int .i64 s.size, .int .i64 s.ck.ph, .int .i64 s.ck.left, .int .i64 s.ck.tr, .slice la (List.length s.ck.line) lc]) (hok : HdOk w mm) (er : Int) (m t : ByteArray) (z : Int) (xs : List Fld) (hA : headR h = (er, m, t, z, xs)) (h0 : ¬ er = 0) :
    Calls Tryz.prog 81 #[.pointer (some ⟨g, 0, none⟩), .slice ba h.length bc, .int .i64 body] w fun e w' => e = .returned (.tuple #[.int .i64 0, .int .i64 er]) ∧ Below w.heap.size w w' := by
  have HCALL := Box.mk (projHeadReqF_any h ba bc mm w hb (by omega) hok)
  rw [hA] at HCALL
  clear hb hm hok hA
  go_enter Tryz.func81, Tryz.ntmps81
  go_wp2_with fail
  refine HCALL.out.mono ?_
  rintro e w1 ⟨f2, c2, he, hf2, hfr2, hb1⟩
  dsimp only at he
  subst he
  have HB1 := Box.mk hb1
  have HN := Box.mk (show (w1.alloc (.cells #[.string ⟨#[]⟩, .string ⟨#[]⟩, .int .i64 0, .slice none 0 0, .bool false, .slice none 0 0] 29)).heap[w1.heap.size]? = some (.cells #[.string ⟨#[]⟩, .string ⟨#[]⟩, .int .i64 0, .slice none 0 0, .bool false, .slice none 0 0] 29 (0, 0)) from heap_alloc_new w1 (.cells #[.string ⟨#[]⟩, .string ⟨#[]⟩, .int .i64 0, .slice none 0 0, .bool false, .slice none 0 0] 29))
  have hw1 := hb1.size
  have e0 : (er != 0) = true := by rw [bne_iff_ne]; exact h0
  clear HCALL hf2 hfr2 hb1 h0
  go_wp2_with (refine wpList_store_row rfl 29 _ _ rfl w1.heap.size #[.string m, .string t, .int .i64 z, .slice f2 (List.length xs) c2, .bool false, .slice none 0 0] rfl rfl 29 _ HN.out sizeR rfl (oneQH ..) ?_)
  (try simp only [Exit.inBlock, Exit.then])
  refine bodyPost_ret (results_tmp2 rfl _ _ _) rfl ?_
  exact ⟨rfl, below_setRow (below_twoF HB1.out (.cells #[.string ⟨#[]⟩, .string ⟨#[]⟩, .int .i64 0, .slice none 0 0, .bool false, .slice none 0 0] 29)) hw1 _⟩
set_option maxRecDepth 100000 in
set_option maxHeartbeats 4000000 in
theorem startReq_ok (s : RS) (h : List UInt8) (body : Int) (ba : Option Addr) (bc : Nat) (fa ga la : Option Addr) (fc gc lc : Nat) (g : Nat) (mm : Int) (w : World) (hb : IsBytes w ba h bc) (hl : h.length ≤ 1000000) (hm : MVr w g #[.bool s.rep, .string s.meth, .int .i64 s.ph, .string s.m, .string s.t, .int .i64 s.z, .slice fa (List.length s.xs) fc, .bool s.fr, .slice none 0 0, .int .i64 s.st, .string s.rs, .int .i64 s.z2, .slice ga (List.length s.ys) gc, .slice none 0 0, .int .i64 s.fk, .int .i64 s.fl, .int .i64 s.left, .int .i64 s.size, .int .i64 s.ck.ph, .int .i64 s.ck.left, .int .i64 s.ck.tr, .slice la (List.length s.ck.line) lc]) (hok : HdOk w mm) (m t : ByteArray) (z : Int) (xs : List Fld) (hA : headR h = (0, m, t, z, xs)) (hys : SmallF xs ∧ xs.length ≤ 64) (k l ef : Int) (hF : frameS z xs 1 = (k, l, ef)) (er : Int) (her : (if ef = 3 ∨ k = 2 ∧ body < l then 9 else ef) = er) :
    Calls Tryz.prog 81 #[.pointer (some ⟨g, 0, none⟩), .slice ba h.length bc, .int .i64 body] w fun e w' => ∃ f2 c2, e = .returned (.tuple #[.int .i64 1, .int .i64 er]) ∧ (∀ fr, fr = !decide (k = 1) → MVr w' g #[.bool s.rep, .string s.meth, .int .i64 1, .string m, .string t, .int .i64 z, .slice f2 (List.length xs) c2, .bool fr, .slice none 0 0, .int .i64 s.st, .string s.rs, .int .i64 s.z2, .slice ga (List.length s.ys) gc, .slice none 0 0, .int .i64 k, .int .i64 l, .int .i64 l, .int .i64 0, .int .i64 0, .int .i64 0, .int .i64 0, .slice none (List.length ([] : List UInt8)) 0]) ∧ FldsIn w' f2 xs ∧ (∀ y, f2 = some y → xs ≠ [] → w.heap.size ≤ y.block) ∧ w.grownBy w' (some g) := by
  obtain ⟨cs, hcs⟩ : ∃ cs : Array Value, cs = #[.bool s.rep, .string s.meth, .int .i64 s.ph, .string s.m, .string s.t, .int .i64 s.z, .slice fa (List.length s.xs) fc, .bool s.fr, .slice none 0 0, .int .i64 s.st, .string s.rs, .int .i64 s.z2, .slice ga (List.length s.ys) gc, .slice none 0 0, .int .i64 s.fk, .int .i64 s.fl, .int .i64 s.left, .int .i64 s.size, .int .i64 s.ck.ph, .int .i64 s.ck.left, .int .i64 s.ck.tr, .slice la (List.length s.ck.line) lc] := ⟨_, rfl⟩
  have HCS := Box.mk hcs
  rw [← hcs] at hm
  have hcs22 : cs.size = 22 := by rw [hcs]; rfl
  have hlt := hm.lt
  have HM0 := Box.mk hm
  clear hcs hm
  have HCALL := Box.mk (projHeadReqF_any h ba bc mm w hb (by omega) hok)
  rw [hA] at HCALL
  have HOK := Box.mk hok
  have HFE := Box.mk hF
  have HYS := Box.mk hys
  have hx64 : xs.length ≤ 1000000 := by omega
  obtain ⟨fr, hfr⟩ : ∃ fr : Bool, fr = !decide (k = 1) := ⟨_, rfl⟩
  have HFR0 := Box.mk hfr
  have ekf : (k != 1) = fr := by
    rw [hfr]
    by_cases hk : k = 1
    · rw [hk]; rfl
    · rw [decide_eq_false hk]; exact bne_iff_ne.2 hk
  have HCF := Box.mk (fun W => checkFrameR_any k l ef body er W her)
  clear hb hok hA hfr hF hys her
  go_enter Tryz.func81, Tryz.ntmps81
  go_wp2_with fail
  refine HCALL.out.mono ?_
  rintro e w1 ⟨f2, c2, he, hf2, hfr2, hb1⟩
  dsimp only at he hf2
  subst he
  have HN := Box.mk (show (w1.alloc (.cells #[.string ⟨#[]⟩, .string ⟨#[]⟩, .int .i64 0, .slice none 0 0, .bool false, .slice none 0 0] 29)).heap[w1.heap.size]? = some (.cells #[.string ⟨#[]⟩, .string ⟨#[]⟩, .int .i64 0, .slice none 0 0, .bool false, .slice none 0 0] 29 (0, 0)) from heap_alloc_new w1 (.cells #[.string ⟨#[]⟩, .string ⟨#[]⟩, .int .i64 0, .slice none 0 0, .bool false, .slice none 0 0] 29))
  have hw1 := hb1.size
  have HM1 := Box.mk (HM0.out.keep hb1)
  have HF1 := Box.mk hf2
  have HFR := Box.mk hfr2
  have HOK1 := Box.mk (HOK.out.keep hb1)
  have HG1 := Box.mk (grownBy_of hb1 (some g))
  clear HCALL hf2 hfr2 hb1 HM0 HOK
  go_upto_region 2 with (refine wpList_store_row rfl 29 _ _ rfl w1.heap.size #[.string m, .string t, .int .i64 z, .slice f2 (List.length xs) c2, .bool false, .slice none 0 0] rfl rfl 29 _ HN.out sizeR rfl (oneQH ..) ?_)
  obtain ⟨W2, hW2⟩ : ∃ W2, W2 = (w1.alloc (.cells #[.string ⟨#[]⟩, .string ⟨#[]⟩, .int .i64 0, .slice none 0 0, .bool false, .slice none 0 0] 29)).setRow w1.heap.size #[.string m, .string t, .int .i64 z, .slice f2 (List.length xs) c2, .bool false, .slice none 0 0] := ⟨_, rfl⟩
  have HQ2 := Box.mk (show W2.heap[w1.heap.size]? = some (.cells #[.string m, .string t, .int .i64 z, .slice f2 (List.length xs) c2, .bool false, .slice none 0 0] 29 (0, 0)) by rw [hW2]; exact setRow_heap _ _ _ _ _ _ HN.out)
  have HB2 := Box.mk (show Below w1.heap.size w1 W2 by rw [hW2]; exact below_setRow (below_oneF _ _) (Nat.le_refl _) _)
  have HM2 := Box.mk (HM1.out.keep HB2.out)
  have HF2 := Box.mk (HF1.out.keep HB2.out)
  have HOK2 := Box.mk (HOK1.out.keep HB2.out)
  have HG2 := Box.mk (grownBy_trans HG1.out (grownBy_of HB2.out (some g)))
  have HFO := Box.mk (show ∀ y, f2 = some y → xs ≠ [] → y.block ≠ w1.heap.size ∧ w.heap.size ≤ y.block from fun y e hx => ⟨by have := HF1.out.old e hx; omega, HFR.out y e⟩)
  rw [← hW2]
  clear hW2 HM1 HF1 HOK1 HG1 HB2 HN HFR
  go_wp2_with (refine wpList_load_row rfl 29 _ rfl w1.heap.size rfl 29 #[.string m, .string t, .int .i64 z, .slice f2 (List.length xs) c2, .bool false, .slice none 0 0] (0, 0) _ HQ2.out Tryz.underlying29 rfl sizeR ?_)
  refine (projOfReq_any m t z xs f2 c2 false none 0 0 mm W2 HF2.out (smallF_short HYS.out.1) hx64 (total_sm HYS.out.1 HYS.out.2 teN) HOK2.out).mono ?_
  rintro e w3 ⟨he, hb3⟩
  rw [HFE.out] at he
  unfold frameV at he
  dsimp only at he
  subst he
  have HNK := Box.mk (show (w3.alloc (.cells #[.int .i64 0, .int .i64 0] 33)).heap[w3.heap.size]? = some (.cells #[.int .i64 0, .int .i64 0] 33 (0, 0)) from heap_alloc_new w3 (.cells #[.int .i64 0, .int .i64 0] 33))
  have hw3 := hb3.size
  have hw2 : w1.heap.size < W2.heap.size := (Array.getElem?_eq_some_iff.1 HQ2.out).1
  have HQ3 := Box.mk (show w3.heap[w1.heap.size]? = some (.cells #[.string m, .string t, .int .i64 z, .slice f2 (List.length xs) c2, .bool false, .slice none 0 0] 29 (0, 0)) by rw [hb3.block _ hw2]; exact HQ2.out)
  have HM3 := Box.mk (HM2.out.keep hb3)
  have HF3 := Box.mk (HF2.out.keep hb3)
  have HG3 := Box.mk (grownBy_trans HG2.out (grownBy_of hb3 (some g)))
  clear HQ2 HM2 HF2 HOK2 HG2 hb3
  go_upto_region 5 with (refine wpList_store_row rfl 33 _ _ rfl w3.heap.size #[.int .i64 k, .int .i64 l] rfl rfl 33 _ HNK.out sizeK rfl (oneK ..) ?_)
  obtain ⟨W4, hW4⟩ : ∃ W4, W4 = (w3.alloc (.cells #[.int .i64 0, .int .i64 0] 33)).setRow w3.heap.size #[.int .i64 k, .int .i64 l] := ⟨_, rfl⟩
  have HK4 := Box.mk (show KVar W4 w3.heap.size k l by rw [hW4]; exact setRow_heap _ _ _ _ _ _ HNK.out)
  have HB4 := Box.mk (show Below w3.heap.size w3 W4 by rw [hW4]; exact below_setRow (below_oneF _ _) (Nat.le_refl _) _)
  have HQ4 := Box.mk (show W4.heap[w1.heap.size]? = some (.cells #[.string m, .string t, .int .i64 z, .slice f2 (List.length xs) c2, .bool false, .slice none 0 0] 29 (0, 0)) by rw [HB4.out.block _ (by omega)]; exact HQ3.out)
  have HM4 := Box.mk (HM3.out.keep HB4.out)
  have HF4 := Box.mk (HF3.out.keep HB4.out)
  have HG4 := Box.mk (grownBy_trans HG3.out (grownBy_of HB4.out (some g)))
  have hk0 : W4.cell? ⟨w3.heap.size, 0, none⟩ = some (.int .i64 k) := by rw [cell_of_row _ _ _ _ _ _ HK4.out]; rfl
  have hq4 : W4.cell? ⟨w1.heap.size, 4, none⟩ = some (.bool false) := by rw [cell_of_row _ _ _ _ _ _ HQ4.out]; rfl
  have hzq : W4.frozen? ⟨w1.heap.size, 4, none⟩ = false := frozen_of_row W4 _ 4 _ _ HQ4.out
  rw [← hW4]
  clear hW4 HQ3 HM3 HF3 HG3 HB4 HNK
  go_upto_region 6 with fail
  obtain ⟨W5, hW5⟩ : ∃ W5, W5 = W4.setCell ⟨w1.heap.size, 4, none⟩ (.bool fr) := ⟨_, rfl⟩
  have hoth5 : ∀ q, q ≠ w1.heap.size → W5.heap[q]? = W4.heap[q]? := fun q hq => by rw [hW5]; exact heap_setCell_other _ _ _ _ (by show q ≠ w1.heap.size; exact hq)
  have HQ5 := Box.mk (show W5.heap[w1.heap.size]? = some (.cells #[.string m, .string t, .int .i64 z, .slice f2 (List.length xs) c2, .bool fr, .slice none 0 0] 29 (0, 0)) by rw [hW5]; exact heap_setCell_same _ _ 4 _ _ _ HQ4.out)
  have HK5 := Box.mk (show KVar W5 w3.heap.size k l from (hoth5 _ (by omega)).trans HK4.out)
  have HM5 := Box.mk (show MVr W5 g cs from (hoth5 _ (by omega)).trans HM4.out)
  have HF5 := Box.mk (sameNe HF4.out fun y e hx => hoth5 _ (HFO.out y e hx).1)
  have HG5 := Box.mk (show w.grownBy W5 (some g) by rw [hW5]; exact grownBy_new HG4.out (grownBy_setC _ _ _ _) (fun i e => by injection e with e; omega))
  have oneq1 : (#[.string m, .string t, .int .i64 z, .slice f2 (List.length xs) c2, .bool fr, .slice none 0 0] : Array Value).all (·.oneCell') = true := by simp [Value.oneCell']
  obtain ⟨c1, hc1⟩ : ∃ y0 : Array Value, y0 = #[.bool s.rep, .string s.meth, .int .i64 s.ph, .string m, .string t, .int .i64 z, .slice f2 (List.length xs) c2, .bool fr, .slice none 0 0, .int .i64 s.st, .string s.rs, .int .i64 s.z2, .slice ga (List.length s.ys) gc, .slice none 0 0, .int .i64 s.fk, .int .i64 s.fl, .int .i64 s.left, .int .i64 s.size, .int .i64 s.ck.ph, .int .i64 s.ck.left, .int .i64 s.ck.tr, .slice la (List.length s.ck.line) lc] := ⟨_, rfl⟩
  have HC1 := Box.mk hc1
  rw [← hW5]
  clear hW5 hoth5 HQ4 HK4 HM4 HF4 HG4 hk0 hq4 hzq hc1
  go_upto_region 7 with (first | refine wpList_load_row rfl 29 _ rfl w1.heap.size rfl 29 #[.string m, .string t, .int .i64 z, .slice f2 (List.length xs) c2, .bool fr, .slice none 0 0] (0, 0) _ HQ5.out Tryz.underlying29 rfl sizeR ?_ | refine wpList_store_sub rfl 29 _ _ rfl g 3 #[.string m, .string t, .int .i64 z, .slice f2 (List.length xs) c2, .bool fr, .slice none 0 0] rfl rfl 73 _ c1 HM5.out sizeR (by rw [hcs22]; show 3 + 6 ≤ 22; decide) oneq1 (by rw [HCS.out, HC1.out]; rfl) ?_)
  obtain ⟨W6, hW6⟩ : ∃ W6, W6 = W5.setRow g c1 := ⟨_, rfl⟩
  have HM6 := Box.mk (show MVr W6 g #[.bool s.rep, .string s.meth, .int .i64 s.ph, .string m, .string t, .int .i64 z, .slice f2 (List.length xs) c2, .bool fr, .slice none 0 0, .int .i64 s.st, .string s.rs, .int .i64 s.z2, .slice ga (List.length s.ys) gc, .slice none 0 0, .int .i64 s.fk, .int .i64 s.fl, .int .i64 s.left, .int .i64 s.size, .int .i64 s.ck.ph, .int .i64 s.ck.left, .int .i64 s.ck.tr, .slice la (List.length s.ck.line) lc] by rw [hW6, ← HC1.out]; exact setRow_heap _ _ _ _ _ _ HM5.out)
  have HK6 := Box.mk (show KVar W6 w3.heap.size k l by rw [hW6]; exact (setRow_other _ _ _ _ (by omega)).trans HK5.out)
  have HF6 := Box.mk (show FldsIn W6 f2 xs by rw [hW6]; exact sameNe HF5.out fun y e hx => setRow_other _ _ _ _ (by have := (HFO.out y e hx).2; omega))
  have HG6 := Box.mk (show w.grownBy W6 (some g) by rw [hW6]; exact grownBy_trans HG5.out (grownBy_setRowM _ _ _))
  have HCB := Box.mk (mBody_any g (.bool s.rep) (.string s.meth) (.string m) (.string t) (.int .i64 z) (.slice f2 (List.length xs) c2) (.bool fr) (.slice none 0 0) (.int .i64 s.st) (.string s.rs) (.int .i64 s.z2) (.slice ga (List.length s.ys) gc) (.slice none 0 0) (s.ph) (s.fk) (s.fl) (s.left) (s.size) (s.ck.ph) (s.ck.left) (s.ck.tr) k l la (List.length s.ck.line) lc W6 (HM6.out))
  rw [← hW6]
  clear hW6 HQ5 HM5 HK5 HF5 HG5 HC1 HCS hcs22 HM6 oneq1
  go_wp2_with (refine wpList_load_row rfl 33 _ rfl w3.heap.size rfl 33 #[.int .i64 k, .int .i64 l] (0, 0) _ HK6.out Tryz.underlying33 rfl sizeK ?_)
  refine HCB.out.mono ?_
  rintro e w7 ⟨rfl, hm7, hg7⟩
  have HM7 := Box.mk hm7
  have HK7 := Box.mk (show KVar w7 w3.heap.size k l from (hg7.block _ (Array.getElem?_eq_some_iff.1 HK6.out).1 (fun e => by injection e with e; omega)).trans HK6.out)
  have HF7 := Box.mk (HF6.out.grownR hg7 fun y e hx => by have := (HFO.out y e hx).2; omega)
  have HG7 := Box.mk (grownBy_trans HG6.out hg7)
  clear hm7 hg7 HK6 HF6 HG6 HCB
  go_wp2_with (refine wpList_load_row rfl 33 _ rfl w3.heap.size rfl 33 #[.int .i64 k, .int .i64 l] (0, 0) _ HK7.out Tryz.underlying33 rfl sizeK ?_)
  refine (HCF.out w7).mono ?_
  rintro e w8 ⟨rfl, hb8⟩
  have HM8 := Box.mk (HM7.out.keep hb8)
  have HF8 := Box.mk (HF7.out.keep hb8)
  have HG8 := Box.mk (grownBy_trans HG7.out (grownBy_of hb8 (some g)))
  clear hb8 HM7 HK7 HF7 HG7
  go_wp2_with fail
  (try simp only [Exit.inBlock, Exit.then])
  refine bodyPost_ret (results_tmp2 rfl _ _ _) rfl ?_
  exact ⟨f2, c2, rfl, fun fr2 hfr2 => by rw [hfr2, ← HFR0.out]; exact HM8.out, HF8.out, fun y e hx => (HFO.out y e hx).2, HG8.out⟩
end Go.Proofs.YteoadfckcilalaaGreatDoor
namespace Go.Proofs.YteoadfckcilalaaGreatDoor
open Go.RowKit

def TinyF (f : Fld) : Prop := f.1.size ≤ 1000 ∧ f.2.size ≤ 1000
theorem MadeF.tiny {f : Fld} (h : MadeF f) : TinyF f := h.2
end Go.Proofs.YteoadfckcilalaaGreatDoor
namespace Go.Proofs.YteoadfckcilalaaGreatDoor
open Go.RowKit

theorem OwnF.one (w : World) (f : Fld) : OwnF w.heap.size (w.alloc (.cells #[.string f.1, .string f.2] 88)) (.slice (some ⟨w.heap.size, 0, none⟩) 1 1) [f] :=
  ⟨rfl, .inr ⟨_, 1, _, rfl, Nat.le_refl _, heap_alloc_new _ _, Nat.le_refl _, by decide, rfl, rfl⟩⟩
theorem OwnF.in {B : Nat} {w : World} {a : Option Addr} {l : List Fld} {n c : Nat} (h : OwnF B w (.slice a n c) l) : FldsIn w a l := by
  obtain ⟨a', c', e, h1, _⟩ := h.shape
  injection e with e1
  subst e1
  exact h1.1
end Go.Proofs.YteoadfckcilalaaGreatDoor
namespace Go.Proofs.YteoadfckcilalaaGreatDoor
open Go.RowKit

section
variable {Q : Exit → Act → World → Prop} {act : Act} {w : World} {o : Oper} {s : Spec}
end
def TinyS (B : Nat) (w : World) (v : Value) : Prop := ∃ l a c, v = .slice a (List.length l) c ∧ FldsIn w a l ∧ (∀ f ∈ l, TinyF f) ∧ ∀ x, a = some x → B ≤ x.block
def Spec.tiny (B : Nat) : Spec := ⟨fun v w => TinyS B w v, fun _ _ _ h hb => by
  obtain ⟨l, a, c, h1, h2, h3⟩ := h
  exact ⟨l, a, c, h1, h2.keep hb, h3⟩⟩
theorem FldsIn.grown {w w' : World} {a : Option Addr} {l : List Fld} {row : Option Nat} (h : FldsIn w a l) (hg : w.grownBy w' row) (hne : ∀ x, a = some x → some x.block ≠ row) : FldsIn w' a l := fun j hj => by
  obtain ⟨x, e, h1, h2⟩ := h j hj
  refine ⟨x, e, ?_, ?_⟩
  · rw [World.cell?_of_block (hg.block _ (lt_cell h1) (by rw [add_blockF]; exact hne x e))]; exact h1
  · rw [World.cell?_of_block (hg.block _ (lt_cell h2) (by rw [add_blockF]; exact hne x e))]; exact h2
section
variable (b : Option Addr) (nb cb : Nat) (lr : List Fld) (ar : Option Addr) (cr : Nat) (method : ByteArray) (status minor : Int) (wild : Bool) (mm : Int) (w : World)
end
end Go.Proofs.YteoadfckcilalaaGreatDoor
namespace Go.Proofs.YteoadfckcilalaaGreatDoor
open Go.RowKit

def KRow (B : Nat) (k n : Int) (w : World) (v : Value) : Prop := ∃ g, v = .pointer (some ⟨g, 0, none⟩) ∧ B ≤ g ∧ KVar w g k n
def Spec.krow (B : Nat) (k n : Int) : Spec := ⟨fun v w => KRow B k n w v, fun v w w' h hb => by
  obtain ⟨g, h1, h2, h3⟩ := h
  exact ⟨g, h1, h2, h3.keep hb⟩⟩
theorem KRow.grown {B : Nat} {k n : Int} {w w' : World} {v u : Value} {C : Nat} {l : List Fld} (h : KRow B k n w v) (hg : w.grownBy w' u.ownBlock) (hu : OwnF C w u l) : KRow B k n w' v := by
  obtain ⟨g, h1, h2, h3⟩ := h
  refine ⟨g, h1, h2, ?_⟩
  unfold KVar at *
  rw [hg.block g (Array.getElem?_eq_some_iff.1 h3).1 (fun e => ?_)]
  · exact h3
  · rcases hu.2 with ⟨rfl, _⟩ | ⟨g', cap, cur, rfl, _, hc, _⟩
    · cases e
    · injection e with e
      rw [e] at h3
      have h4 : (some (Obj.cells cur 88 (0, 0)) : Option Obj) = some (.cells #[.int .i64 k, .int .i64 n] 33 (0, 0)) := hc.symm.trans h3
      injection h4 with h4
      injection h4 with _ h5
      exact absurd h5 (by decide)
/-- An own slice of fields. -/
def Spec.ownF (B : Nat) (l : List Fld) : Spec := ⟨fun v w => OwnF B w v l, fun _ _ _ h hb => h.keep hb⟩
def Spec.own0F (B : Nat) : Spec := ⟨fun v w => (∃ g, v = .slice (some ⟨g, 0, none⟩) 0 0) ∧ OwnF B w v [], fun _ _ _ h hb => ⟨h.1, h.2.keep hb⟩⟩
def Spec.oneF (f : Fld) : Spec := ⟨fun v w => ∃ b, v = .slice (some ⟨b, 0, none⟩) 1 1 ∧ FldsC w (some ⟨b, 0, none⟩) [f] 1, fun _ _ _ h hb => by
  obtain ⟨b, h1, h2⟩ := h
  exact ⟨b, h1, h2.keep hb⟩⟩
section
variable {Q : Exit → Act → World → Prop} {act : Act} {w : World} {o : Oper} {s : Spec} {K : Act → World → Prop}
theorem loc_allocK (ho : o.op = .alloc 33) {B : Nat} (hB : B ≤ w.heap.size) (hs : ∀ v w', KRow B 0 0 w' v → s.p v w') :
    o.wp Tryz.prog act w (fun a' w' => ∃ v, a' = act.put o.dst v ∧ Below w.heap.size w w' ∧ s.p v w') Q := by
  have hz : (Tryz.prog.info? 33).bind (·.zero) = some (.agg #[.int .i64 0, .int .i64 0]) := by kernel_rfl
  refine loc_run (v := .pointer (some ⟨w.heap.size, 0, none⟩)) (w' := w.alloc (.cells #[.int .i64 0, .int .i64 0] 33)) ?_ (below_oneF _ _) (hs _ _ ⟨_, rfl, hB, heap_alloc_new _ _⟩)
  cases hq : Tryz.prog.info? 33 with
  | none => rw [hq] at hz; cases hz
  | some i =>
    rw [hq] at hz
    simp only [Option.bind_some] at hz
    unfold execOp
    simp [ho, Instr.alloc, zeroValue, typeInfo, hq, hz, newRow, newVar, Value.cells]
theorem loc_sliceOneF {x : Operand} (ho : o.op = .buildSlice 27 1 #[(0, x)]) {f : Fld} (hx : act.eval x = .agg #[.string f.1, .string f.2]) (hs : ∀ w', w'.cell? ⟨w.heap.size, 0, none⟩ = some (.string f.1) → w'.cell? ⟨w.heap.size, 1, none⟩ = some (.string f.2) → s.p (.slice (some ⟨w.heap.size, 0, none⟩) 1 1) w') :
    o.wp Tryz.prog act w (fun a' w' => ∃ v, a' = act.put o.dst v ∧ Below w.heap.size w w' ∧ s.p v w') Q := by
  obtain ⟨i0, hi, hz0, hz1, hz2⟩ := info_parts Tryz.info88
  have hrun := run_buildSlice (P := Tryz.prog) w 27 88 1 #[(0, .agg #[.string f.1, .string f.2])] #[.string f.1, .string f.2] i0 _ Tryz.underlying27 hi hz0 (by rw [hz1]; decide) (by rw [hz1]; decide) (by rw [hz1]; simp [Instr.fill, Value.cells, Array.range_succ, show Array.range 0 = #[] from rfl])
  refine loc_run (v := .slice (some ⟨w.heap.size, 0, none⟩) 1 1) (w' := w.alloc (.cells #[.string f.1, .string f.2] 88)) ?_ (below_oneF _ _) (hs _ (by rw [new_cellF]; rfl) (by rw [new_cellF]; rfl))
  unfold execOp
  simp only [ho, List.map_toArray, List.map_cons, List.map_nil, hx]
  rw [Sem.run_bind, hrun]; rfl
theorem loc_extractK0 {x : Operand} (ho : o.op = .extract x 0) {u v : Value} (hx : act.eval x = .tuple #[u, v]) (hs : s.p u w) :
    o.wp Tryz.prog act w (fun a' w' => ∃ v, a' = act.put o.dst v ∧ Below w.heap.size w w' ∧ s.p v w') Q :=
  loc_run (v := u) (by unfold execOp; simp [ho, hx, Instr.extract]) (Below.refl _ _) hs
theorem loc_extractK1 {x : Operand} (ho : o.op = .extract x 1) {u v : Value} (hx : act.eval x = .tuple #[u, v]) (hs : s.p v w) :
    o.wp Tryz.prog act w (fun a' w' => ∃ v, a' = act.put o.dst v ∧ Below w.heap.size w w' ∧ s.p v w') Q :=
  loc_run (v := v) (by unfold execOp; simp [ho, hx, Instr.extract]) (Below.refl _ _) hs
theorem loc_build0F (ho : o.op = .buildSlice 27 0 #[]) {B : Nat} (hBw : B ≤ w.heap.size) (hs : ∀ v w', (∃ g, v = .slice (some ⟨g, 0, none⟩) 0 0) ∧ OwnF B w' v [] → s.p v w') :
    o.wp Tryz.prog act w (fun a' w' => ∃ v, a' = act.put o.dst v ∧ Below w.heap.size w w' ∧ s.p v w') Q := by
  refine loc_run (v := .slice (some ⟨w.heap.size, 0, none⟩) 0 0) (w' := w.alloc (.cells #[] 88)) ?_ (below_oneF _ _) (hs _ _ ⟨⟨_, rfl⟩, rfl, .inr ⟨w.heap.size, 0, #[], rfl, hBw, heap_alloc_new _ _, Nat.le_refl _, Nat.zero_le _, rfl, rfl⟩⟩)
  obtain ⟨i0, hi, hz0, hz1, hz2⟩ := info_parts Tryz.info88
  unfold execOp
  simp [ho, Instr.buildSlice, run_underlying Tryz.underlying27, sizeOf, typeInfo, hi, Instr.fill, newRow, show Array.range 0 = #[] from rfl]
/-- Append to an own empty slice without room. -/
theorem loc_append0F {x y : Operand} (ho : o.op = .call { callee := .builtin .append, args := #[x, y], argTypes := #[27, 27] }) {B g : Nat} (hx : act.eval x = .slice (some ⟨g, 0, none⟩) 0 0) (hown : OwnF B w (act.eval x) []) {a : Option Addr} {r : List Fld} {c : Nat}
    (hy : act.eval y = .slice a r.length c) (hr : FldsC w a r c) (hn : r.length ≤ 1000000) (hBw : B ≤ w.heap.size) (hs : ∀ v w', OwnF B w' v r → s.p v w') :
    o.wp Tryz.prog act w (fun a' w' => ∃ v, a' = act.put o.dst v ∧ Below w.heap.size w w' ∧ s.p v w') Q := by
  obtain ⟨i0, hi, hz0, hz1, hz2⟩ := info_parts Tryz.info88
  have fin : ∀ v w', (Builtin.append_ #[27, 27] o.type #[.slice (some ⟨g, 0, none⟩) 0 0, .slice a r.length c]).run Tryz.prog w = .ok v w' → Below w.heap.size w w' → OwnF B w' v r →
      o.wp Tryz.prog act w (fun a' w' => ∃ v, a' = act.put o.dst v ∧ Below w.heap.size w w' ∧ s.p v w') Q := fun v w' h1 h2 h3 => by
    refine loc_run (v := v) (w' := w') ?_ h2 (hs v w' h3)
    unfold execOp
    simp only [ho]
    simp [resolve, invoke, builtin, hx, hy, h1, Result.andThen]
  by_cases h0 : r = []
  · subst h0
    refine fin (.slice (some ⟨g, 0, none⟩) 0 0) w ?_ (Below.refl _ _) (by rw [← hx]; exact hown)
    cases a <;> simp [Builtin.append_, run_underlying Tryz.underlying27, sizeOf, typeInfo, hi, Builtin.lenOf, Builtin.firstCells, loadCells, storeCells, loadCellsFrom]
  · cases a with
    | none => exact absurd (hr.2 rfl).1 h0
    | some ad =>
      have hp : 0 < r.length := List.length_pos_iff.2 h0
      obtain ⟨v, w', h1, h2, h3⟩ := run_append_arg_grows (P := Tryz.prog) (w := w) 27 o.type 88 i0 _ 2 32 Tryz.underlying27 hi hz0 hz1 hz2 rfl (by decide) ⟨g, 0, none⟩ 0 0 [] rfl (fun j u hj => by simp at hj) ad r.length c (cellsF r) (cellsF_len r) hr.1.cells (by omega) (by unfold maxLen; omega) (by omega)
      refine fin v w' h1 ((Below.refl _ _).grown h3 (Nat.le_refl _) (fun k hk => by cases hk)) ?_
      have h4 : w'.ownsRow w.heap.size 88 2 v r.length (cellsF r) := by simpa using h2
      rcases h4.2 with ⟨e, e2⟩ | ⟨g', cap, cur, e, hg, hc⟩
      · exact ⟨h4.1, .inl ⟨e, e2⟩⟩
      · exact ⟨h4.1, .inr ⟨g', cap, cur, e, Nat.le_trans hBw hg, hc⟩⟩
/-- Append of a slice that is read to an own one, as one operation. -/
theorem wp_append_ownFs {x y : Operand} (ho : o.op = .call { callee := .builtin .append, args := #[x, y], argTypes := #[27, 27] }) {B : Nat} {l r : List Fld} {a : Option Addr} {c : Nat} (hx : OwnF B w (act.eval x) l)
    (hy : act.eval y = .slice a r.length c) (hr : FldsC w a r c) (hn : l.length + r.length ≤ 4398046511104) (hB : B ≤ w.heap.size)
    (h : ∀ v' w', OwnF B w' v' (l ++ r) → w.grownBy w' (act.eval x).ownBlock → K (act.put o.dst v') w') : o.wp Tryz.prog act w K Q := by
  obtain ⟨i0, hi, hz0, hz1, hz2⟩ := info_parts Tryz.info88
  have fin : ∀ v w', (Builtin.append_ #[27, 27] o.type #[act.eval x, .slice a r.length c]).run Tryz.prog w = .ok v w' → OwnF B w' v (l ++ r) → w.grownBy w' (act.eval x).ownBlock → o.wp Tryz.prog act w K Q := fun v w' h1 h2 h3 => by
    unfold Oper.wp execOp
    simp only [ho, resolve, invoke, builtin, Sem.run_bind, Sem.run_pure, Result.andThen_ok, List.map_toArray, List.map_cons, List.map_nil, hy, h1]
    exact h v w' h2 h3
  cases a with
  | none =>
    obtain ⟨rfl, rfl⟩ := hr.2 rfl
    refine fin (act.eval x) w (run_append_owned_none (P := Tryz.prog) (w := w) B 27 o.type 88 i0 2 Tryz.underlying27 hi (act.eval x) l.length (cellsF l) hx) ?_ ⟨rfl, rfl, rfl, Nat.le_refl _, fun _ _ _ => rfl⟩
    rw [List.append_nil]; exact hx
  | some ad =>
    obtain ⟨v', w', hr2, h2, h3, _, _⟩ := run_append_own_at (P := Tryz.prog) w B 27 o.type 88 i0 _ 2 32 Tryz.underlying27 hi hz0 hz1 hz2 rfl (by decide) (act.eval x) l.length (cellsF l) hx ad r.length c (cellsF r) (cellsF_len r) (hr.1.cells) (cellsF_one r) (by unfold maxLen; omega) (by omega) hB
    refine fin v' w' hr2 ?_ h3
    unfold OwnF
    rw [List.length_append, cellsF_app]; exact h2
end
end Go.Proofs.YteoadfckcilalaaGreatDoor
namespace Go.Proofs.YteoadfckcilalaaGreatDoor
open Go.RowKit

set_option linter.unusedVariables false
set_option maxRecDepth 100000 in
set_option maxHeartbeats 4000000 in
theorem startRep_err (s : RS) (h : List UInt8) (body : Int) (ba : Option Addr) (bc : Nat) (fa ga la : Option Addr) (fc gc lc : Nat) (g : Nat) (mm : Int) (w : World) (hb : IsBytes w ba h bc) (hl : h.length ≤ 1000000) (hm : MVr w g #[.bool s.rep, .string s.meth, .int .i64 s.ph, .string s.m, .string s.t, .int .i64 s.z, .slice fa (List.length s.xs) fc, .bool s.fr, .slice none 0 0, .int .i64 s.st, .string s.rs, .int .i64 s.z2, .slice ga (List.length s.ys) gc, .slice none 0 0, .int .i64 s.fk, .int .i64 s.fl, .int .i64 s.left, .int .i64 s.size, .int .i64 s.ck.ph, .int .i64 s.ck.left, .int .i64 s.ck.tr, .slice la (List.length s.ck.line) lc]) (hok : HdOk w mm) (er : Int) (st : Int) (rs : ByteArray) (z2 : Int) (ys : List Fld) (hA : headA h = (er, st, rs, z2, ys)) (h0 : ¬ er = 0) :
    Calls Tryz.prog 82 #[.pointer (some ⟨g, 0, none⟩), .slice ba h.length bc, .int .i64 body] w fun e w' => e = .returned (.tuple #[.int .i64 0, .int .i64 er]) ∧ Below w.heap.size w w' := by
  have HCALL := Box.mk (projHeadRepF_any h ba bc mm w hb (by omega) hok)
  rw [hA] at HCALL
  clear hb hm hok hA
  go_enter Tryz.func82, Tryz.ntmps82
  go_wp2_with fail
  refine HCALL.out.mono ?_
  rintro e w1 ⟨f2, c2, he, hf2, hfr2, hb1⟩
  dsimp only at he
  subst he
  have HB1 := Box.mk hb1
  have HN := Box.mk (show (w1.alloc (.cells #[.int .i64 0, .string ⟨#[]⟩, .int .i64 0, .slice none 0 0, .slice none 0 0] 31)).heap[w1.heap.size]? = some (.cells #[.int .i64 0, .string ⟨#[]⟩, .int .i64 0, .slice none 0 0, .slice none 0 0] 31 (0, 0)) from heap_alloc_new w1 (.cells #[.int .i64 0, .string ⟨#[]⟩, .int .i64 0, .slice none 0 0, .slice none 0 0] 31))
  have HQ := Box.mk (show ((w1.alloc (.cells #[.int .i64 0, .string ⟨#[]⟩, .int .i64 0, .slice none 0 0, .slice none 0 0] 31)).setRow w1.heap.size #[.int .i64 st, .string rs, .int .i64 z2, .slice f2 (List.length ys) c2, .slice none 0 0]).heap[w1.heap.size]? = some (.cells #[.int .i64 st, .string rs, .int .i64 z2, .slice f2 (List.length ys) c2, .slice none 0 0] 31 (0, 0)) from setRow_heap _ _ _ _ _ _ HN.out)
  have hs0 : ((w1.alloc (.cells #[.int .i64 0, .string ⟨#[]⟩, .int .i64 0, .slice none 0 0, .slice none 0 0] 31)).setRow w1.heap.size #[.int .i64 st, .string rs, .int .i64 z2, .slice f2 (List.length ys) c2, .slice none 0 0]).cell? ⟨w1.heap.size, 0, none⟩ = some (.int .i64 st) := by rw [cell_of_row _ _ _ _ _ _ HQ.out]; rfl
  have hw1 := hb1.size
  have e0 : (er != 0) = true := by rw [bne_iff_ne]; exact h0
  clear HCALL hf2 hfr2 hb1 h0
  go_wp2_with (refine wpList_store_row rfl 31 _ _ rfl w1.heap.size #[.int .i64 st, .string rs, .int .i64 z2, .slice f2 (List.length ys) c2, .slice none 0 0] rfl rfl 31 _ HN.out sizeA rfl (oneAH ..) ?_)
  go_ret2
  exact ⟨rfl, below_setRow (below_twoF HB1.out (.cells #[.int .i64 0, .string ⟨#[]⟩, .int .i64 0, .slice none 0 0, .slice none 0 0] 31)) hw1 _⟩
set_option maxRecDepth 100000 in
set_option maxHeartbeats 4000000 in
theorem startRep_101 (s : RS) (h : List UInt8) (body : Int) (ba : Option Addr) (bc : Nat) (fa ga la : Option Addr) (fc gc lc : Nat) (g : Nat) (mm : Int) (w : World) (hb : IsBytes w ba h bc) (hl : h.length ≤ 1000000) (hm : MVr w g #[.bool s.rep, .string s.meth, .int .i64 s.ph, .string s.m, .string s.t, .int .i64 s.z, .slice fa (List.length s.xs) fc, .bool s.fr, .slice none 0 0, .int .i64 s.st, .string s.rs, .int .i64 s.z2, .slice ga (List.length s.ys) gc, .slice none 0 0, .int .i64 s.fk, .int .i64 s.fl, .int .i64 s.left, .int .i64 s.size, .int .i64 s.ck.ph, .int .i64 s.ck.left, .int .i64 s.ck.tr, .slice la (List.length s.ck.line) lc]) (hok : HdOk w mm) (st : Int) (rs : ByteArray) (z2 : Int) (ys : List Fld) (hA : headA h = (0, st, rs, z2, ys)) (h1 : st = 101) :
    Calls Tryz.prog 82 #[.pointer (some ⟨g, 0, none⟩), .slice ba h.length bc, .int .i64 body] w fun e w' => e = .returned (.tuple #[.int .i64 0, .int .i64 2]) ∧ Below w.heap.size w w' := by
  have HCALL := Box.mk (projHeadRepF_any h ba bc mm w hb (by omega) hok)
  rw [hA] at HCALL
  clear hb hm hok hA
  go_enter Tryz.func82, Tryz.ntmps82
  go_wp2_with fail
  refine HCALL.out.mono ?_
  rintro e w1 ⟨f2, c2, he, hf2, hfr2, hb1⟩
  dsimp only at he
  subst he
  have HB1 := Box.mk hb1
  have HN := Box.mk (show (w1.alloc (.cells #[.int .i64 0, .string ⟨#[]⟩, .int .i64 0, .slice none 0 0, .slice none 0 0] 31)).heap[w1.heap.size]? = some (.cells #[.int .i64 0, .string ⟨#[]⟩, .int .i64 0, .slice none 0 0, .slice none 0 0] 31 (0, 0)) from heap_alloc_new w1 (.cells #[.int .i64 0, .string ⟨#[]⟩, .int .i64 0, .slice none 0 0, .slice none 0 0] 31))
  have HQ := Box.mk (show ((w1.alloc (.cells #[.int .i64 0, .string ⟨#[]⟩, .int .i64 0, .slice none 0 0, .slice none 0 0] 31)).setRow w1.heap.size #[.int .i64 st, .string rs, .int .i64 z2, .slice f2 (List.length ys) c2, .slice none 0 0]).heap[w1.heap.size]? = some (.cells #[.int .i64 st, .string rs, .int .i64 z2, .slice f2 (List.length ys) c2, .slice none 0 0] 31 (0, 0)) from setRow_heap _ _ _ _ _ _ HN.out)
  have hs0 : ((w1.alloc (.cells #[.int .i64 0, .string ⟨#[]⟩, .int .i64 0, .slice none 0 0, .slice none 0 0] 31)).setRow w1.heap.size #[.int .i64 st, .string rs, .int .i64 z2, .slice f2 (List.length ys) c2, .slice none 0 0]).cell? ⟨w1.heap.size, 0, none⟩ = some (.int .i64 st) := by rw [cell_of_row _ _ _ _ _ _ HQ.out]; rfl
  have hw1 := hb1.size
  have e1 : (st == 101) = true := by rw [h1]; rfl
  clear HCALL hf2 hfr2 hb1 h1
  go_wp2_with (refine wpList_store_row rfl 31 _ _ rfl w1.heap.size #[.int .i64 st, .string rs, .int .i64 z2, .slice f2 (List.length ys) c2, .slice none 0 0] rfl rfl 31 _ HN.out sizeA rfl (oneAH ..) ?_)
  go_ret2
  exact ⟨rfl, below_setRow (below_twoF HB1.out (.cells #[.int .i64 0, .string ⟨#[]⟩, .int .i64 0, .slice none 0 0, .slice none 0 0] 31)) hw1 _⟩
set_option maxRecDepth 100000 in
set_option maxHeartbeats 4000000 in
theorem startRep_int (s : RS) (h : List UInt8) (body : Int) (ba : Option Addr) (bc : Nat) (fa ga la : Option Addr) (fc gc lc : Nat) (g : Nat) (mm : Int) (w : World) (hb : IsBytes w ba h bc) (hl : h.length ≤ 1000000) (hm : MVr w g #[.bool s.rep, .string s.meth, .int .i64 s.ph, .string s.m, .string s.t, .int .i64 s.z, .slice fa (List.length s.xs) fc, .bool s.fr, .slice none 0 0, .int .i64 s.st, .string s.rs, .int .i64 s.z2, .slice ga (List.length s.ys) gc, .slice none 0 0, .int .i64 s.fk, .int .i64 s.fl, .int .i64 s.left, .int .i64 s.size, .int .i64 s.ck.ph, .int .i64 s.ck.left, .int .i64 s.ck.tr, .slice la (List.length s.ck.line) lc]) (hok : HdOk w mm) (st : Int) (rs : ByteArray) (z2 : Int) (ys : List Fld) (hA : headA h = (0, st, rs, z2, ys)) (h1 : ¬ st = 101) (h2 : st ≤ 199) :
    Calls Tryz.prog 82 #[.pointer (some ⟨g, 0, none⟩), .slice ba h.length bc, .int .i64 body] w fun e w' => e = .returned (.tuple #[.int .i64 4, .int .i64 0]) ∧ Below w.heap.size w w' := by
  have HCALL := Box.mk (projHeadRepF_any h ba bc mm w hb (by omega) hok)
  rw [hA] at HCALL
  clear hb hm hok hA
  go_enter Tryz.func82, Tryz.ntmps82
  go_wp2_with fail
  refine HCALL.out.mono ?_
  rintro e w1 ⟨f2, c2, he, hf2, hfr2, hb1⟩
  dsimp only at he
  subst he
  have HB1 := Box.mk hb1
  have HN := Box.mk (show (w1.alloc (.cells #[.int .i64 0, .string ⟨#[]⟩, .int .i64 0, .slice none 0 0, .slice none 0 0] 31)).heap[w1.heap.size]? = some (.cells #[.int .i64 0, .string ⟨#[]⟩, .int .i64 0, .slice none 0 0, .slice none 0 0] 31 (0, 0)) from heap_alloc_new w1 (.cells #[.int .i64 0, .string ⟨#[]⟩, .int .i64 0, .slice none 0 0, .slice none 0 0] 31))
  have HQ := Box.mk (show ((w1.alloc (.cells #[.int .i64 0, .string ⟨#[]⟩, .int .i64 0, .slice none 0 0, .slice none 0 0] 31)).setRow w1.heap.size #[.int .i64 st, .string rs, .int .i64 z2, .slice f2 (List.length ys) c2, .slice none 0 0]).heap[w1.heap.size]? = some (.cells #[.int .i64 st, .string rs, .int .i64 z2, .slice f2 (List.length ys) c2, .slice none 0 0] 31 (0, 0)) from setRow_heap _ _ _ _ _ _ HN.out)
  have hs0 : ((w1.alloc (.cells #[.int .i64 0, .string ⟨#[]⟩, .int .i64 0, .slice none 0 0, .slice none 0 0] 31)).setRow w1.heap.size #[.int .i64 st, .string rs, .int .i64 z2, .slice f2 (List.length ys) c2, .slice none 0 0]).cell? ⟨w1.heap.size, 0, none⟩ = some (.int .i64 st) := by rw [cell_of_row _ _ _ _ _ _ HQ.out]; rfl
  have hw1 := hb1.size
  have e1 : (st == 101) = false := by rw [beq_eq_false_iff_ne]; exact h1
  clear HCALL hf2 hfr2 hb1 h1
  go_wp2_with (refine wpList_store_row rfl 31 _ _ rfl w1.heap.size #[.int .i64 st, .string rs, .int .i64 z2, .slice f2 (List.length ys) c2, .slice none 0 0] rfl rfl 31 _ HN.out sizeA rfl (oneAH ..) ?_)
  go_ret2
  exact ⟨rfl, below_setRow (below_twoF HB1.out (.cells #[.int .i64 0, .string ⟨#[]⟩, .int .i64 0, .slice none 0 0, .slice none 0 0] 31)) hw1 _⟩
set_option maxRecDepth 100000 in
set_option maxHeartbeats 4000000 in
theorem run_loadAY (w : World) (g : Nat) (st : Int) (rs : ByteArray) (z2 : Int) (a : Option Addr) (nc : Nat × Nat) (h : w.heap[g]? = some (.cells #[.int .i64 st, .string rs, .int .i64 z2, .slice a nc.1 nc.2, .slice none 0 0] 31 (0, 0))) :
    (Instr.loadAt 31 (.pointer (some ⟨g, 0, none⟩))).run Tryz.prog w = .ok (.agg #[.int .i64 st, .string rs, .int .i64 z2, .slice a nc.1 nc.2, .slice none 0 0]) w := by
  simp [Instr.loadAt, Instr.sureAddr, run_loadVar_row w g _ 31 _ _ _ h Tryz.underlying31 rfl sizeA]
set_option maxRecDepth 100000 in
set_option maxHeartbeats 4000000 in
theorem startRep_ok (s : RS) (h : List UInt8) (body : Int) (ba : Option Addr) (bc : Nat) (fa ga la : Option Addr) (fc gc lc : Nat) (g : Nat) (mm : Int) (w : World) (hb : IsBytes w ba h bc) (hl : h.length ≤ 1000000) (hm : MVr w g #[.bool s.rep, .string s.meth, .int .i64 s.ph, .string s.m, .string s.t, .int .i64 s.z, .slice fa (List.length s.xs) fc, .bool s.fr, .slice none 0 0, .int .i64 s.st, .string s.rs, .int .i64 s.z2, .slice ga (List.length s.ys) gc, .slice none 0 0, .int .i64 s.fk, .int .i64 s.fl, .int .i64 s.left, .int .i64 s.size, .int .i64 s.ck.ph, .int .i64 s.ck.left, .int .i64 s.ck.tr, .slice la (List.length s.ck.line) lc]) (hok : HdOk w mm) (st : Int) (rs : ByteArray) (z2 : Int) (ys : List Fld) (hA : headA h = (0, st, rs, z2, ys)) (hst : ¬ st ≤ 199) (hys : SmallF ys ∧ ys.length ≤ 64) (k l ef : Int) (hF : replyS s.meth st z2 ys = (k, l, ef)) (er : Int) (her : (if ef = 3 ∨ k = 2 ∧ body < l then 9 else ef) = er) :
    Calls Tryz.prog 82 #[.pointer (some ⟨g, 0, none⟩), .slice ba h.length bc, .int .i64 body] w fun e w' => ∃ f2 c2, e = .returned (.tuple #[.int .i64 1, .int .i64 er]) ∧ MVr w' g #[.bool s.rep, .string s.meth, .int .i64 1, .string s.m, .string s.t, .int .i64 s.z, .slice fa (List.length s.xs) fc, .bool s.fr, .slice none 0 0, .int .i64 st, .string rs, .int .i64 z2, .slice f2 (List.length ys) c2, .slice none 0 0, .int .i64 k, .int .i64 l, .int .i64 l, .int .i64 0, .int .i64 0, .int .i64 0, .int .i64 0, .slice none (List.length ([] : List UInt8)) 0] ∧ FldsIn w' f2 ys ∧ (∀ y, f2 = some y → ys ≠ [] → w.heap.size ≤ y.block) ∧ w.grownBy w' (some g) := by
  obtain ⟨cs, hcs⟩ : ∃ cs : Array Value, cs = #[.bool s.rep, .string s.meth, .int .i64 s.ph, .string s.m, .string s.t, .int .i64 s.z, .slice fa (List.length s.xs) fc, .bool s.fr, .slice none 0 0, .int .i64 s.st, .string s.rs, .int .i64 s.z2, .slice ga (List.length s.ys) gc, .slice none 0 0, .int .i64 s.fk, .int .i64 s.fl, .int .i64 s.left, .int .i64 s.size, .int .i64 s.ck.ph, .int .i64 s.ck.left, .int .i64 s.ck.tr, .slice la (List.length s.ck.line) lc] := ⟨_, rfl⟩
  have HCS := Box.mk hcs
  rw [← hcs] at hm
  have hcs22 : cs.size = 22 := by rw [hcs]; rfl
  have hlt := hm.lt
  have HM0 := Box.mk hm
  clear hcs hm
  have HCALL := Box.mk (projHeadRepF_any h ba bc mm w hb (by omega) hok)
  rw [hA] at HCALL
  have HOK := Box.mk hok
  have HFE := Box.mk hF
  have HYS := Box.mk hys
  have hx64 : ys.length ≤ 1000000 := by omega
  have HCF := Box.mk (fun W => checkFrameR_any k l ef body er W her)
  have e1 : (st == 101) = false := by rw [beq_eq_false_iff_ne]; omega
  clear hb hok hA hF hys her
  go_enter Tryz.func82, Tryz.ntmps82
  go_wp2_with fail
  refine HCALL.out.mono ?_
  rintro e w1 ⟨f2, c2, he, hf2, hfr2, hb1⟩
  dsimp only at he hf2
  subst he
  have HN := Box.mk (show (w1.alloc (.cells #[.int .i64 0, .string ⟨#[]⟩, .int .i64 0, .slice none 0 0, .slice none 0 0] 31)).heap[w1.heap.size]? = some (.cells #[.int .i64 0, .string ⟨#[]⟩, .int .i64 0, .slice none 0 0, .slice none 0 0] 31 (0, 0)) from heap_alloc_new w1 (.cells #[.int .i64 0, .string ⟨#[]⟩, .int .i64 0, .slice none 0 0, .slice none 0 0] 31))
  have hw1 := hb1.size
  have HM1 := Box.mk (HM0.out.keep hb1)
  have HF1 := Box.mk hf2
  have HFR := Box.mk hfr2
  have HOK1 := Box.mk (HOK.out.keep hb1)
  have HG1 := Box.mk (grownBy_of hb1 (some g))
  clear HCALL hf2 hfr2 hb1 HM0 HOK
  go_upto_region 2 with (refine wpList_store_row rfl 31 _ _ rfl w1.heap.size #[.int .i64 st, .string rs, .int .i64 z2, .slice f2 (List.length ys) c2, .slice none 0 0] rfl rfl 31 _ HN.out sizeA rfl (oneAH ..) ?_)
  obtain ⟨W2, hW2⟩ : ∃ W2, W2 = (w1.alloc (.cells #[.int .i64 0, .string ⟨#[]⟩, .int .i64 0, .slice none 0 0, .slice none 0 0] 31)).setRow w1.heap.size #[.int .i64 st, .string rs, .int .i64 z2, .slice f2 (List.length ys) c2, .slice none 0 0] := ⟨_, rfl⟩
  have HQ2 := Box.mk (show W2.heap[w1.heap.size]? = some (.cells #[.int .i64 st, .string rs, .int .i64 z2, .slice f2 (List.length ys) c2, .slice none 0 0] 31 (0, 0)) by rw [hW2]; exact setRow_heap _ _ _ _ _ _ HN.out)
  have HB2 := Box.mk (show Below w1.heap.size w1 W2 by rw [hW2]; exact below_setRow (below_oneF _ _) (Nat.le_refl _) _)
  have HM2 := Box.mk (HM1.out.keep HB2.out)
  have HF2 := Box.mk (HF1.out.keep HB2.out)
  have HOK2 := Box.mk (HOK1.out.keep HB2.out)
  have HG2 := Box.mk (grownBy_trans HG1.out (grownBy_of HB2.out (some g)))
  have HFO := Box.mk (show ∀ y, f2 = some y → ys ≠ [] → y.block ≠ w1.heap.size ∧ w.heap.size ≤ y.block from fun y e hx => ⟨by have := HF1.out.old e hx; omega, HFR.out y e⟩)
  have hw2 : w1.heap.size < W2.heap.size := (Array.getElem?_eq_some_iff.1 HQ2.out).1
  have hs0 : W2.cell? ⟨w1.heap.size, 0, none⟩ = some (.int .i64 st) := by rw [cell_of_row _ _ _ _ _ _ HQ2.out]; rfl
  rw [← hW2]
  clear hW2 HM1 HF1 HOK1 HG1 HB2 HN HFR
  go_wp2_with fail
  rename_i KK hKK
  refine wp_region_phases [10] (fun p => match p with | 0 => [0, 1, 2, 3, 4, 5, 6, 7, 8, 9] | _ => [8, 11])
    (fun p => match p with | 0 => [.val (.pointer (some ⟨g, 0, none⟩)), .val (.pointer (some ⟨g, 0, none⟩)), .val (.pointer (some ⟨g, 1, none⟩)), .val (.string s.meth), .val (.agg #[.int .i64 st, .string rs, .int .i64 z2, .slice f2 (List.length ys) c2, .slice none 0 0]), .val (frameV (k, l, ef)), .val (frameV (k, l, ef)), .val (.agg #[.int .i64 k, .int .i64 l]), .val (.int .i64 ef), .krow W2.heap.size 0 0, .any, .nope] | _ => [.any, .any, .any, .any, .any, .any, .val (frameV (k, l, ef)), .any, .val (.int .i64 ef), .krow W2.heap.size k l, .any, .val (.int .i64 ef)])
    (fun _ => fun wx => Below W2.heap.size W2 wx)
    (by kernel_rfl) (by kernel_rfl) (by kernel_rfl) (by kernel_rfl) (by kernel_rfl) (by kernel_rfl) ?_ (Below.refl _ _) ?_ ?_ ?_
  · intro p wa wb h hb
    exact below_trans h hb
  · intro p hp
    match p, hp with
    | 0, _ =>
      refine ⟨?_, ?_, ?_, ?_, ?_, ?_, ?_, ?_, ?_, ?_, trivial⟩ <;> intro a1 wx hv hf hd
      · exact ⟨wanted_none rfl, loc_move rfl (hf.base 0 rfl)⟩
      · exact ⟨wanted_none rfl, loc_nilCheck rfl (hd 0 rfl) rfl⟩
      · exact ⟨wanted_none rfl, loc_fieldMs rfl (hd 1 rfl) (by decide) rfl rfl⟩
      · exact ⟨wanted_none rfl, loc_cell rfl (hd 2 rfl) (by rw [(HM2.out.keep hv).cell, HCS.out]; rfl) (agg_string _) rfl⟩
      · exact ⟨wanted_none rfl, loc_load rfl (by rw [show a1.eval (.tmp 8) = .pointer (some ⟨w1.heap.size, 0, none⟩) from hf.base 8 rfl]; exact run_loadAY _ _ _ _ _ _ (ys.length, c2) (by rw [hv.block _ hw2]; exact HQ2.out)) rfl⟩
      · refine ⟨wanted_none rfl, loc_call rfl (by kernel_rfl) ?_⟩
        show Calls _ _ #[a1.eval (.tmp 32), a1.eval (.tmp 33)] _ _
        rw [show a1.eval (.tmp 32) = .string s.meth from hd 3 rfl, show a1.eval (.tmp 33) = .agg #[.int .i64 st, .string rs, .int .i64 z2, .slice f2 (List.length ys) c2, .slice none 0 0] from hd 4 rfl]
        refine (projOfReply_any s.meth st rs z2 ys f2 c2 none 0 0 mm wx (HF2.out.keep hv) (smallF_short HYS.out.1) hx64 (total_sm HYS.out.1 HYS.out.2 teN) (HOK2.out.keep hv)).mono ?_
        rintro e w' ⟨he, hbb⟩
        rw [HFE.out] at he
        exact ⟨_, he, hbb, rfl⟩
      · exact ⟨wanted_none rfl, loc_move rfl (hd 5 rfl)⟩
      · exact ⟨wanted_none rfl, loc_extractK0 rfl (hd 6 rfl) rfl⟩
      · exact ⟨wanted_none rfl, loc_extractK1 rfl (hd 6 rfl) rfl⟩
      · exact ⟨wanted_none rfl, loc_allocK rfl hv.size fun v w' h => h⟩
    | 1, _ =>
      refine ⟨?_, ?_, trivial⟩ <;> intro a1 wx hv hf hd
      · exact ⟨wanted_none rfl, loc_extractK1 rfl (hd 6 rfl) rfl⟩
      · exact ⟨wanted_none rfl, loc_assign rfl (hd 8 rfl)⟩
  · intro p hp
    match p, hp with
    | 0, _ =>
      intro a2 wx hv hf hd
      obtain ⟨g9, e9, hB9, hk9⟩ := hd 9 rfl
      refine ⟨wanted_none rfl, wp_store_row 33 _ _ rfl g9 #[.int .i64 k, .int .i64 l] e9 (hd 7 rfl) 33 _ hk9 sizeK rfl (oneK ..) ?_⟩
      exact ⟨undef, rfl, below_setRow hv hB9 _, trivial, ⟨.inr fun _ _ _ => trivial, .inr fun _ _ _ => trivial, .inr fun _ _ _ => trivial, .inr fun _ _ _ => trivial, .inr fun _ _ _ => trivial, .inr fun _ _ _ => trivial, .inr fun _ _ h => h, .inr fun _ _ _ => trivial, .inr fun _ _ h => h, .inr fun v hv0 _ => by have h9 := hv0 _ 10 rfl rfl; rw [h9, e9]; exact ⟨g9, rfl, hB9, setRow_heap _ _ _ _ _ _ hk9⟩, .inl rfl, .inr fun _ _ h => h.elim, trivial⟩⟩
  · intro a2 w3 hv hf hh
    have e9 : a2.eval (.tmp 9) = .int .i64 ef := hh 11 (by decide)
    obtain ⟨gk, e10a, hgk, hk3⟩ := hh 9 (by decide)
    have e10 : a2.eval (.tmp 10) = .pointer (some ⟨gk, 0, none⟩) := e10a
    clear hh e10a
    rw [fr_putAll hf]
    clear hf
    simp only [putAll, e9, e10]
    generalize a2.eval (.tmp 29) = u29
    generalize a2.eval (.tmp 30) = u30
    generalize a2.eval (.tmp 31) = u31
    generalize a2.eval (.tmp 32) = u32
    generalize a2.eval (.tmp 33) = u33
    generalize a2.eval (.tmp 34) = u34
    generalize a2.eval (.tmp 28) = u28
    generalize a2.eval (.tmp 35) = u35
    generalize a2.eval (.tmp 36) = u36
    clear e9 e10 a2
    simp only [Act.put, List.setIfInBounds_toArray, List.set_cons_succ, List.set_cons_zero]
    refine hKK _ _ ?_
    clear hKK
    have HQ5 := Box.mk (show w3.heap[w1.heap.size]? = some (.cells #[.int .i64 st, .string rs, .int .i64 z2, .slice f2 (List.length ys) c2, .slice none 0 0] 31 (0, 0)) by rw [hv.block _ hw2]; exact HQ2.out)
    have HK5 := Box.mk hk3
    have HM5 := Box.mk (HM2.out.keep hv)
    have HF5 := Box.mk (HF2.out.keep hv)
    have HG5 := Box.mk (grownBy_trans HG2.out (grownBy_of hv (some g)))
    have hw3 := hv.size
    obtain ⟨c1, hc1⟩ : ∃ y0 : Array Value, y0 = #[.bool s.rep, .string s.meth, .int .i64 s.ph, .string s.m, .string s.t, .int .i64 s.z, .slice fa (List.length s.xs) fc, .bool s.fr, .slice none 0 0, .int .i64 st, .string rs, .int .i64 z2, .slice f2 (List.length ys) c2, .slice none 0 0, .int .i64 s.fk, .int .i64 s.fl, .int .i64 s.left, .int .i64 s.size, .int .i64 s.ck.ph, .int .i64 s.ck.left, .int .i64 s.ck.tr, .slice la (List.length s.ck.line) lc] := ⟨_, rfl⟩
    have HC1 := Box.mk hc1
    clear hc1 hv hk3 HQ2 HM2 HF2 HG2 HOK2
    go_upto_region 10 with (first | refine wpList_load_row rfl 31 _ rfl w1.heap.size rfl 31 #[.int .i64 st, .string rs, .int .i64 z2, .slice f2 (List.length ys) c2, .slice none 0 0] (0, 0) _ HQ5.out Tryz.underlying31 rfl sizeA ?_ | refine wpList_store_sub rfl 31 _ _ rfl g 9 #[.int .i64 st, .string rs, .int .i64 z2, .slice f2 (List.length ys) c2, .slice none 0 0] rfl rfl 73 _ c1 HM5.out sizeA (by rw [hcs22]; show 9 + 5 ≤ 22; decide) (oneAH ..) (by rw [HCS.out, HC1.out]; rfl) ?_)
    obtain ⟨W6, hW6⟩ : ∃ W6, W6 = w3.setRow g c1 := ⟨_, rfl⟩
    have HM6 := Box.mk (show MVr W6 g #[.bool s.rep, .string s.meth, .int .i64 s.ph, .string s.m, .string s.t, .int .i64 s.z, .slice fa (List.length s.xs) fc, .bool s.fr, .slice none 0 0, .int .i64 st, .string rs, .int .i64 z2, .slice f2 (List.length ys) c2, .slice none 0 0, .int .i64 s.fk, .int .i64 s.fl, .int .i64 s.left, .int .i64 s.size, .int .i64 s.ck.ph, .int .i64 s.ck.left, .int .i64 s.ck.tr, .slice la (List.length s.ck.line) lc] by rw [hW6, ← HC1.out]; exact setRow_heap _ _ _ _ _ _ HM5.out)
    have HK6 := Box.mk (show KVar W6 gk k l by rw [hW6]; exact (setRow_other _ _ _ _ (by omega)).trans HK5.out)
    have HF6 := Box.mk (show FldsIn W6 f2 ys by rw [hW6]; exact sameNe HF5.out fun y e hx => setRow_other _ _ _ _ (by have := (HFO.out y e hx).2; omega))
    have HG6 := Box.mk (show w.grownBy W6 (some g) by rw [hW6]; exact grownBy_trans HG5.out (grownBy_setRowM _ _ _))
    have HCB := Box.mk (mBody_any g (.bool s.rep) (.string s.meth) (.string s.m) (.string s.t) (.int .i64 s.z) (.slice fa (List.length s.xs) fc) (.bool s.fr) (.slice none 0 0) (.int .i64 st) (.string rs) (.int .i64 z2) (.slice f2 (List.length ys) c2) (.slice none 0 0) (s.ph) (s.fk) (s.fl) (s.left) (s.size) (s.ck.ph) (s.ck.left) (s.ck.tr) k l la (List.length s.ck.line) lc W6 (HM6.out))
    rw [← hW6]
    clear hW6 HQ5 HM5 HK5 HF5 HG5 HC1 HCS hcs22 HM6
    go_wp2_with (refine wpList_load_row rfl 33 _ rfl gk rfl 33 #[.int .i64 k, .int .i64 l] (0, 0) _ HK6.out Tryz.underlying33 rfl sizeK ?_)
    refine HCB.out.mono ?_
    rintro e w7 ⟨rfl, hm7, hg7⟩
    have HM7 := Box.mk hm7
    have HK7 := Box.mk (show KVar w7 gk k l from (hg7.block _ (Array.getElem?_eq_some_iff.1 HK6.out).1 (fun e => by injection e with e; omega)).trans HK6.out)
    have HF7 := Box.mk (HF6.out.grownR hg7 fun y e hx => by have := (HFO.out y e hx).2; omega)
    have HG7 := Box.mk (grownBy_trans HG6.out hg7)
    clear hm7 hg7 HK6 HF6 HG6 HCB
    go_wp2_with (refine wpList_load_row rfl 33 _ rfl gk rfl 33 #[.int .i64 k, .int .i64 l] (0, 0) _ HK7.out Tryz.underlying33 rfl sizeK ?_)
    refine (HCF.out w7).mono ?_
    rintro e w8 ⟨rfl, hb8⟩
    have HM8 := Box.mk (HM7.out.keep hb8)
    have HF8 := Box.mk (HF7.out.keep hb8)
    have HG8 := Box.mk (grownBy_trans HG7.out (grownBy_of hb8 (some g)))
    clear hb8 HM7 HK7 HF7 HG7
    go_wp2_with fail
    go_ret2
    exact ⟨f2, c2, rfl, HM8.out, HF8.out, fun y e hx => (HFO.out y e hx).2, HG8.out⟩
end Go.Proofs.YteoadfckcilalaaGreatDoor
namespace Go.Proofs.YteoadfckcilalaaGreatDoor
open Go.RowKit

set_option linter.unusedVariables false
/-- What a method of the project's reader returns and leaves of the message. -/
def RetM (P : Nat → Prop) (w : World) (g : Nat) (x : NX) (e : Ending) (w' : World) : Prop :=
  (x.er = 0 ∧ ∃ fa fc ga gc la lc pa pc, e = .returned (.tuple #[.agg #[.int .i64 x.kind, .slice pa (List.length x.data) pc], .int .i64 x.n, .int .i64 0]) ∧ MVr w' g #[.bool x.r.rep, .string x.r.meth, .int .i64 x.r.ph, .string x.r.m, .string x.r.t, .int .i64 x.r.z, .slice fa (List.length x.r.xs) fc, .bool x.r.fr, .slice none 0 0, .int .i64 x.r.st, .string x.r.rs, .int .i64 x.r.z2, .slice ga (List.length x.r.ys) gc, .slice none 0 0, .int .i64 x.r.fk, .int .i64 x.r.fl, .int .i64 x.r.left, .int .i64 x.r.size, .int .i64 x.r.ck.ph, .int .i64 x.r.ck.left, .int .i64 x.r.ck.tr, .slice la (List.length x.r.ck.line) lc] ∧ RMem P w' x.r fa ga la lc ∧ (∀ y, la = some y → x.r.ck.line ≠ [] → P y.block) ∧ IsBytes w' pa x.data pc ∧ w.grownBy w' (some g)) ∨
  (¬ x.er = 0 ∧ ∃ k n : Int, e = .returned (.tuple #[.agg #[.int .i64 k, .slice none 0 0], .int .i64 n, .int .i64 x.er]) ∧ w.grownBy w' (some g))
set_option maxRecDepth 100000 in
set_option maxHeartbeats 2000000 in
theorem mHead_more (b : List UInt8) (most body room : Int) (ba : Option Addr) (bc : Nat) (g : Nat) (cs : Array Value) (w : World) (mm : Int) (hb : IsBytes w ba b bc) (hl : b.length ≤ 1000000) (hm : MVr w g cs) (hok : HdOk w mm) (hE : endS b most = (0, 4)) :
    Calls Tryz.prog 57 #[.pointer (some ⟨g, 0, none⟩), .slice ba b.length bc, .agg #[.int .i64 most, .int .i64 body, .int .i64 room]] w fun e w' => e = .returned (.tuple #[.agg #[.int .i64 0, .slice none 0 0], .int .i64 0, .int .i64 0]) ∧ Below w.heap.size w w' := by
  obtain ⟨W1, hW1⟩ : ∃ W1, W1 = (w.alloc (.cells #[.int .i64 most, .int .i64 body, .int .i64 room] 81)).alloc (.cells #[.int .i64 0, .slice none 0 0] 41) := ⟨_, rfl⟩
  have HB1 := Box.mk (show Below w.heap.size w W1 by rw [hW1]; exact below_twoF (below_oneF _ _) _)
  have HL1 := Box.mk (show LVr W1 w.heap.size most body room by rw [hW1]; exact LVr.keep (heap_alloc_new w (.cells #[.int .i64 most, .int .i64 body, .int .i64 room] 81)) (below_oneF _ _))
  have HO := Box.mk (show PVr W1 (w.heap.size + 1) #[.int .i64 0, .slice none 0 0] by
    have h := heap_alloc_new (w.alloc (.cells #[.int .i64 most, .int .i64 body, .int .i64 room] 81)) (.cells #[.int .i64 0, .slice none 0 0] 41)
    rw [World.size_alloc] at h
    rw [hW1]; exact h)
  have HW1 := Box.mk hW1
  have HM1 := Box.mk (hm.keep HB1.out)
  have hlt := hm.lt
  have hlw : w.heap.size + 1 < W1.heap.size := (Array.getElem?_eq_some_iff.1 HO.out).1
  have hl0 : W1.cell? ⟨w.heap.size, 0, none⟩ = some (.int .i64 most) := by rw [cell_of_row _ _ _ _ _ _ HL1.out]; rfl
  have HBB := Box.mk (hb.keep HB1.out)
  have HCALL := Box.mk (projEnd_any b ba bc most mm W1 HBB.out (by omega) (hok.keep HB1.out))
  rw [hE] at HCALL
  clear hW1 hm hb hE hok
  go_enter Tryz.func57, Tryz.ntmps57
  go_wp2_with fail
  rw [← HW1.out]
  refine HCALL.out.mono ?_
  rintro e w2 ⟨rfl, hb2⟩
  have HO2 := Box.mk (HO.out.keep hb2)
  have HB2 := Box.mk (below_trans HB1.out hb2)
  clear HW1 HCALL hb2
  go_wp2_with (refine wpList_store_row rfl 41 _ _ rfl (w.heap.size + 1) #[.int .i64 0, .slice none 0 0] rfl rfl 41 _ HO2.out sizePt rfl (onePt ..) ?_)
  (try simp only [Exit.inBlock, Exit.then])
  refine bodyPost_ret (results_rtt rfl _ _ (w.heap.size + 1) 41 #[.int .i64 0, .slice none 0 0] (0, 0) _ rfl (setRow_heap _ _ _ _ _ _ HO2.out) Tryz.underlying41 rfl sizePt) rfl ?_
  exact ⟨rfl, below_setRow HB2.out (by omega) _⟩
set_option maxRecDepth 100000 in
set_option maxHeartbeats 2000000 in
theorem mHead_lim (b : List UInt8) (most body room : Int) (ba : Option Addr) (bc : Nat) (g : Nat) (cs : Array Value) (w : World) (mm : Int) (hb : IsBytes w ba b bc) (hl : b.length ≤ 1000000) (hm : MVr w g cs) (hok : HdOk w mm) (hE : endS b most = (0, 3)) :
    Calls Tryz.prog 57 #[.pointer (some ⟨g, 0, none⟩), .slice ba b.length bc, .agg #[.int .i64 most, .int .i64 body, .int .i64 room]] w fun e w' => e = .returned (.tuple #[.agg #[.int .i64 0, .slice none 0 0], .int .i64 0, .int .i64 3]) ∧ Below w.heap.size w w' := by
  obtain ⟨W1, hW1⟩ : ∃ W1, W1 = (w.alloc (.cells #[.int .i64 most, .int .i64 body, .int .i64 room] 81)).alloc (.cells #[.int .i64 0, .slice none 0 0] 41) := ⟨_, rfl⟩
  have HB1 := Box.mk (show Below w.heap.size w W1 by rw [hW1]; exact below_twoF (below_oneF _ _) _)
  have HL1 := Box.mk (show LVr W1 w.heap.size most body room by rw [hW1]; exact LVr.keep (heap_alloc_new w (.cells #[.int .i64 most, .int .i64 body, .int .i64 room] 81)) (below_oneF _ _))
  have HO := Box.mk (show PVr W1 (w.heap.size + 1) #[.int .i64 0, .slice none 0 0] by
    have h := heap_alloc_new (w.alloc (.cells #[.int .i64 most, .int .i64 body, .int .i64 room] 81)) (.cells #[.int .i64 0, .slice none 0 0] 41)
    rw [World.size_alloc] at h
    rw [hW1]; exact h)
  have HW1 := Box.mk hW1
  have HM1 := Box.mk (hm.keep HB1.out)
  have hlt := hm.lt
  have hlw : w.heap.size + 1 < W1.heap.size := (Array.getElem?_eq_some_iff.1 HO.out).1
  have hl0 : W1.cell? ⟨w.heap.size, 0, none⟩ = some (.int .i64 most) := by rw [cell_of_row _ _ _ _ _ _ HL1.out]; rfl
  have HBB := Box.mk (hb.keep HB1.out)
  have HCALL := Box.mk (projEnd_any b ba bc most mm W1 HBB.out (by omega) (hok.keep HB1.out))
  rw [hE] at HCALL
  clear hW1 hm hb hE hok
  go_enter Tryz.func57, Tryz.ntmps57
  go_wp2_with fail
  rw [← HW1.out]
  refine HCALL.out.mono ?_
  rintro e w2 ⟨rfl, hb2⟩
  have HO2 := Box.mk (HO.out.keep hb2)
  have HB2 := Box.mk (below_trans HB1.out hb2)
  clear HW1 HCALL hb2
  go_wp2_with (refine wpList_store_row rfl 41 _ _ rfl (w.heap.size + 1) #[.int .i64 0, .slice none 0 0] rfl rfl 41 _ HO2.out sizePt rfl (onePt ..) ?_)
  (try simp only [Exit.inBlock, Exit.then])
  refine bodyPost_ret (results_rtt rfl _ _ (w.heap.size + 1) 41 #[.int .i64 0, .slice none 0 0] (0, 0) _ rfl (setRow_heap _ _ _ _ _ _ HO2.out) Tryz.underlying41 rfl sizePt) rfl ?_
  exact ⟨rfl, below_setRow HB2.out (by omega) _⟩
set_option maxRecDepth 100000 in
set_option maxHeartbeats 2000000 in
theorem mHead_req (b : List UInt8) (most body room : Int) (ba : Option Addr) (bc : Nat) (g : Nat) (cs : Array Value) (w : World) (mm : Int) (hb : IsBytes w ba b bc) (hl : b.length ≤ 1000000) (hm : MVr w g cs) (hok : HdOk w mm) (n : Nat) (hE : endS b most = ((n : Int), 0)) (h4 : 4 ≤ n) (hn : n ≤ b.length) (hrep : cs[0]? = some (.bool false)) (kd er : Int) (X : World → World → Prop)
    (hC : ∀ W, Below w.heap.size w W → Calls Tryz.prog 81 #[.pointer (some ⟨g, 0, none⟩), .slice ba n bc, .int .i64 body] W fun e w' => e = .returned (.tuple #[.int .i64 kd, .int .i64 er]) ∧ W.grownBy w' (some g) ∧ X W w')
    (hX : ∀ W w1 w2, X W w1 → (∀ k, k < w1.heap.size → k = g ∨ W.heap.size ≤ k → w2.heap[k]? = w1.heap[k]?) → X W w2) :
    Calls Tryz.prog 57 #[.pointer (some ⟨g, 0, none⟩), .slice ba b.length bc, .agg #[.int .i64 most, .int .i64 body, .int .i64 room]] w fun e w' => e = .returned (.tuple #[.agg #[.int .i64 kd, .slice none 0 0], .int .i64 (n : Int), .int .i64 er]) ∧ w.grownBy w' (some g) ∧ ∃ W, Below w.heap.size w W ∧ X W w' := by
  have HREP := Box.mk hrep
  have hnc : b.length ≤ bc := isBytes_cap hb
  clear hrep
  obtain ⟨W1, hW1⟩ : ∃ W1, W1 = (w.alloc (.cells #[.int .i64 most, .int .i64 body, .int .i64 room] 81)).alloc (.cells #[.int .i64 0, .slice none 0 0] 41) := ⟨_, rfl⟩
  have HB1 := Box.mk (show Below w.heap.size w W1 by rw [hW1]; exact below_twoF (below_oneF _ _) _)
  have HL1 := Box.mk (show LVr W1 w.heap.size most body room by rw [hW1]; exact LVr.keep (heap_alloc_new w (.cells #[.int .i64 most, .int .i64 body, .int .i64 room] 81)) (below_oneF _ _))
  have HO := Box.mk (show PVr W1 (w.heap.size + 1) #[.int .i64 0, .slice none 0 0] by
    have h := heap_alloc_new (w.alloc (.cells #[.int .i64 most, .int .i64 body, .int .i64 room] 81)) (.cells #[.int .i64 0, .slice none 0 0] 41)
    rw [World.size_alloc] at h
    rw [hW1]; exact h)
  have HW1 := Box.mk hW1
  have HM1 := Box.mk (hm.keep HB1.out)
  have hlt := hm.lt
  have hlw : w.heap.size + 1 < W1.heap.size := (Array.getElem?_eq_some_iff.1 HO.out).1
  have hl0 : W1.cell? ⟨w.heap.size, 0, none⟩ = some (.int .i64 most) := by rw [cell_of_row _ _ _ _ _ _ HL1.out]; rfl
  have HBB := Box.mk (hb.keep HB1.out)
  have HCALL := Box.mk (projEnd_any b ba bc most mm W1 HBB.out (by omega) (hok.keep HB1.out))
  rw [hE] at HCALL
  clear hW1 hm hb hE hok
  have HC := Box.mk hC
  have HX := Box.mk hX
  clear hC hX
  go_enter Tryz.func57, Tryz.ntmps57
  go_wp2_with fail
  rw [← HW1.out]
  refine HCALL.out.mono ?_
  rintro e w2 ⟨rfl, hb2⟩
  have HO2 := Box.mk (HO.out.keep hb2)
  have HL2 := Box.mk (HL1.out.keep hb2)
  have HB2 := Box.mk (below_trans HB1.out hb2)
  have hlw2 : w.heap.size + 1 < w2.heap.size := Nat.lt_of_lt_of_le hlw hb2.size
  have hm02 : w2.cell? ⟨g, 0, none⟩ = some (.bool false) := by rw [(HM1.out.keep hb2).cell]; exact HREP.out
  clear HW1 HCALL hb2 HO HL1 HB1 hlw hl0 HREP
  go_wp2_with fail
  rename_i KK hKK
  refine wp_region_phases [7] (fun p => match p with | 0 => [0, 1, 2, 3, 4, 5, 6] | _ => [8, 9, 10, 11, 12])
    (fun p => match p with | 0 => [.val (.func (.func 81) #[] #[]), .val (.pointer (some ⟨g, 0, none⟩)), .val (.slice ba b.length bc), .val (.int .i64 (n : Int)), .val (.slice ba n bc), .val (.pointer (some ⟨w.heap.size, 1, none⟩)), .val (.int .i64 body), .any, .nope, .nope, .nope, .nope, .nope] | _ => [.any, .any, .any, .any, .any, .any, .any, .val (.tuple #[.int .i64 kd, .int .i64 er]), .val (.tuple #[.int .i64 kd, .int .i64 er]), .val (.int .i64 kd), .val (.int .i64 er), .val (.int .i64 kd), .val (.int .i64 er)])
    (fun p => match p with | 0 => fun wx => Below w2.heap.size w2 wx | _ => fun wx => ∃ W, Below w2.heap.size w2 W ∧ W.grownBy wx (some g) ∧ X W wx)
    (by kernel_rfl) (by kernel_rfl) (by kernel_rfl) (by kernel_rfl) (by kernel_rfl) (by kernel_rfl) ?_ (Below.refl _ _) ?_ ?_ ?_
  · intro p wa wb h hb
    match p, h with
    | 0, h => exact below_trans h hb
    | (_ + 1), ⟨W, h1, h2, h3⟩ => exact ⟨W, h1, grownBy_trans h2 (grownBy_of hb _), HX.out _ _ _ h3 fun k hk _ => hb.block k hk⟩
  · intro p hp
    match p, hp with
    | 0, _ =>
      refine ⟨?_, ?_, ?_, ?_, ?_, ?_, ?_, trivial⟩ <;> intro a1 wx hv hf hd
      · exact ⟨wanted_none rfl, loc_move rfl (hf.base 11 rfl)⟩
      · exact ⟨wanted_none rfl, loc_move rfl (hf.base 0 rfl)⟩
      · exact ⟨wanted_none rfl, loc_move rfl (hf.base 1 rfl)⟩
      · exact ⟨wanted_none rfl, loc_move rfl (hf.base 9 rfl)⟩
      · exact ⟨wanted_none rfl, loc_uptoH rfl (hd 2 rfl) (hd 3 rfl) hn hnc rfl⟩
      · exact ⟨wanted_none rfl, loc_fieldLm rfl (hf.base 5 rfl) (by decide) rfl⟩
      · exact ⟨wanted_none rfl, loc_cell rfl (hd 5 rfl) (by rw [cell_of_row _ _ _ _ _ _ (HL2.out.keep hv)]; rfl) (agg_int _) rfl⟩
    | 1, _ =>
      refine ⟨?_, ?_, ?_, ?_, ?_, trivial⟩ <;> intro a1 wx hv hf hd
      · exact ⟨wanted_none rfl, loc_move rfl (hd 7 rfl)⟩
      · exact ⟨wanted_none rfl, loc_extractK0 rfl (hd 8 rfl) rfl⟩
      · exact ⟨wanted_none rfl, loc_extractK1 rfl (hd 8 rfl) rfl⟩
      · exact ⟨wanted_none rfl, loc_assign rfl (hd 9 rfl)⟩
      · exact ⟨wanted_none rfl, loc_assign rfl (hd 10 rfl)⟩
  · intro p hp
    match p, hp with
    | 0, _ =>
      intro a2 wx hv hf hd
      have e1 : a2.eval (.tmp 33) = .pointer (some ⟨g, 0, none⟩) := hd 1 rfl
      have e2 : a2.eval (.tmp 36) = .slice ba n bc := hd 4 rfl
      have e3 : a2.eval (.tmp 38) = .int .i64 body := hd 6 rfl
      refine ⟨wanted_none rfl, wp_callV rfl (hd 0 rfl) (by kernel_rfl) (by show Calls _ _ #[a2.eval (.tmp 33), a2.eval (.tmp 36), a2.eval (.tmp 38)] _ _; rw [e1, e2, e3]; exact HC.out wx (below_trans HB2.out hv)) ?_⟩
      rintro e w' ⟨rfl, h1, h2⟩
      exact ⟨_, rfl, _, rfl, ⟨wx, hv, h1, h2⟩, rfl, ⟨.inr fun _ _ _ => trivial, .inr fun _ _ _ => trivial, .inr fun _ _ _ => trivial, .inr fun _ _ _ => trivial, .inr fun _ _ _ => trivial, .inr fun _ _ _ => trivial, .inr fun _ _ _ => trivial, .inl rfl, .inr fun _ _ h => h.elim, .inr fun _ _ h => h.elim, .inr fun _ _ h => h.elim, .inr fun _ _ h => h.elim, .inr fun _ _ h => h.elim, trivial⟩⟩
  · intro a2 w3 hv hf hh
    have e12 : a2.eval (.tmp 12) = .int .i64 kd := hh 11 (by decide)
    have e10 : a2.eval (.tmp 10) = .int .i64 er := hh 12 (by decide)
    clear hh
    rw [fr_putAll hf]
    clear hf
    simp only [putAll, e12, e10]
    generalize a2.eval (.tmp 32) = u32
    generalize a2.eval (.tmp 33) = u33
    generalize a2.eval (.tmp 34) = u34
    generalize a2.eval (.tmp 35) = u35
    generalize a2.eval (.tmp 36) = u36
    generalize a2.eval (.tmp 37) = u37
    generalize a2.eval (.tmp 38) = u38
    generalize a2.eval (.tmp 39) = u39
    generalize a2.eval (.tmp 31) = u31
    generalize a2.eval (.tmp 40) = u40
    generalize a2.eval (.tmp 41) = u41
    clear e12 e10 a2
    simp only [Act.put, List.setIfInBounds_toArray, List.set_cons_succ, List.set_cons_zero]
    refine hKK _ _ ?_
    clear hKK
    obtain ⟨W, h1, h2, h3⟩ := hv
    have hww := h1.size
    have HPN := Box.mk (show PVr w3 (w.heap.size + 1) #[.int .i64 0, .slice none 0 0] from (h2.block _ (by omega) (fun e => by injection e with e; omega)).trans (by rw [h1.block _ hlw2]; exact HO2.out))
    have HH := Box.mk (And.intro h1 (And.intro h2 h3))
    clear h1 h2 h3 hm02
    go_wp2_with (refine wpList_store_row rfl 41 _ _ rfl (w.heap.size + 1) #[.int .i64 kd, .slice none 0 0] rfl rfl 41 _ HPN.out sizePt rfl (onePt ..) ?_)
    (try simp only [Exit.inBlock, Exit.then])
    refine bodyPost_ret (results_rtt rfl _ _ (w.heap.size + 1) 41 #[.int .i64 kd, .slice none 0 0] (0, 0) _ rfl (setRow_heap _ _ _ _ _ _ HPN.out) Tryz.underlying41 rfl sizePt) rfl ?_
    have hb1 := below_trans HB2.out HH.out.1
    exact ⟨rfl, grownBy_own (grownBy_trans (grownBy_of hb1 _) HH.out.2.1) (by omega) _, W, hb1, HX.out _ _ _ HH.out.2.2 fun k hk hkg => setRow_other _ _ _ _ (by rcases hkg with h | h <;> omega)⟩
set_option maxRecDepth 100000 in
set_option maxHeartbeats 2000000 in
theorem mHead_rep (b : List UInt8) (most body room : Int) (ba : Option Addr) (bc : Nat) (g : Nat) (cs : Array Value) (w : World) (mm : Int) (hb : IsBytes w ba b bc) (hl : b.length ≤ 1000000) (hm : MVr w g cs) (hok : HdOk w mm) (n : Nat) (hE : endS b most = ((n : Int), 0)) (h4 : 4 ≤ n) (hn : n ≤ b.length) (hrep : cs[0]? = some (.bool true)) (kd er : Int) (X : World → World → Prop)
    (hC : ∀ W, Below w.heap.size w W → Calls Tryz.prog 82 #[.pointer (some ⟨g, 0, none⟩), .slice ba n bc, .int .i64 body] W fun e w' => e = .returned (.tuple #[.int .i64 kd, .int .i64 er]) ∧ W.grownBy w' (some g) ∧ X W w')
    (hX : ∀ W w1 w2, X W w1 → (∀ k, k < w1.heap.size → k = g ∨ W.heap.size ≤ k → w2.heap[k]? = w1.heap[k]?) → X W w2) :
    Calls Tryz.prog 57 #[.pointer (some ⟨g, 0, none⟩), .slice ba b.length bc, .agg #[.int .i64 most, .int .i64 body, .int .i64 room]] w fun e w' => e = .returned (.tuple #[.agg #[.int .i64 kd, .slice none 0 0], .int .i64 (n : Int), .int .i64 er]) ∧ w.grownBy w' (some g) ∧ ∃ W, Below w.heap.size w W ∧ X W w' := by
  have HREP := Box.mk hrep
  have hnc : b.length ≤ bc := isBytes_cap hb
  clear hrep
  obtain ⟨W1, hW1⟩ : ∃ W1, W1 = (w.alloc (.cells #[.int .i64 most, .int .i64 body, .int .i64 room] 81)).alloc (.cells #[.int .i64 0, .slice none 0 0] 41) := ⟨_, rfl⟩
  have HB1 := Box.mk (show Below w.heap.size w W1 by rw [hW1]; exact below_twoF (below_oneF _ _) _)
  have HL1 := Box.mk (show LVr W1 w.heap.size most body room by rw [hW1]; exact LVr.keep (heap_alloc_new w (.cells #[.int .i64 most, .int .i64 body, .int .i64 room] 81)) (below_oneF _ _))
  have HO := Box.mk (show PVr W1 (w.heap.size + 1) #[.int .i64 0, .slice none 0 0] by
    have h := heap_alloc_new (w.alloc (.cells #[.int .i64 most, .int .i64 body, .int .i64 room] 81)) (.cells #[.int .i64 0, .slice none 0 0] 41)
    rw [World.size_alloc] at h
    rw [hW1]; exact h)
  have HW1 := Box.mk hW1
  have HM1 := Box.mk (hm.keep HB1.out)
  have hlt := hm.lt
  have hlw : w.heap.size + 1 < W1.heap.size := (Array.getElem?_eq_some_iff.1 HO.out).1
  have hl0 : W1.cell? ⟨w.heap.size, 0, none⟩ = some (.int .i64 most) := by rw [cell_of_row _ _ _ _ _ _ HL1.out]; rfl
  have HBB := Box.mk (hb.keep HB1.out)
  have HCALL := Box.mk (projEnd_any b ba bc most mm W1 HBB.out (by omega) (hok.keep HB1.out))
  rw [hE] at HCALL
  clear hW1 hm hb hE hok
  have HC := Box.mk hC
  have HX := Box.mk hX
  clear hC hX
  go_enter Tryz.func57, Tryz.ntmps57
  go_wp2_with fail
  rw [← HW1.out]
  refine HCALL.out.mono ?_
  rintro e w2 ⟨rfl, hb2⟩
  have HO2 := Box.mk (HO.out.keep hb2)
  have HL2 := Box.mk (HL1.out.keep hb2)
  have HB2 := Box.mk (below_trans HB1.out hb2)
  have hlw2 : w.heap.size + 1 < w2.heap.size := Nat.lt_of_lt_of_le hlw hb2.size
  have hm02 : w2.cell? ⟨g, 0, none⟩ = some (.bool true) := by rw [(HM1.out.keep hb2).cell]; exact HREP.out
  clear HW1 HCALL hb2 HO HL1 HB1 hlw hl0 HREP
  go_wp2_with fail
  rename_i KK hKK
  refine wp_region_phases [7] (fun p => match p with | 0 => [0, 1, 2, 3, 4, 5, 6] | _ => [8, 9, 10, 11, 12])
    (fun p => match p with | 0 => [.val (.func (.func 82) #[] #[]), .val (.pointer (some ⟨g, 0, none⟩)), .val (.slice ba b.length bc), .val (.int .i64 (n : Int)), .val (.slice ba n bc), .val (.pointer (some ⟨w.heap.size, 1, none⟩)), .val (.int .i64 body), .any, .nope, .nope, .nope, .nope, .nope] | _ => [.any, .any, .any, .any, .any, .any, .any, .val (.tuple #[.int .i64 kd, .int .i64 er]), .val (.tuple #[.int .i64 kd, .int .i64 er]), .val (.int .i64 kd), .val (.int .i64 er), .val (.int .i64 kd), .val (.int .i64 er)])
    (fun p => match p with | 0 => fun wx => Below w2.heap.size w2 wx | _ => fun wx => ∃ W, Below w2.heap.size w2 W ∧ W.grownBy wx (some g) ∧ X W wx)
    (by kernel_rfl) (by kernel_rfl) (by kernel_rfl) (by kernel_rfl) (by kernel_rfl) (by kernel_rfl) ?_ (Below.refl _ _) ?_ ?_ ?_
  · intro p wa wb h hb
    match p, h with
    | 0, h => exact below_trans h hb
    | (_ + 1), ⟨W, h1, h2, h3⟩ => exact ⟨W, h1, grownBy_trans h2 (grownBy_of hb _), HX.out _ _ _ h3 fun k hk _ => hb.block k hk⟩
  · intro p hp
    match p, hp with
    | 0, _ =>
      refine ⟨?_, ?_, ?_, ?_, ?_, ?_, ?_, trivial⟩ <;> intro a1 wx hv hf hd
      · exact ⟨wanted_none rfl, loc_move rfl (hf.base 11 rfl)⟩
      · exact ⟨wanted_none rfl, loc_move rfl (hf.base 0 rfl)⟩
      · exact ⟨wanted_none rfl, loc_move rfl (hf.base 1 rfl)⟩
      · exact ⟨wanted_none rfl, loc_move rfl (hf.base 9 rfl)⟩
      · exact ⟨wanted_none rfl, loc_uptoH rfl (hd 2 rfl) (hd 3 rfl) hn hnc rfl⟩
      · exact ⟨wanted_none rfl, loc_fieldLm rfl (hf.base 5 rfl) (by decide) rfl⟩
      · exact ⟨wanted_none rfl, loc_cell rfl (hd 5 rfl) (by rw [cell_of_row _ _ _ _ _ _ (HL2.out.keep hv)]; rfl) (agg_int _) rfl⟩
    | 1, _ =>
      refine ⟨?_, ?_, ?_, ?_, ?_, trivial⟩ <;> intro a1 wx hv hf hd
      · exact ⟨wanted_none rfl, loc_move rfl (hd 7 rfl)⟩
      · exact ⟨wanted_none rfl, loc_extractK0 rfl (hd 8 rfl) rfl⟩
      · exact ⟨wanted_none rfl, loc_extractK1 rfl (hd 8 rfl) rfl⟩
      · exact ⟨wanted_none rfl, loc_assign rfl (hd 9 rfl)⟩
      · exact ⟨wanted_none rfl, loc_assign rfl (hd 10 rfl)⟩
  · intro p hp
    match p, hp with
    | 0, _ =>
      intro a2 wx hv hf hd
      have e1 : a2.eval (.tmp 33) = .pointer (some ⟨g, 0, none⟩) := hd 1 rfl
      have e2 : a2.eval (.tmp 36) = .slice ba n bc := hd 4 rfl
      have e3 : a2.eval (.tmp 38) = .int .i64 body := hd 6 rfl
      refine ⟨wanted_none rfl, wp_callV rfl (hd 0 rfl) (by kernel_rfl) (by show Calls _ _ #[a2.eval (.tmp 33), a2.eval (.tmp 36), a2.eval (.tmp 38)] _ _; rw [e1, e2, e3]; exact HC.out wx (below_trans HB2.out hv)) ?_⟩
      rintro e w' ⟨rfl, h1, h2⟩
      exact ⟨_, rfl, _, rfl, ⟨wx, hv, h1, h2⟩, rfl, ⟨.inr fun _ _ _ => trivial, .inr fun _ _ _ => trivial, .inr fun _ _ _ => trivial, .inr fun _ _ _ => trivial, .inr fun _ _ _ => trivial, .inr fun _ _ _ => trivial, .inr fun _ _ _ => trivial, .inl rfl, .inr fun _ _ h => h.elim, .inr fun _ _ h => h.elim, .inr fun _ _ h => h.elim, .inr fun _ _ h => h.elim, .inr fun _ _ h => h.elim, trivial⟩⟩
  · intro a2 w3 hv hf hh
    have e12 : a2.eval (.tmp 12) = .int .i64 kd := hh 11 (by decide)
    have e10 : a2.eval (.tmp 10) = .int .i64 er := hh 12 (by decide)
    clear hh
    rw [fr_putAll hf]
    clear hf
    simp only [putAll, e12, e10]
    generalize a2.eval (.tmp 32) = u32
    generalize a2.eval (.tmp 33) = u33
    generalize a2.eval (.tmp 34) = u34
    generalize a2.eval (.tmp 35) = u35
    generalize a2.eval (.tmp 36) = u36
    generalize a2.eval (.tmp 37) = u37
    generalize a2.eval (.tmp 38) = u38
    generalize a2.eval (.tmp 39) = u39
    generalize a2.eval (.tmp 31) = u31
    generalize a2.eval (.tmp 40) = u40
    generalize a2.eval (.tmp 41) = u41
    clear e12 e10 a2
    simp only [Act.put, List.setIfInBounds_toArray, List.set_cons_succ, List.set_cons_zero]
    refine hKK _ _ ?_
    clear hKK
    obtain ⟨W, h1, h2, h3⟩ := hv
    have hww := h1.size
    have HPN := Box.mk (show PVr w3 (w.heap.size + 1) #[.int .i64 0, .slice none 0 0] from (h2.block _ (by omega) (fun e => by injection e with e; omega)).trans (by rw [h1.block _ hlw2]; exact HO2.out))
    have HH := Box.mk (And.intro h1 (And.intro h2 h3))
    clear h1 h2 h3 hm02
    go_wp2_with (refine wpList_store_row rfl 41 _ _ rfl (w.heap.size + 1) #[.int .i64 kd, .slice none 0 0] rfl rfl 41 _ HPN.out sizePt rfl (onePt ..) ?_)
    (try simp only [Exit.inBlock, Exit.then])
    refine bodyPost_ret (results_rtt rfl _ _ (w.heap.size + 1) 41 #[.int .i64 kd, .slice none 0 0] (0, 0) _ rfl (setRow_heap _ _ _ _ _ _ HPN.out) Tryz.underlying41 rfl sizePt) rfl ?_
    have hb1 := below_trans HB2.out HH.out.1
    exact ⟨rfl, grownBy_own (grownBy_trans (grownBy_of hb1 _) HH.out.2.1) (by omega) _, W, hb1, HX.out _ _ _ HH.out.2.2 fun k hk hkg => setRow_other _ _ _ _ (by rcases hkg with h | h <;> omega)⟩
end Go.Proofs.YteoadfckcilalaaGreatDoor
namespace Go.Proofs.YteoadfckcilalaaGreatDoor
open Go.RowKit

set_option linter.unusedVariables false
/-- A status line that is in order has a status of three digits. -/
theorem headA_st (h : List UInt8) : (headA h).1 = 0 → 100 ≤ (headA h).2.1 := by
  unfold headA
  split
  · rename_i l0 ls hL
    cases hp : parseA l0 with
    | none => intro h; cases h
    | some f =>
      simp only
      split
      · intro _
        unfold parseA at hp
        split at hp
        · rename_i hc
          obtain rfl := Option.some.inj hp
          exact hc.2.2.2.2.2.1
        · cases hp
      · rename_i hf
        intro h; exact absurd h hf
  · intro h; cases h
theorem nineX {ef : Int} (hz : ¬ ef = 0) : ¬ (if ef = 3 then (9 : Int) else ef) = 0 := by
  split
  · decide
  · exact hz
theorem retM_err {P : Nat → Prop} {w w' : World} {g : Nat} {x : NX} {e : Ending} {k n er : Int} (hx : x.er = er) (h0 : ¬ er = 0) (he : e = .returned (.tuple #[.agg #[.int .i64 k, .slice none 0 0], .int .i64 n, .int .i64 er])) (hg : w.grownBy w' (some g)) : RetM P w g x e w' :=
  .inr ⟨by rw [hx]; exact h0, k, n, by rw [hx]; exact he, hg⟩
/-- What a head leaves in memory: the message's variable, the new fields. -/
def XReq (g : Nat) (s : RS) (fa ga : Option Addr) (fc gc : Nat) (m t : ByteArray) (z : Int) (xs : List Fld) (k l : Int) (W w' : World) : Prop :=
  ∃ f2 c2, (∀ fr, fr = !decide (k = 1) → MVr w' g #[.bool s.rep, .string s.meth, .int .i64 1, .string m, .string t, .int .i64 z, .slice f2 (List.length xs) c2, .bool fr, .slice none 0 0, .int .i64 s.st, .string s.rs, .int .i64 s.z2, .slice ga (List.length s.ys) gc, .slice none 0 0, .int .i64 k, .int .i64 l, .int .i64 l, .int .i64 0, .int .i64 0, .int .i64 0, .int .i64 0, .slice none (List.length ([] : List UInt8)) 0]) ∧ FldsIn w' f2 xs ∧ ∀ y, f2 = some y → xs ≠ [] → W.heap.size ≤ y.block
def XRep (g : Nat) (s : RS) (fa : Option Addr) (fc : Nat) (st : Int) (rs : ByteArray) (z2 : Int) (ys : List Fld) (k l : Int) (W w' : World) : Prop :=
  ∃ f2 c2, MVr w' g #[.bool s.rep, .string s.meth, .int .i64 1, .string s.m, .string s.t, .int .i64 s.z, .slice fa (List.length s.xs) fc, .bool s.fr, .slice none 0 0, .int .i64 st, .string rs, .int .i64 z2, .slice f2 (List.length ys) c2, .slice none 0 0, .int .i64 k, .int .i64 l, .int .i64 l, .int .i64 0, .int .i64 0, .int .i64 0, .int .i64 0, .slice none (List.length ([] : List UInt8)) 0] ∧ FldsIn w' f2 ys ∧ ∀ y, f2 = some y → ys ≠ [] → W.heap.size ≤ y.block
theorem XReq.same {g : Nat} {s : RS} {fa ga : Option Addr} {fc gc : Nat} {m t : ByteArray} {z : Int} {xs : List Fld} {k l : Int} (W w1 w2 : World) (h : XReq g s fa ga fc gc m t z xs k l W w1) (hb : ∀ q, q < w1.heap.size → q = g ∨ W.heap.size ≤ q → w2.heap[q]? = w1.heap[q]?) : XReq g s fa ga fc gc m t z xs k l W w2 := by
  obtain ⟨f2, c2, h1, h2, h3⟩ := h
  exact ⟨f2, c2, fun fr hf => (hb g (h1 fr hf).lt (.inl rfl)).trans (h1 fr hf), sameNe h2 fun y e hx => hb _ (h2.old e hx) (.inr (h3 y e hx)), h3⟩
theorem XRep.same {g : Nat} {s : RS} {fa : Option Addr} {fc : Nat} {st : Int} {rs : ByteArray} {z2 : Int} {ys : List Fld} {k l : Int} (W w1 w2 : World) (h : XRep g s fa fc st rs z2 ys k l W w1) (hb : ∀ q, q < w1.heap.size → q = g ∨ W.heap.size ≤ q → w2.heap[q]? = w1.heap[q]?) : XRep g s fa fc st rs z2 ys k l W w2 := by
  obtain ⟨f2, c2, h1, h2, h3⟩ := h
  exact ⟨f2, c2, (hb g h1.lt (.inl rfl)).trans h1, sameNe h2 fun y e hx => hb _ (h2.old e hx) (.inr (h3 y e hx)), h3⟩
/-- The error of a frame, said in one. -/
theorem frame_err (k l ef body : Int) (h : ¬ ef = 0 → k = 0) : (if ef = 3 ∨ k = 2 ∧ body < l then 9 else ef) = if ef ≠ 0 then (if ef = 3 then 9 else ef) else if k = 2 ∧ body < l then 9 else 0 := by
  by_cases h0 : ef = 0
  · subst h0
    simp
  · have hk := h h0
    subst hk
    simp [h0]
set_option maxRecDepth 100000 in
set_option maxHeartbeats 2000000 in
theorem mHead_any (P : Nat → Prop) (s : RS) (b : List UInt8) (most body room : Int) (ba : Option Addr) (bc : Nat) (fa ga la : Option Addr) (fc gc lc : Nat) (g : Nat) (mm : Int) (w : World) (hb : IsBytes w ba b bc) (hl : b.length ≤ 1000000) (hm : MVr w g #[.bool s.rep, .string s.meth, .int .i64 s.ph, .string s.m, .string s.t, .int .i64 s.z, .slice fa (List.length s.xs) fc, .bool s.fr, .slice none 0 0, .int .i64 s.st, .string s.rs, .int .i64 s.z2, .slice ga (List.length s.ys) gc, .slice none 0 0, .int .i64 s.fk, .int .i64 s.fl, .int .i64 s.left, .int .i64 s.size, .int .i64 s.ck.ph, .int .i64 s.ck.left, .int .i64 s.ck.tr, .slice la (List.length s.ck.line) lc]) (hr : RMem P w s fa ga la lc) (hlf : ∀ y, la = some y → s.ck.line ≠ [] → P y.block) (hok : HdOk w mm) (hP : ∀ k, w.heap.size ≤ k → P k) (hPg : ∀ k, P k → k ≠ g) (hs : OkN body s) :
    Calls Tryz.prog 57 #[.pointer (some ⟨g, 0, none⟩), .slice ba b.length bc, .agg #[.int .i64 most, .int .i64 body, .int .i64 room]] w (RetM P w g (firstX s b most body)) := by
  rcases endS_cases b most with h | h | ⟨n, hE, h4, hn⟩
  · have e : firstX s b most body = ⟨0, s, 0, [], 0⟩ := by unfold firstX; rw [if_pos (by rw [h])]
    rw [e]
    refine (mHead_more b most body room ba bc g _ w mm hb hl hm hok h).mono ?_
    rintro e w' ⟨he, hbb⟩
    exact .inl ⟨rfl, fa, fc, ga, gc, la, lc, none, 0, he, hm.keep hbb, hr.keep hbb, hlf, .inl ⟨rfl, rfl, rfl⟩, grownBy_of hbb _⟩
  · have e : firstX s b most body = errX 3 := by
      unfold firstX
      rw [if_neg (by rw [h]; show ¬ (3 : Int) = 4; decide), if_pos (by rw [h]; show (3 : Int) ≠ 0; decide), h]
    rw [e]
    refine (mHead_lim b most body room ba bc g _ w mm hb hl hm hok h).mono ?_
    rintro e w' ⟨he, hbb⟩
    exact retM_err rfl (by decide) he (grownBy_of hbb _)
  · have e : firstX s b most body = headX s (b.take n) body := by
      unfold firstX
      rw [if_neg (by rw [hE]; show ¬ (0 : Int) = 4; decide), if_neg (by rw [hE]; exact fun h => h rfl), hE]
      show headX s (b.take (Int.toNat (n : Int))) body = _
      rw [Int.toNat_natCast]
    have hln : (b.take n).length = n := by rw [List.length_take]; omega
    have hl2 : (b.take n).length ≤ 1000000 := by omega
    rw [e]
    clear e
    unfold headX
    by_cases hrep : s.rep = true
    · rw [if_pos hrep, hln]
      have hsm := headA_sm hl2
      have hst := headA_st (b.take n)
      have hA : headA (b.take n) = ((headA (b.take n)).1, (headA (b.take n)).2.1, (headA (b.take n)).2.2.1, (headA (b.take n)).2.2.2.1, (headA (b.take n)).2.2.2.2) := rfl
      generalize (headA (b.take n)).1 = er at *
      generalize (headA (b.take n)).2.1 = st at *
      generalize (headA (b.take n)).2.2.1 = rs at *
      generalize (headA (b.take n)).2.2.2.1 = z2 at *
      generalize (headA (b.take n)).2.2.2.2 = ys at *
      have hrow : (#[.bool s.rep, .string s.meth, .int .i64 s.ph, .string s.m, .string s.t, .int .i64 s.z, .slice fa (List.length s.xs) fc, .bool s.fr, .slice none 0 0, .int .i64 s.st, .string s.rs, .int .i64 s.z2, .slice ga (List.length s.ys) gc, .slice none 0 0, .int .i64 s.fk, .int .i64 s.fl, .int .i64 s.left, .int .i64 s.size, .int .i64 s.ck.ph, .int .i64 s.ck.left, .int .i64 s.ck.tr, .slice la (List.length s.ck.line) lc] : Array Value)[0]? = some (.bool true) := by rw [← hrep]; rfl
      by_cases h0 : er = 0
      · subst h0
        have hst := hst rfl
        rw [if_neg (fun h => h rfl)]
        by_cases h1 : st = 101
        · rw [if_pos h1]
          refine (mHead_rep b most body room ba bc g _ w mm hb hl hm hok n hE h4 hn hrow 0 2 (fun _ _ => True) (fun W hW => ?_) (fun _ _ _ _ _ => trivial)).mono ?_
          · have hc := startRep_101 s (b.take n) body ba bc fa ga la fc gc lc g mm W (isBytes_takeR (hb.keep hW) n) hl2 (hm.keep hW) (hok.keep hW) st rs z2 ys hA h1
            rw [hln] at hc
            exact hc.mono fun e w' ⟨he, hbb⟩ => ⟨he, grownBy_of hbb _, trivial⟩
          · rintro e w' ⟨he, hg, _⟩
            exact retM_err rfl (by decide) he hg
        · rw [if_neg h1]
          by_cases h2 : 100 ≤ st ∧ st ≤ 199
          · rw [if_pos h2]
            refine (mHead_rep b most body room ba bc g _ w mm hb hl hm hok n hE h4 hn hrow 4 0 (fun W w' => MVr w' g #[.bool s.rep, .string s.meth, .int .i64 s.ph, .string s.m, .string s.t, .int .i64 s.z, .slice fa (List.length s.xs) fc, .bool s.fr, .slice none 0 0, .int .i64 s.st, .string s.rs, .int .i64 s.z2, .slice ga (List.length s.ys) gc, .slice none 0 0, .int .i64 s.fk, .int .i64 s.fl, .int .i64 s.left, .int .i64 s.size, .int .i64 s.ck.ph, .int .i64 s.ck.left, .int .i64 s.ck.tr, .slice la (List.length s.ck.line) lc]) (fun W hW => ?_) (fun W w1 w2 h hq => (hq g h.lt (.inl rfl)).trans h)).mono ?_
            · have hc := startRep_int s (b.take n) body ba bc fa ga la fc gc lc g mm W (isBytes_takeR (hb.keep hW) n) hl2 (hm.keep hW) (hok.keep hW) st rs z2 ys hA h1 h2.2
              rw [hln] at hc
              exact hc.mono fun e w' ⟨he, hbb⟩ => ⟨he, grownBy_of hbb _, (hm.keep hW).keep hbb⟩
            · rintro e w' ⟨he, hg, W, hW, hx⟩
              exact .inl ⟨rfl, fa, fc, ga, gc, la, lc, none, 0, he, hx, hr.grown hg hPg hm (noU8_22 rfl), hlf, .inl ⟨rfl, rfl, rfl⟩, hg⟩
          · rw [if_neg h2]
            have hrg := replyS_range s.meth st z2 ys
            have hF : replyS s.meth st z2 ys = ((replyS s.meth st z2 ys).1, (replyS s.meth st z2 ys).2.1, (replyS s.meth st z2 ys).2.2) := rfl
            unfold finX
            generalize (replyS s.meth st z2 ys).1 = k at *
            generalize (replyS s.meth st z2 ys).2.1 = l at *
            generalize (replyS s.meth st z2 ys).2.2 = ef at *
            have hfe := frame_err k l ef body (fun h => by rcases hrg with h1 | h1 <;> omega)
            refine (mHead_rep b most body room ba bc g _ w mm hb hl hm hok n hE h4 hn hrow 1 (if ef = 3 ∨ k = 2 ∧ body < l then 9 else ef) (XRep g s fa fc st rs z2 ys k l) (fun W hW => ?_) XRep.same).mono ?_
            · have hc := startRep_ok s (b.take n) body ba bc fa ga la fc gc lc g mm W (isBytes_takeR (hb.keep hW) n) hl2 (hm.keep hW) (hok.keep hW) st rs z2 ys hA (by omega) hsm k l ef hF _ rfl
              rw [hln] at hc
              exact hc.mono fun e w' ⟨f2, c2, he, h1, h2, h3, h4⟩ => ⟨he, h4, f2, c2, h1, h2, h3⟩
            · rintro e w' ⟨he, hg, W, hW, f2, c2, hx1, hx2, hx3⟩
              rw [hfe] at he
              by_cases hz : ef = 0
              · rw [if_neg (fun h => h hz)] at he ⊢
                by_cases hk : k = 2 ∧ body < l
                · rw [if_pos hk] at he ⊢
                  exact retM_err rfl (by decide) he hg
                · rw [if_neg hk] at he ⊢
                  exact .inl ⟨rfl, fa, fc, f2, c2, none, 0, none, 0, he, hx1, ⟨hr.f1.grownR hg fun y e hx => hPg _ (hr.n1 y e hx), hx2, .inl ⟨rfl, rfl, rfl⟩, hr.n1, fun y e hx => hP _ (Nat.le_trans hW.size (hx3 y e hx))⟩, (fun y e _ => by cases e), .inl ⟨rfl, rfl, rfl⟩, hg⟩
              · rw [if_pos hz] at he ⊢
                exact retM_err rfl (nineX hz) he hg
      · rw [if_pos h0]
        refine (mHead_rep b most body room ba bc g _ w mm hb hl hm hok n hE h4 hn hrow 0 er (fun _ _ => True) (fun W hW => ?_) (fun _ _ _ _ _ => trivial)).mono ?_
        · have hc := startRep_err s (b.take n) body ba bc fa ga la fc gc lc g mm W (isBytes_takeR (hb.keep hW) n) hl2 (hm.keep hW) (hok.keep hW) er st rs z2 ys hA h0
          rw [hln] at hc
          exact hc.mono fun e w' ⟨he, hbb⟩ => ⟨he, grownBy_of hbb _, trivial⟩
        · rintro e w' ⟨he, hg, _⟩
          exact retM_err rfl h0 he hg
    · have hrep : s.rep = false := by cases h : s.rep with
        | true => exact absurd h hrep
        | false => rfl
      rw [if_neg (by rw [hrep]; decide), hln]
      have hsm := headR_sm hl2
      have hA : headR (b.take n) = ((headR (b.take n)).1, (headR (b.take n)).2.1, (headR (b.take n)).2.2.1, (headR (b.take n)).2.2.2.1, (headR (b.take n)).2.2.2.2) := rfl
      generalize (headR (b.take n)).1 = er at *
      generalize (headR (b.take n)).2.1 = m at *
      generalize (headR (b.take n)).2.2.1 = t at *
      generalize (headR (b.take n)).2.2.2.1 = z at *
      generalize (headR (b.take n)).2.2.2.2 = xs at *
      have hrow : (#[.bool s.rep, .string s.meth, .int .i64 s.ph, .string s.m, .string s.t, .int .i64 s.z, .slice fa (List.length s.xs) fc, .bool s.fr, .slice none 0 0, .int .i64 s.st, .string s.rs, .int .i64 s.z2, .slice ga (List.length s.ys) gc, .slice none 0 0, .int .i64 s.fk, .int .i64 s.fl, .int .i64 s.left, .int .i64 s.size, .int .i64 s.ck.ph, .int .i64 s.ck.left, .int .i64 s.ck.tr, .slice la (List.length s.ck.line) lc] : Array Value)[0]? = some (.bool false) := by rw [← hrep]; rfl
      by_cases h0 : er = 0
      · subst h0
        rw [if_neg (fun h => h rfl)]
        have hrg := frameS_range z xs 1
        have hF : frameS z xs 1 = ((frameS z xs 1).1, (frameS z xs 1).2.1, (frameS z xs 1).2.2) := rfl
        unfold finX
        generalize (frameS z xs 1).1 = k at *
        generalize (frameS z xs 1).2.1 = l at *
        generalize (frameS z xs 1).2.2 = ef at *
        have hfe := frame_err k l ef body (fun h => by rcases hrg with h1 | h1 <;> omega)
        refine (mHead_req b most body room ba bc g _ w mm hb hl hm hok n hE h4 hn hrow 1 (if ef = 3 ∨ k = 2 ∧ body < l then 9 else ef) (XReq g s fa ga fc gc m t z xs k l) (fun W hW => ?_) XReq.same).mono ?_
        · have hc := startReq_ok s (b.take n) body ba bc fa ga la fc gc lc g mm W (isBytes_takeR (hb.keep hW) n) hl2 (hm.keep hW) (hok.keep hW) m t z xs hA hsm k l ef hF _ rfl
          rw [hln] at hc
          exact hc.mono fun e w' ⟨f2, c2, he, h1, h2, h3, h4⟩ => ⟨he, h4, f2, c2, h1, h2, h3⟩
        · rintro e w' ⟨he, hg, W, hW, f2, c2, hx1, hx2, hx3⟩
          rw [hfe] at he
          by_cases hz : ef = 0
          · rw [if_neg (fun h => h hz)] at he ⊢
            by_cases hk : k = 2 ∧ body < l
            · rw [if_pos hk] at he ⊢
              exact retM_err rfl (by decide) he hg
            · rw [if_neg hk] at he ⊢
              exact .inl ⟨rfl, f2, c2, ga, gc, none, 0, none, 0, he, hx1 _ rfl, ⟨hx2, hr.f2.grownR hg fun y e hx => hPg _ (hr.n2 y e hx), .inl ⟨rfl, rfl, rfl⟩, fun y e hx => hP _ (Nat.le_trans hW.size (hx3 y e hx)), hr.n2⟩, (fun y e _ => by cases e), .inl ⟨rfl, rfl, rfl⟩, hg⟩
          · rw [if_pos hz] at he ⊢
            exact retM_err rfl (nineX hz) he hg
      · rw [if_pos h0]
        refine (mHead_req b most body room ba bc g _ w mm hb hl hm hok n hE h4 hn hrow 0 er (fun _ _ => True) (fun W hW => ?_) (fun _ _ _ _ _ => trivial)).mono ?_
        · have hc := startReq_err s (b.take n) body ba bc fa ga la fc gc lc g mm W (isBytes_takeR (hb.keep hW) n) hl2 (hm.keep hW) (hok.keep hW) er m t z xs hA h0
          rw [hln] at hc
          exact hc.mono fun e w' ⟨he, hbb⟩ => ⟨he, grownBy_of hbb _, trivial⟩
        · rintro e w' ⟨he, hg, _⟩
          exact retM_err rfl h0 he hg
end Go.Proofs.YteoadfckcilalaaGreatDoor
namespace Go.Proofs.YteoadfckcilalaaGreatDoor
open Go.RowKit

theorem empty_y {y : ByteArray} (h : y.size = 0) : y.toList.isEmpty = true := by
  rw [ByteArray.toList_eq, List.isEmpty_iff, ← List.length_eq_zero_iff, Array.length_toList]; exact h
theorem full_y {y : ByteArray} (h : ¬ y.size = 0) : y.toList.isEmpty = false := by
  rw [← Bool.not_eq_true, ByteArray.toList_eq, List.isEmpty_iff, ← List.length_eq_zero_iff, Array.length_toList]; exact h
set_option maxHeartbeats 1000000 in
theorem leave_any (g : Nat) (p l t left np : Int) (v : Value) (w : World) (h : CVar w g p l t v) (hnp : (if left = 0 then 2 else p) = np) :
    Calls Tryz.prog 153 #[.pointer (some ⟨g, 0, none⟩), .int .i64 left] w fun e w' => e = .returned (.tuple #[]) ∧ CVar w' g np left t v ∧ w.grownBy w' (some g) := by
  obtain ⟨ha0, ha1, ha2, ha3⟩ := h.cells
  have hf1 := h.frozen (i := 1)
  have HC := Box.mk (h.setL (z := left))
  have hf0 := HC.out.frozen (i := 0)
  obtain ⟨hb0, hb1, hb2, hb3⟩ := HC.out.cells
  clear h
  by_cases hz : left = 0
  · have HZ := Box.mk (show np = 2 by rw [← hnp, if_pos hz])
    have ez : (left == 0) = true := by rw [hz]; rfl
    clear hz hnp
    go_enter Tryz.func153, Tryz.ntmps153
    go_wp2_with fail
    go_end0
    exact ⟨rfl, by rw [HZ.out]; exact HC.out.setP, grownBy_trans (grownBy_setC _ _ _ _) (grownBy_setC _ _ _ _)⟩
  · have HZ := Box.mk (show np = p by rw [← hnp, if_neg hz])
    have ez : (left == 0) = false := by rw [beq_eq_false_iff_ne]; exact hz
    clear hz hnp
    go_enter Tryz.func153, Tryz.ntmps153
    go_wp2_with fail
    go_end0
    exact ⟨rfl, by rw [HZ.out]; exact HC.out, grownBy_setC _ _ _ _⟩
set_option maxHeartbeats 1000000 in
theorem isExtension_any (s : ByteArray) (w : World) (hs : s.size ≤ maxLen) :
    Calls Tryz.prog 220 #[.string s] w fun e w' => e = .returned (.bool (visS s)) ∧ Below w.heap.size w w' := by
  have HS := Box.mk (And.intro hs (Nat.le_trans (trimBA_size s) hs))
  have HV := Box.mk (valS_trim s)
  clear hs
  go_enter Tryz.func220, Tryz.ntmps220
  go_wp2_with fail
  refine (trim_any s _ HS.out.1).mono ?_
  rintro e w1 ⟨rfl, hb1⟩
  generalize trimBA s = u at *
  have HB1 := Box.mk hb1
  clear hb1
  go_wp2_with fail
  refine (value_any u _ HS.out.2).mono ?_
  rintro e w2 ⟨he, hb2⟩
  rw [HV.out] at he
  subst he
  have HB2 := Box.mk (below_trans HB1.out hb2)
  clear hb2
  go_wp2_with fail
  go_ret
  exact ⟨rfl, HB2.out⟩
/-- What a check of a complete line returns, and what it leaves of the state. -/
def RetFin (w : World) (g : Nat) (r : Int × Chk) (e : Ending) (w' : World) : Prop :=
  e = .returned (.int .i64 r.1) ∧ (r.1 = 0 → CVar w' g r.2.ph r.2.left r.2.tr (.slice none 0 0) ∧ r.2.line = []) ∧ w.grownBy w' (some g)
theorem RetFin.err {w w' : World} {g : Nat} {r : Int × Chk} {e : Ending} {er : Int} (hr : r = (er, zeroC)) (he : e = .returned (.int .i64 er)) (h0 : ¬ er = 0) (hg : w.grownBy w' (some g)) : RetFin w g r e w' := by
  subst hr; exact ⟨he, fun h => absurd h h0, hg⟩
theorem RetFin.ok {w w' : World} {g : Nat} {r : Int × Chk} {e : Ending} {p l t : Int} (hr : r = (0, ⟨p, l, t, []⟩)) (he : e = .returned (.int .i64 0)) (hc : CVar w' g p l t (.slice none 0 0)) (hg : w.grownBy w' (some g)) : RetFin w g r e w' := by
  subst hr; exact ⟨he, fun _ => ⟨hc, rfl⟩, hg⟩
set_option maxRecDepth 100000 in
set_option maxHeartbeats 2000000 in
theorem startChunk_any (g : Nat) (y : ByteArray) (w : World) (h : CVar w g 0 0 0 (.slice none 0 0)) (hy : y.size ≤ 1000) :
    Calls Tryz.prog 201 #[.pointer (some ⟨g, 0, none⟩), .string y] w (RetFin w g (lineS ⟨0, 0, 0, []⟩ y)) := by
  obtain ⟨d, x, hdx⟩ : ∃ d x, cutS 59 y = (d, x) := ⟨_, _, rfl⟩
  obtain ⟨n, er, hp⟩ : ∃ n er, parseS 16 1000000000 d = (n, er) := ⟨_, _, rfl⟩
  have HD := Box.mk hdx
  have HPS := Box.mk hp
  have HDX := Box.mk (show d.size ≤ maxLen ∧ x.size ≤ maxLen from by
    have h1 := cutS_size1 59 y
    have h2 := cutS_size2 59 y
    rw [hdx] at h1 h2
    have h3 : d.size ≤ y.size := h1
    have h4 : x.size ≤ y.size := h2
    unfold maxLen
    omega)
  have HY := Box.mk (show y.size ≤ maxLen from by unfold maxLen; omega)
  have HL1 := Box.mk (fun (hv : visS x = false) => lineS_ext (l := 0) (t := 0) (y := y) (by rw [hdx]; exact hv))
  have HL2 := Box.mk (fun (hv : visS x = true) (h0 : ¬ er = 0) => lineS_err (l := 0) (t := 0) (n := n) (e := er) (y := y) (by rw [hdx]; exact hv) (by rw [hdx]; exact hp) h0)
  have HL3 := Box.mk (fun (hv : visS x = true) (h0 : er = 0) => lineS_ok (l := 0) (t := 0) (n := n) (y := y) (by rw [hdx]; exact hv) (by rw [hdx, ← h0]; exact hp))
  have HC := Box.mk h
  generalize lineS ⟨0, 0, 0, []⟩ y = R at *
  clear h hp hdx hy
  go_enter Tryz.func201, Tryz.ntmps201
  go_wp2_with fail
  refine (cutC_any 59 y _ HY.out).mono ?_
  rintro e w1 ⟨b, he, hb1⟩
  rw [HD.out] at he
  simp only [] at he
  subst he
  have HC1 := Box.mk (HC.out.keep hb1)
  have HG1 := Box.mk (grownBy_of hb1 (some g))
  clear hb1 HC
  go_wp2_with fail
  refine (isExtension_any x _ HDX.out.2).mono ?_
  rintro e w2 ⟨he, hb2⟩
  have HC2 := Box.mk (HC1.out.keep hb2)
  have HG2 := Box.mk (grownBy_trans HG1.out (grownBy_of hb2 (some g)))
  clear hb2 HC1 HG1
  by_cases hv : visS x = true
  · rw [hv] at he
    subst he
    have HV := Box.mk hv
    clear hv
    go_wp2_with fail
    refine (parseHex_any d 1000000000 _ HDX.out.1 (by decide) (by decide)).mono ?_
    rintro e w3 ⟨he, rfl⟩
    rw [HPS.out] at he
    simp only [] at he
    subst he
    by_cases h0 : er = 0
    · have HR := Box.mk (HL3.out HV.out h0)
      have e0 : (er != 0) = false := by rw [h0]; rfl
      clear h0 HL1 HL2 HL3 HPS
      obtain ⟨ha0, ha1, ha2, ha3⟩ := HC2.out.cells
      have hf0 := HC2.out.frozen (i := 0)
      by_cases hn : n = 0
      · have HR2 := Box.mk (show R = (0, ⟨3, 0, 0, []⟩) by rw [HR.out, if_pos hn, hn])
        have en : (n == 0) = true := by rw [hn]; rfl
        have HC3 := Box.mk (HC2.out.setP (z := 3))
        obtain ⟨hb0, hb1, hb2, hb3⟩ := HC3.out.cells
        have hf2 := HC3.out.frozen (i := 2)
        clear hn HR
        go_wp2_with fail
        go_ret
        exact RetFin.ok HR2.out rfl HC3.out.setT (grownBy_trans HG2.out (grownBy_trans (grownBy_setC _ _ _ _) (grownBy_setC _ _ _ _)))
      · have HR2 := Box.mk (show R = (0, ⟨1, n, 0, []⟩) by rw [HR.out, if_neg hn])
        have en : (n == 0) = false := by rw [beq_eq_false_iff_ne]; exact hn
        have HC3 := Box.mk (HC2.out.setP (z := 1))
        obtain ⟨hb0, hb1, hb2, hb3⟩ := HC3.out.cells
        have hf1 := HC3.out.frozen (i := 1)
        clear hn HR
        go_wp2_with fail
        go_ret
        exact RetFin.ok HR2.out rfl HC3.out.setL (grownBy_trans HG2.out (grownBy_trans (grownBy_setC _ _ _ _) (grownBy_setC _ _ _ _)))
    · have HR := Box.mk (HL2.out HV.out h0)
      have e0 : (er != 0) = true := by rw [bne_iff_ne]; exact h0
      have H0 := Box.mk h0
      clear h0 HL1 HL2 HL3 HPS
      go_wp2_with fail
      go_ret
      exact RetFin.err HR.out rfl H0.out HG2.out
  · have hv2 : visS x = false := by rw [← Bool.not_eq_true]; exact hv
    have HR := Box.mk (HL1.out hv2)
    rw [hv2] at he
    subst he
    clear hv hv2 HL1 HL2 HL3 HPS
    go_wp2_with fail
    go_ret
    exact RetFin.err HR.out rfl (by decide) HG2.out
set_option maxRecDepth 100000 in
set_option maxHeartbeats 2000000 in
theorem finishLine_any (p l t : Int) (g : Nat) (y : ByteArray) (w : World) (h : CVar w g p l t (.slice none 0 0)) (hp : p = 0 ∧ l = 0 ∧ t = 0 ∨ p = 2 ∨ p = 3) (hy : y.size ≤ 1000) :
    Calls Tryz.prog 177 #[.pointer (some ⟨g, 0, none⟩), .string y] w (RetFin w g (lineS ⟨p, l, t, []⟩ y)) := by
  rcases hp with ⟨rfl, rfl, rfl⟩ | rfl | rfl
  · have HC := Box.mk h
    obtain ⟨ha0, ha1, ha2, ha3⟩ := h.cells
    have HY := Box.mk hy
    generalize hR : lineS ⟨0, 0, 0, []⟩ y = R
    have HR := Box.mk hR
    clear h hy hR
    go_enter Tryz.func177, Tryz.ntmps177
    go_wp2_with fail
    refine (startChunk_any g y _ HC.out HY.out).mono ?_
    rintro e w1 ⟨he, h1, h2⟩
    rw [HR.out] at he h1
    subst he
    have H1 := Box.mk h1
    have H2 := Box.mk h2
    clear h1 h2
    go_wp2_with fail
    go_ret
    exact ⟨rfl, H1.out, H2.out⟩
  · obtain ⟨ha0, ha1, ha2, ha3⟩ := h.cells
    have hf0 := h.frozen (i := 0)
    have HC := Box.mk h
    clear h
    by_cases hz : y.size = 0
    · have HR := Box.mk (show lineS ⟨2, l, t, []⟩ y = (0, ⟨0, l, t, []⟩) by unfold lineS; simp [hz])
      have hye := empty_y hz
      generalize lineS ⟨2, l, t, []⟩ y = R at *
      clear hz hy
      go_enter Tryz.func177, Tryz.ntmps177
      go_wp2_with fail
      go_ret
      exact RetFin.ok HR.out rfl HC.out.setP (grownBy_setC _ _ _ _)
    · have HR := Box.mk (show lineS ⟨2, l, t, []⟩ y = (2, zeroC) by unfold lineS; simp [hz])
      have hye := full_y hz
      generalize lineS ⟨2, l, t, []⟩ y = R at *
      clear hz hy
      go_enter Tryz.func177, Tryz.ntmps177
      go_wp2_with fail
      go_ret
      exact RetFin.err HR.out rfl (by decide) (grownBy_of (Below.refl _ _) _)
  · obtain ⟨ha0, ha1, ha2, ha3⟩ := h.cells
    have hf0 := h.frozen (i := 0)
    have HC := Box.mk h
    clear h
    by_cases hz : y.size = 0
    · have HR := Box.mk (show lineS ⟨3, l, t, []⟩ y = (0, ⟨4, l, t, []⟩) by unfold lineS; simp [hz])
      have hye := empty_y hz
      generalize lineS ⟨3, l, t, []⟩ y = R at *
      clear hz hy
      go_enter Tryz.func177, Tryz.ntmps177
      go_wp2_with fail
      go_ret
      exact RetFin.ok HR.out rfl HC.out.setP (grownBy_setC _ _ _ _)
    · have HR1 := Box.mk (fun (hf : (parseF y).isSome = true) => show lineS ⟨3, l, t, []⟩ y = (0, ⟨3, l, t, []⟩) by unfold lineS; simp [hz, hf])
      have HR2 := Box.mk (fun (hf : ¬ (parseF y).isSome = true) => show lineS ⟨3, l, t, []⟩ y = (2, zeroC) by unfold lineS; simp [hz, hf])
      have hye := full_y hz
      have HY := Box.mk (show y.size ≤ maxLen from by unfold maxLen; omega)
      generalize lineS ⟨3, l, t, []⟩ y = R at *
      clear hz hy
      go_enter Tryz.func177, Tryz.ntmps177
      go_wp2_with fail
      refine (fParse_any y _ HY.out).mono ?_
      rintro e w1 ⟨he, hb1⟩
      have HC1 := Box.mk (HC.out.keep hb1)
      have HB1 := Box.mk hb1
      clear hb1
      rcases hq : parseF y with _ | ⟨fn, fv⟩
      · rw [hq] at he
        simp only [parseV] at he
        subst he
        have HR := Box.mk (HR2.out (by rw [hq]; simp))
        clear hq HR1 HR2
        go_wp2_with fail
        go_ret
        exact RetFin.err HR.out rfl (by decide) (grownBy_of (below_trans HB1.out (below_oneF _ _)) _)
      · rw [hq] at he
        simp only [parseV] at he
        subst he
        have HR := Box.mk (HR1.out (by rw [hq]; rfl))
        clear hq HR1 HR2
        go_wp2_with fail
        go_ret
        exact RetFin.ok HR.out rfl (HC1.out.keep (below_oneF _ _)) (grownBy_of (below_trans HB1.out (below_oneF _ _)) _)
end Go.Proofs.YteoadfckcilalaaGreatDoor
