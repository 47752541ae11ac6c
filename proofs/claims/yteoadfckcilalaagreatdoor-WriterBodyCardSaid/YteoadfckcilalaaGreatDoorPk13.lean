/- The law WriterWrite. Opening the arguments of the laws on fields. Opening a request and a reply among the arguments. Queues: Take. awake of the laws on readers. What follows the text (padding), and Sum. Sum and Of. The digest and the state in the reference. Interim replies are left out. The source of numbers of the laws, with its place: Next, Left, Bytes. The law ReaderInterim. The law ReaderRequest, walked. The law ReaderRequest: what the fields of a made request say of its body. The law ReaderRequest: its mathematics. What is read of messages that were written: plain mathematics. The law WriterRead. Writing messages: the laws' decimal and measured. -/
import Derived.Test.YteoadfckcilalaaGreatDoorPk1
import Derived.Test.YteoadfckcilalaaGreatDoorPk2
import Derived.Test.YteoadfckcilalaaGreatDoorPk3
import Derived.Test.YteoadfckcilalaaGreatDoorPk4
import Derived.Test.YteoadfckcilalaaGreatDoorPk5
import Derived.Test.YteoadfckcilalaaGreatDoorPk6
import Derived.Test.YteoadfckcilalaaGreatDoorPk7
import Derived.Test.YteoadfckcilalaaGreatDoorPk8
import Derived.Test.YteoadfckcilalaaGreatDoorPk9
import Derived.Test.YteoadfckcilalaaGreatDoorPk10
import Derived.Test.YteoadfckcilalaaGreatDoorPk11
import Derived.Test.YteoadfckcilalaaGreatDoorPk12
import Derived.Test.YteoadfckcilalaaGreatDoorRows
import Derived.WalkKit
import Derived.WalkSpells
import Derived.WalkLawsBesides
import Derived.BigQuiet
import Derived.Deep.QuietTactic
import Derived.Lib.Bytealg
import Derived.Lib.IndexLaws
import Derived.Lib.Hide
import Derived.Laws.IdiomStrings
import Derived.Lib.SlTrimSet
import Derived.Lib.IndexBytes
import Derived.Lib.Split
import Derived.Deep.AppendLies
import Derived.Shelf.Strings.SlTrimAscii
import Derived.Shelf.Strings.SplitShaped
import Derived.Shelf.LaysM
import Derived.Shelf.Strings.BuilderK
import Derived.Shelf.Strconv.Itoa4
import Derived.Shelf.Strings.Prefix
import Derived.Shelf.Bytes.SlIndexWhole
import Derived.Test.YteoadfckcilalaaGreatDoorProg
import Derived.Lib.SplitLaws
import Derived.WalkSmall
import Derived.ProofKit
import Derived.OpenShut
import Derived.Lib.Strings
import Derived.SliceStrings
import Derived.Deep.Quiet
import Derived.Tactics
import Derived.KernelRfl
import Derived.Below
import Derived.Laws.Bits64
import Derived.Lib.SlBytesConst
import Derived.Maps.AppendAt
import Derived.Laws.AppendOwnNone
import Derived.Great.BuildSlice
import Derived.Laws.Rows
import Derived.Laws.BitsAllLaws
import Derived.Laws.Shifts
import Derived.Maps.OwnOps
import Derived.Maps.OwnSet
import Derived.Deep.SlicePairs
import Derived.Lib.AppendZerosOnto
import Derived.Lib.AppendStr
import Derived.Laws.CopyOwn
import Derived.OwnWalk
import Derived.Laws.Strings3
import Derived.Laws.Concat
import Derived.Lib.ItoaMem
import Derived.IntWalk
import Derived.Laws.RangeAny
import Derived.LoopTactic
import Derived.Sort.Grow
import Derived.Lib.ConvBytes
import Derived.Lib.LaidTab
import Derived.LaidSub
import Derived.Laws.Bits64b
import Derived.Deep.DeepCutAuto
import Derived.Deep.CutBlock
import Derived.Lib.FrozenHead2
import Derived.Deep.RegionHeld3
import Derived.Deep.Matrix
import Derived.MakeChecks
import Derived.Deep.MidRow
import Derived.Laws.Tables
import Derived.Deep.WholeRow
import Derived.StillTailTactics
import Derived.Lib.LazyBuf
import Derived.ArgAppend
namespace Go.Proofs.YteoadfckcilalaaGreatDoor
open Go.RowKit

set_option linter.unusedVariables false
theorem headB_bigW {s : ByteArray} {x : List Fld} (h : s.size ≤ 3000000) (hx : SmallF x) (hl : x.length ≤ 40) : (headB s x).length ≤ 100000000 := by
  by_cases h0 : s.size = 0
  · rw [headB_no (.inl h0)]; exact Nat.zero_le _
  · by_cases h1 : allB x = true
    · rw [headB_yes h0 h1]
      have h2 := linesB_len x hx x.length
      rw [List.take_length] at h2
      have h3 : x.length * 2097156 ≤ 40 * 2097156 := Nat.mul_le_mul_right _ hl
      have h4 : s.data.toList.length = s.size := by rw [Array.length_toList]; rfl
      simp only [List.length_append, List.length_cons, List.length_nil]
      omega
    · rw [headB_no (.inr (by rw [← Bool.not_eq_true]; exact h1))]; exact Nat.zero_le _
theorem wp_store_strW {P : Program} {act : Act} {w : World} {o : Oper} {K : Act → World → Prop} {Q : Exit → Act → World → Prop} {ty : TypeId} {x y : Operand} (ho : o.op = .store ty x y) {p : Addr} {b : ByteArray} {u : Value} (hx : act.eval x = .pointer (some p)) (hy : act.eval y = .string b) (hi : (P.info? ty).map (·.size) = some 1)
    (hc : w.cell? p = some u) (hf : w.frozen? p = false) (h : K (act.put o.dst undef) (w.setCell p (.string b))) : o.wp P act w K Q := by
  have hz : (sizeOf ty).run P w = .ok 1 w := by
    cases hq : P.info? ty with
    | none => rw [hq] at hi; cases hi
    | some i => rw [hq] at hi; simp at hi; simp [sizeOf, typeInfo, hq, hi]
  unfold Oper.wp execOp
  simp_all [Instr.storeAt, Instr.sureAddr, storeVar, storeCells, Value.cells, go_sem]
theorem lawReqW_any (b : Option Addr) (n c : Nat) (w : World) (hi : IntsF w b n) (hn : n ≤ maxLen) :
    Calls Tryz.prog 21 #[.pointer (some ⟨w.heap.size, 0, none⟩)] (w.alloc (.cells #[.slice b n c, .int .i64 0] 56)) fun e w' =>
      ∃ m t z sF x cF fr sB, ∃ l : List UInt8, ∃ cB, e = .returned (.agg #[.string m, .string t, .int .i64 z, .slice sF (List.length x) cF, .bool fr, .slice sB l.length cB]) ∧ m.size ≤ 1000 ∧ t.size ≤ 1000 ∧ FldsIn w' sF x ∧ IsBytes w' sB l cB ∧ l.length ≤ 30 ∧ (∀ y, sF = some y → w.heap.size ≤ y.block) ∧ x.length ≤ 6 ∧ SmallF x ∧ Below w.heap.size w w' := by
  refine (srcReq_any w.heap.size b n c _ (src_box hi hn)).mono ?_
  rintro e w' ⟨m, t, z, vF, x, fr, vB, l, rfl, hm, ht, hz, hF, hB, hR, hl, _, _, hg⟩
  obtain ⟨sF, cF, rfl, h1, _⟩ := hF.shape
  obtain ⟨sB, cB, rfl, h2⟩ := hB.bytesL
  exact ⟨m, t, z, sF, x, cF, fr, sB, l, cB, rfl, (meth_at hm).2, (targ_at ht).2, h1.1, h2, hl, fun y e => by have := (ownF_block hF y e).1; rw [World.size_alloc] at this; omega, hR.made.2, hR.tiny.small, below_box (below_oneF w _) hg⟩
/-- A request's variable at g, a reply's behind it, and fields in a block of their own. -/
structure WfInv (w : World) (g : Nat) (rq ra : Array Value) (fa : Option Addr) (x : List Fld) (W : World) (sB : Option Addr) (l : List UInt8) (cB : Nat) (ha : Option Addr) (hy : List UInt8) (hc : Nat) : Prop where
  b1 : IsBytes W sB l cB
  b2 : IsBytes W ha hy hc
  nu : ∀ (i : Nat) (z : Int), ra[i]? ≠ some (.int .u8 z)
  one : W.heap[g]? = some (.cells rq 29 (0, 0))
  two : W.heap[g + 1]? = some (.cells ra 31 (0, 0))
  flds : FldsIn W fa x
  new : ∀ y, fa = some y → g + 1 < y.block
  below : Below w.heap.size w W
  base : w.heap.size ≤ g
theorem WfInv.keep {w : World} {g : Nat} {rq ra : Array Value} {fa : Option Addr} {x : List Fld} {W W' : World} {sB : Option Addr} {l : List UInt8} {cB : Nat} {ha : Option Addr} {hy : List UInt8} {hc : Nat} (h : WfInv w g rq ra fa x W sB l cB ha hy hc) (hb : Below W.heap.size W W') : WfInv w g rq ra fa x W' sB l cB ha hy hc :=
  ⟨h.b1.keep hb, h.b2.keep hb, h.nu, (hb.block _ (lt_row h.one)).trans h.one, (hb.block _ (lt_row h.two)).trans h.two, h.flds.keep hb, h.new, below_trans h.below hb, h.base⟩
theorem WfInv.put {w : World} {g : Nat} {rq ra : Array Value} {fa : Option Addr} {x : List Fld} {W : World} {sB : Option Addr} {l : List UInt8} {cB : Nat} {ha : Option Addr} {hy : List UInt8} {hc : Nat} (h : WfInv w g rq ra fa x W sB l cB ha hy hc) (i : Nat) (v : Value) (hv : ∀ (j : Nat) (z : Int), (ra.setIfInBounds i v)[j]? ≠ some (.int .u8 z)) : WfInv w g rq (ra.setIfInBounds i v) fa x (W.setCell ⟨g + 1, i, none⟩ v) sB l cB ha hy hc :=
  ⟨h.b1.same fun y e hl => heap_setCell_other _ _ _ _ (row_awayR h.two h.nu h.b1 y e hl), h.b2.same fun y e hl => heap_setCell_other _ _ _ _ (row_awayR h.two h.nu h.b2 y e hl), hv,
    (heap_setCell_other W ⟨g + 1, i, none⟩ g _ (by show g ≠ g + 1; omega)).trans h.one, heap_setCell_same W (g + 1) i _ _ _ h.two, h.flds.same fun y e => heap_setCell_other _ _ _ _ (by have := h.new y e; show y.block ≠ g + 1; omega), h.new,
    h.below.setCell (p := ⟨g + 1, i, none⟩) (by have := h.base; show _ ≤ g + 1; omega) _, h.base⟩
/-- The two messages in their variables, as they are formatted. -/
def WfS (w W : World) : Prop := ∃ m t z fa x fc fr ba bd bc st r z2 ga y gc ha hy hc,
  W.heap[w.heap.size]? = some (.cells #[.string m, .string t, .int .i64 z, .slice fa (List.length x) fc, .bool fr, .slice ba (List.length bd) bc] 29 (0, 0)) ∧
  W.heap[w.heap.size + 1]? = some (.cells #[.int .i64 st, .string r, .int .i64 z2, .slice ga (List.length y) gc, .slice ha (List.length hy) hc] 31 (0, 0)) ∧ m.size ≤ 1048576 ∧ t.size ≤ 1048576 ∧ r.size ≤ 1048576 ∧
  FldsIn W fa x ∧ FldsIn W ga y ∧ SmallF x ∧ SmallF y ∧ Below w.heap.size w W ∧ IsBytes W ba bd bc ∧ IsBytes W ha hy hc ∧ List.length bd ≤ 1048576 ∧ List.length hy ≤ 1048576

section
variable (m t : ByteArray) (z : Int) (fa ba : Option Addr) (x : List Fld) (fc bc : Nat) (bd hy : List UInt8) (fr : Bool) (st : Int) (r : ByteArray) (z2 : Int) (ga ha : Option Addr) (y : List Fld) (gc hc : Nat) (b : Option Addr) (n cb : Nat) (raw : Bool) (mm : Int) (w : World)
set_option maxRecDepth 100000 in
set_option maxHeartbeats 4000000 in
theorem writerWrite_any (hi : IntsF w b n) (hnb : n ≤ maxLen) (hms : m.size ≤ 1048576) (hts : t.size ≤ 1048576) (hrs : r.size ≤ 1048576) (hfx : FldsIn w fa x) (hgy : FldsIn w ga y) (hsx : SmallF x) (hsy : SmallF y) (ht : Tabs w) (hm : HdOk w mm) (hbd : IsBytes w ba bd bc) (hhd : IsBytes w ha hy hc) (hbl : bd.length ≤ 1048576) (hhl : hy.length ≤ 1048576) (hre : ReasT w) :
    Calls Tryz.prog 5 #[.slice b n cb, .agg #[.string m, .string t, .int .i64 z, .slice fa x.length fc, .bool fr, .slice ba (List.length bd) bc], .agg #[.int .i64 st, .string r, .int .i64 z2, .slice ga y.length gc, .slice ha (List.length hy) hc], .bool raw] w fun e w' => e = .returned (.bool true) ∧ Below w.heap.size w w' := by
  have HM := Box.mk hm
  have HT := Box.mk ht
  have HRE := Box.mk hre
  have HI := Box.mk (And.intro hi hnb)
  have HFM := Box.mk (show WfS w ((w.alloc (.cells #[.string m, .string t, .int .i64 z, .slice fa x.length fc, .bool fr, .slice ba (List.length bd) bc] 29)).alloc (.cells #[.int .i64 st, .string r, .int .i64 z2, .slice ga y.length gc, .slice ha (List.length hy) hc] 31)) from by
    have h := heap_alloc_new (w.alloc (.cells #[.string m, .string t, .int .i64 z, .slice fa x.length fc, .bool fr, .slice ba (List.length bd) bc] 29)) (.cells #[.int .i64 st, .string r, .int .i64 z2, .slice ga y.length gc, .slice ha (List.length hy) hc] 31)
    rw [World.size_alloc] at h
    have hb := below_twoF (below_oneF w (.cells #[.string m, .string t, .int .i64 z, .slice fa x.length fc, .bool fr, .slice ba (List.length bd) bc] 29)) (.cells #[.int .i64 st, .string r, .int .i64 z2, .slice ga y.length gc, .slice ha (List.length hy) hc] 31)
    exact ⟨m, t, z, fa, x, fc, fr, ba, bd, bc, st, r, z2, ga, y, gc, ha, hy, hc, ((below_oneF (w.alloc (.cells #[.string m, .string t, .int .i64 z, .slice fa x.length fc, .bool fr, .slice ba (List.length bd) bc] 29)) _).block _ (by rw [World.size_alloc]; omega)).trans (heap_alloc_new _ _), h, hms, hts, hrs, hfx.keep hb, hgy.keep hb, hsx, hsy, hb, hbd.keep hb, hhd.keep hb, hbl, hhl⟩)
  clear hm ht hi hnb hms hts hrs hfx hgy hsx hsy hbd hhd hbl hhl hre
  go_enter Tryz.func5, Tryz.ntmps5
  go_upto_if 10 with fail
  generalize (w.alloc (.cells #[.string m, .string t, .int .i64 z, .slice fa x.length fc, .bool fr, .slice ba (List.length bd) bc] 29)).alloc (.cells #[.int .i64 st, .string r, .int .i64 z2, .slice ga y.length gc, .slice ha (List.length hy) hc] 31) = W at *
  go_cut [] (fun wx => Box (WfS w wx))
  case first =>
    cases raw with
    | true =>
      go_wp2_with fail
      go_meet
      exact HFM
    | false =>
      obtain ⟨_, _, _, _, _, _, _, _, _, _, st, r, z2, ga, y, gc, ha, hy, hc, hr1, hr2, _, _, hrs, _, _, _, _, hb, _, hih, _, hhl⟩ := HFM.out
      have HIH := Box.mk hih
      have HHL := Box.mk hhl
      have HI2 := Box.mk (And.intro (HI.out.1.keep hb) HI.out.2)
      have HR1 := Box.mk hr1
      have HR2 := Box.mk hr2
      have HB := Box.mk hb
      have HRS := Box.mk hrs
      clear hr1 hr2 hb hrs HFM HI hih hhl
      go_wp2_with fail
      refine (lawReqW_any b n cb W HI2.out.1 HI2.out.2).mono ?_
      rintro e w5 ⟨m5, t5, z5, sF, x, cF, fr5, sB, l, cB, rfl, hm5, ht5, hfx5, hbl5, hll5, hnew5, hxl, hsx, hb5⟩
      have HBL5 := Box.mk (And.intro hbl5 hll5)
      have HIH5 := Box.mk (HIH.out.keep hb5)
      have HB5 := Box.mk (below_trans HB.out hb5)
      have hrow1 := (hb5.block _ (lt_row HR1.out)).trans HR1.out
      have HR5 := Box.mk ((hb5.block _ (lt_row HR2.out)).trans HR2.out)
      have HSZ := Box.mk (And.intro (show m5.size ≤ 1048576 by omega) (And.intro (show t5.size ≤ 1048576 by omega) hsx))
      have HROW1 := Box.mk hrow1
      have HFX5 := Box.mk hfx5
      have HNEW := Box.mk (show ∀ q, sF = some q → w.heap.size + 1 < q.block from fun q e => by have := hnew5 q e; have := lt_row HR2.out; omega)
      clear hb5 HB HR1 HR2 HI2 hm5 ht5 hrow1 hfx5 hnew5 hsx hbl5 hll5 HIH
      generalize hg : w.heap.size = g at *
      have HG := Box.mk hg
      clear hg
      go_wp2_with (refine wpList_store_row rfl 29 _ _ rfl g #[.string m5, .string t5, .int .i64 z5, .slice sF x.length cF, .bool fr5, .slice sB l.length cB] rfl rfl 29 _ HROW1.out sizeR rfl (by simp [Value.oneCell']) ?_)
      have HV := Box.mk (show WfInv w g #[.string m5, .string t5, .int .i64 z5, .slice sF x.length cF, .bool fr5, .slice sB l.length cB] #[.int .i64 st, .string r, .int .i64 z2, .slice ga y.length gc, .slice ha (List.length hy) hc] sF x (w5.setRow g #[.string m5, .string t5, .int .i64 z5, .slice sF x.length cF, .bool fr5, .slice sB l.length cB]) sB l cB ha hy hc from
        ⟨isBytes_rowR HROW1.out (noU8_22 rfl) HBL5.out.1, isBytes_rowR HROW1.out (noU8_22 rfl) HIH5.out, noU8_22 rfl, setRow_heap _ _ _ _ _ _ HROW1.out, (setRow_other w5 g (g + 1) _ (by omega)).trans HR5.out, HFX5.out.same fun q e => setRow_other _ _ _ _ (by have := HNEW.out q e; omega), HNEW.out,
          below_setRow (g := g) (show Below w.heap.size w w5 by rw [HG.out]; exact HB5.out) (by have := HG.out; omega) _, by have := HG.out; omega⟩)
      clear HB5 HR5 HROW1 HFX5 HNEW HIH5
      generalize w5.setRow g #[.string m5, .string t5, .int .i64 z5, .slice sF x.length cF, .bool fr5, .slice sB l.length cB] = W6 at *
      refine wp_region_phases [3, 5, 7, 9] (fun p => match p with | 0 => [0, 1, 2] | 1 => [0, 1, 4] | 2 => [0, 1, 6] | 3 => [0, 1, 8] | _ => [])
        (fun p => match p with
          | 0 => [.val (.pointer (some ⟨g, 3, none⟩)), .val (.slice sF x.length cF), .val (.pointer (some ⟨g + 1, 0, none⟩)), .any, .nope, .any, .nope, .any, .nope, .any]
          | 1 => [.val (.pointer (some ⟨g, 3, none⟩)), .val (.slice sF x.length cF), .any, .any, .val (.pointer (some ⟨g + 1, 2, none⟩)), .any, .nope, .any, .nope, .any]
          | 2 => [.val (.pointer (some ⟨g, 3, none⟩)), .val (.slice sF x.length cF), .any, .any, .any, .any, .val (.pointer (some ⟨g + 1, 1, none⟩)), .any, .nope, .any]
          | 3 => [.val (.pointer (some ⟨g, 3, none⟩)), .val (.slice sF x.length cF), .any, .any, .any, .any, .any, .any, .val (.pointer (some ⟨g + 1, 3, none⟩)), .any]
          | _ => [.any, .any, .any, .any, .any, .any, .any, .any, .any, .any])
        (fun p => match p with
          | 0 => fun wx => WfInv w g #[.string m5, .string t5, .int .i64 z5, .slice sF x.length cF, .bool fr5, .slice sB l.length cB] (#[.int .i64 st, .string r, .int .i64 z2, .slice ga y.length gc, .slice ha (List.length hy) hc]) sF x wx sB l cB ha hy hc
          | 1 => fun wx => WfInv w g #[.string m5, .string t5, .int .i64 z5, .slice sF x.length cF, .bool fr5, .slice sB l.length cB] (#[.int .i64 200, .string r, .int .i64 z2, .slice ga y.length gc, .slice ha (List.length hy) hc]) sF x wx sB l cB ha hy hc
          | 2 => fun wx => WfInv w g #[.string m5, .string t5, .int .i64 z5, .slice sF x.length cF, .bool fr5, .slice sB l.length cB] (#[.int .i64 200, .string r, .int .i64 1, .slice ga y.length gc, .slice ha (List.length hy) hc]) sF x wx sB l cB ha hy hc
          | 3 => fun wx => WfInv w g #[.string m5, .string t5, .int .i64 z5, .slice sF x.length cF, .bool fr5, .slice sB l.length cB] (#[.int .i64 200, .string ⟨#[79, 75]⟩, .int .i64 1, .slice ga y.length gc, .slice ha (List.length hy) hc]) sF x wx sB l cB ha hy hc
          | _ => fun wx => WfInv w g #[.string m5, .string t5, .int .i64 z5, .slice sF x.length cF, .bool fr5, .slice sB l.length cB] (#[.int .i64 200, .string ⟨#[79, 75]⟩, .int .i64 1, .slice sF x.length cF, .slice ha (List.length hy) hc]) sF x wx sB l cB ha hy hc)
        (by kernel_rfl) (by kernel_rfl) (by kernel_rfl) (by kernel_rfl) (by kernel_rfl) (by kernel_rfl) ?_ HV.out ?_ ?_ ?_
      · intro p w1 w2 h hb
        match p, h with
        | 0, h => exact WfInv.keep h hb
        | 1, h => exact WfInv.keep h hb
        | 2, h => exact WfInv.keep h hb
        | 3, h => exact WfInv.keep h hb
        | (_ + 4), h => exact WfInv.keep h hb
      · intro p hp
        match p, hp with
        | 0, _ =>
          refine ⟨?_, ?_, ?_, trivial⟩ <;> intro a1 w1 hv hf hd
          · exact ⟨wanted_none rfl, loc_fieldR rfl (hf.base 5 rfl) (by decide) rfl⟩
          · exact ⟨wanted_none rfl, loc_cell rfl (hd 0 rfl) (by rw [cell_of_row _ _ _ _ _ _ hv.one]; rfl) (agg_fields _) rfl⟩
          · exact ⟨wanted_none rfl, loc_fieldA rfl (hf.base 6 rfl) (by decide) rfl⟩
        | 1, _ =>
          refine ⟨?_, ?_, ?_, trivial⟩ <;> intro a1 w1 hv hf hd
          · exact ⟨wanted_none rfl, loc_fieldR rfl (hf.base 5 rfl) (by decide) rfl⟩
          · exact ⟨wanted_none rfl, loc_cell rfl (hd 0 rfl) (by rw [cell_of_row _ _ _ _ _ _ hv.one]; rfl) (agg_fields _) rfl⟩
          · exact ⟨wanted_none rfl, loc_fieldA rfl (hf.base 6 rfl) (by decide) rfl⟩
        | 2, _ =>
          refine ⟨?_, ?_, ?_, trivial⟩ <;> intro a1 w1 hv hf hd
          · exact ⟨wanted_none rfl, loc_fieldR rfl (hf.base 5 rfl) (by decide) rfl⟩
          · exact ⟨wanted_none rfl, loc_cell rfl (hd 0 rfl) (by rw [cell_of_row _ _ _ _ _ _ hv.one]; rfl) (agg_fields _) rfl⟩
          · exact ⟨wanted_none rfl, loc_fieldA rfl (hf.base 6 rfl) (by decide) rfl⟩
        | 3, _ =>
          refine ⟨?_, ?_, ?_, trivial⟩ <;> intro a1 w1 hv hf hd
          · exact ⟨wanted_none rfl, loc_fieldR rfl (hf.base 5 rfl) (by decide) rfl⟩
          · exact ⟨wanted_none rfl, loc_cell rfl (hd 0 rfl) (by rw [cell_of_row _ _ _ _ _ _ hv.one]; rfl) (agg_fields _) rfl⟩
          · exact ⟨wanted_none rfl, loc_fieldA rfl (hf.base 6 rfl) (by decide) rfl⟩
        | 4, _ => exact trivial
      · intro p hp
        match p, hp with
        | 0, _ =>
          intro a2 w2 hv hf hd
          have e17 : a2.eval (.tmp 17) = .pointer (some ⟨g + 1, 0, none⟩) := hd 2 rfl
          refine ⟨wanted_none rfl, wp_store_int (z := 200) (u := .int .i64 st) rfl e17 rfl (by kernel_rfl) (by rw [cell_of_row _ _ _ _ _ _ hv.two]; rfl) (frozen_of_row w2 (g + 1) 0 _ _ hv.two) ?_⟩
          exact ⟨undef, rfl, hv.put 0 _ (noU8_22 rfl), trivial, ⟨.inr fun _ _ h => h, .inr fun _ _ h => h, .inr fun _ _ _ => trivial, .inl rfl, .inr fun _ _ h => h.elim, .inr fun _ _ _ => trivial, .inr fun _ _ h => h, .inr fun _ _ _ => trivial, .inr fun _ _ h => h, .inr fun _ _ _ => trivial, trivial⟩⟩
        | 1, _ =>
          intro a2 w2 hv hf hd
          have e18 : a2.eval (.tmp 18) = .pointer (some ⟨g + 1, 2, none⟩) := hd 4 rfl
          refine ⟨wanted_none rfl, wp_store_int (z := 1) (u := .int .i64 z2) rfl e18 rfl (by kernel_rfl) (by rw [cell_of_row _ _ _ _ _ _ hv.two]; rfl) (frozen_of_row w2 (g + 1) 2 _ _ hv.two) ?_⟩
          exact ⟨undef, rfl, hv.put 2 _ (noU8_22 rfl), trivial, ⟨.inr fun _ _ h => h, .inr fun _ _ h => h, .inr fun _ _ _ => trivial, .inr fun _ _ _ => trivial, .inr fun _ _ _ => trivial, .inl rfl, .inr fun _ _ h => h.elim, .inr fun _ _ _ => trivial, .inr fun _ _ h => h, .inr fun _ _ _ => trivial, trivial⟩⟩
        | 2, _ =>
          intro a2 w2 hv hf hd
          have e19 : a2.eval (.tmp 19) = .pointer (some ⟨g + 1, 1, none⟩) := hd 6 rfl
          refine ⟨wanted_none rfl, wp_store_strW (b := ⟨#[79, 75]⟩) (u := .string r) rfl e19 rfl (by kernel_rfl) (by rw [cell_of_row _ _ _ _ _ _ hv.two]; rfl) (frozen_of_row w2 (g + 1) 1 _ _ hv.two) ?_⟩
          exact ⟨undef, rfl, hv.put 1 _ (noU8_22 rfl), trivial, ⟨.inr fun _ _ h => h, .inr fun _ _ h => h, .inr fun _ _ _ => trivial, .inr fun _ _ _ => trivial, .inr fun _ _ _ => trivial, .inr fun _ _ _ => trivial, .inr fun _ _ _ => trivial, .inl rfl, .inr fun _ _ h => h.elim, .inr fun _ _ _ => trivial, trivial⟩⟩
        | 3, _ =>
          intro a2 w2 hv hf hd
          have e20 : a2.eval (.tmp 20) = .pointer (some ⟨g + 1, 3, none⟩) := hd 8 rfl
          have e16 : a2.eval (.tmp 16) = .slice sF x.length cF := hd 1 rfl
          refine ⟨wanted_none rfl, wp_store_slice (u := .slice ga y.length gc) rfl e20 e16 (by kernel_rfl) (by rw [cell_of_row _ _ _ _ _ _ hv.two]; rfl) (frozen_of_row w2 (g + 1) 3 _ _ hv.two) ?_⟩
          exact ⟨undef, rfl, hv.put 3 _ (noU8_22 rfl), trivial, ⟨.inr fun _ _ _ => trivial, .inr fun _ _ _ => trivial, .inr fun _ _ _ => trivial, .inr fun _ _ _ => trivial, .inr fun _ _ _ => trivial, .inr fun _ _ _ => trivial, .inr fun _ _ _ => trivial, .inr fun _ _ _ => trivial, .inr fun _ _ _ => trivial, .inl rfl, trivial⟩⟩
      · intro a2 w2 hv hf hh
        clear hh
        rw [fr_putAll hf]
        clear hf
        simp only [putAll]
        generalize a2.eval (.tmp 15) = u15
        generalize a2.eval (.tmp 16) = u16
        generalize a2.eval (.tmp 17) = u17
        generalize a2.eval (.tmp 18) = u18
        generalize a2.eval (.tmp 19) = u19
        generalize a2.eval (.tmp 20) = u20
        clear a2
        simp only [Act.put, List.setIfInBounds_toArray, List.set_cons_succ, List.set_cons_zero]
        rename (∀ (a' : Act) (w' : World), Met _ a' w' → _) => hM
        refine hM _ _ ?_
        go_meet
        have hg := HG.out
        exact ⟨⟨m5, t5, z5, sF, x, cF, fr5, sB, l, cB, _, _, _, sF, x, cF, ha, hy, hc, by rw [hg]; exact hv.one, by rw [hg]; exact hv.two, HSZ.out.1, HSZ.out.2.1, by decide, hv.flds, hv.flds, HSZ.out.2.2, HSZ.out.2.2, hv.below, hv.b1, hv.b2, by have := HBL5.out.2; omega, HHL.out⟩⟩
  case rest =>
    obtain ⟨m, t, z, fa, x, fc, fr, ba, bd, bc, st, r, z2, ga, y, gc, ha, hy, hc, hr1, hr2, hms, hts, hrs, hfx, hgy, hsx, hsy, hb, hbd, hhd, hbl, hhl⟩ := hcut.out
    have HBD := Box.mk (And.intro hbd (And.intro hhd (And.intro hbl hhl)))
    have HR := Box.mk (And.intro hr1 hr2)
    have HB := Box.mk hb
    have HFX := Box.mk hfx
    have HGY := Box.mk hgy
    have HSX := Box.mk hsx
    have HSY := Box.mk hsy
    generalize hg : w.heap.size = g at *
    have HG := Box.mk hg
    clear hr1 hr2 hb hcut HFM hg hfx hgy hsx hsy hbd hhd hbl hhl
    obtain ⟨hlt, hc0, hc1, hc2, hc3, hc4, hc5⟩ := row_cells6 HR.out.1
    have hd3 : wc.cell? ⟨g + 1, 3, none⟩ = some (.slice ga y.length gc) := by rw [cell_of_row _ _ _ _ _ _ HR.out.2]; rfl
    have HMW := Box.mk (HM.out.keep (by rw [HG.out]; exact HB.out))
    have HTW := Box.mk (tabs_below HT.out (show Below w.heap.size w wc by rw [HG.out]; exact HB.out))
    have HREW := Box.mk (HRE.out.keep (show Below w.heap.size w wc by rw [HG.out]; exact HB.out))
    by_cases h1 : 40 < x.length
    · go_wp2_with fail
      refine (awakeW_any _ HTW.out HREW.out).mono ?_
      rintro e w7 ⟨rfl, hb7⟩
      have HB7 := Box.mk (below_trans (show Below w.heap.size w wc by rw [HG.out]; exact HB.out) hb7)
      clear hb7
      go_wp2_with fail
      go_ret
      exact ⟨rfl, HB7.out⟩
    · by_cases h2 : 40 < y.length
      · go_wp2_with fail
        refine (awakeW_any _ HTW.out HREW.out).mono ?_
        rintro e w7 ⟨rfl, hb7⟩
        have HB7 := Box.mk (below_trans (show Below w.heap.size w wc by rw [HG.out]; exact HB.out) hb7)
        clear hb7
        go_wp2_with fail
        go_ret
        exact ⟨rfl, HB7.out⟩
      · go_wp2_with fail
        obtain ⟨L1, hL1⟩ : ∃ L1, L1 = wrB (headB (fmtReq m t z) x) bd := ⟨_, rfl⟩
        obtain ⟨L2, hL2⟩ : ∃ L2, L2 = wrB (headB (fmtRep st r z2) y) hy := ⟨_, rfl⟩
        have HLE := Box.mk (And.intro hL1 hL2)
        have HL := Box.mk (show (headB (fmtReq m t z) x).length + bd.length ≤ 1000000000 ∧ (headB (fmtRep st r z2) y).length + hy.length ≤ 1000000000 from by
          have h1 := headB_bigW (s := fmtReq m t z) (fmtReq_big m t z hms hts) HSX.out (by omega)
          have h2 := headB_bigW (s := fmtRep st r z2) (Nat.le_trans (rep_size st r z2 hrs) (by decide)) HSY.out (by omega)
          have := HBD.out.2.2.1
          have := HBD.out.2.2.2
          omega)
        have HZ := Box.mk (And.intro (fmtReq_big m t z hms hts) (rep_size st r z2 hrs))
        clear hlt hc0 hc1 hc2 hc3 hc4 hc5 hd3 hL1 hL2
        rename_i K hK
        refine wp_region_local (S := [.val (.agg #[.string m, .string t, .int .i64 z, .slice fa x.length fc, .bool fr, .slice ba (List.length bd) bc]), .bytes L1, .val (.string ⟨L1.toArray⟩), .val (.agg #[.string m, .string t, .int .i64 z, .slice fa x.length fc, .bool fr, .slice ba (List.length bd) bc]), .bytes L1, .val (.string ⟨L1.toArray⟩), .val (.bool true), .val (.bool true),
          .val (.agg #[.int .i64 st, .string r, .int .i64 z2, .slice ga y.length gc, .slice ha (List.length hy) hc]), .bytes L2, .val (.string ⟨L2.toArray⟩), .val (.agg #[.int .i64 st, .string r, .int .i64 z2, .slice ga y.length gc, .slice ha (List.length hy) hc]), .bytes L2, .val (.string ⟨L2.toArray⟩), .val (.bool true), .val (.bool true), .val (.bool true), .val (.bool true), .val (.bool true), .val (.bool true)])
          (by kernel_rfl) (by kernel_rfl) (by kernel_rfl) ?_ ?_
        · have hbw : ∀ w', Below wc.heap.size wc w' → Below w.heap.size w w' := fun w' hb => below_trans (by rw [HG.out]; exact HB.out) hb
          have row1 : ∀ w', Below wc.heap.size wc w' → w'.heap[g]? = some (.cells #[.string m, .string t, .int .i64 z, .slice fa x.length fc, .bool fr, .slice ba (List.length bd) bc] 29 (0, 0)) := fun w' hb => by rw [hb.block g (lt_row HR.out.1)]; exact HR.out.1
          have row2 : ∀ w', Below wc.heap.size wc w' → w'.heap[g + 1]? = some (.cells #[.int .i64 st, .string r, .int .i64 z2, .slice ga y.length gc, .slice ha (List.length hy) hc] 31 (0, 0)) := fun w' hb => by rw [hb.block (g + 1) (lt_row HR.out.2)]; exact HR.out.2
          refine ⟨?_, ?_, ?_, ?_, ?_, ?_, ?_, ?_, ?_, ?_, ?_, ?_, ?_, ?_, ?_, ?_, ?_, ?_, ?_, ?_, trivial⟩ <;> intro a w3 hb hf hd
          · exact ⟨wanted_none rfl, loc_load rfl (by rw [show a.eval (.tmp 5) = .pointer (some ⟨g, 0, none⟩) from hf.base 5 rfl]; exact run_loadReq _ _ (row1 w3 hb)) rfl⟩
          · refine ⟨wanted_none rfl, loc_call rfl (by kernel_rfl) ?_⟩
            show Calls _ _ #[a.eval (.tmp 32)] w3 _
            rw [show a.eval (.tmp 32) = _ from hd 0 rfl]
            refine (projReq_any m t z fr x bd fa ba fc bc mm w3 (by omega) (by omega) (HFX.out.keep hb) HSX.out (by omega) (by have := HZ.out.1; omega) (HBD.out.1.keep hb) HL.out.1 (HMW.out.keep hb)).mono ?_
            rintro e w' ⟨v', rfl, ho, hb'⟩
            exact ⟨_, rfl, hb', by have h := ho.bytesV; rw [← HLE.out.1] at h; exact h⟩
          · exact ⟨wanted_none rfl, loc_string rfl (hd 1 rfl) rfl⟩
          · exact ⟨wanted_none rfl, loc_load rfl (by rw [show a.eval (.tmp 5) = .pointer (some ⟨g, 0, none⟩) from hf.base 5 rfl]; exact run_loadReq _ _ (row1 w3 hb)) rfl⟩
          · refine ⟨wanted_none rfl, loc_call rfl (by kernel_rfl) ?_⟩
            show Calls _ _ #[a.eval (.tmp 35)] w3 _
            rw [show a.eval (.tmp 35) = _ from hd 3 rfl]
            refine (refReq_any m t z fr x bd fa ba fc bc mm w3 (by omega) (by omega) (HFX.out.keep hb) HSX.out (by omega) (by have := HZ.out.1; omega) (HBD.out.1.keep hb) HL.out.1).mono ?_
            rintro e w' ⟨v', rfl, ho, hb'⟩
            exact ⟨_, rfl, hb', by have h := ho.bytesV; rw [← HLE.out.1] at h; exact h⟩
          · exact ⟨wanted_none rfl, loc_string rfl (hd 4 rfl) rfl⟩
          · exact ⟨wanted_none rfl, loc_eql_str rfl (hd 2 rfl) (hd 5 rfl) rfl⟩
          · exact ⟨wanted_none rfl, loc_move rfl (hd 6 rfl)⟩
          · exact ⟨wanted_true rfl rfl (hd 7 rfl), loc_load rfl (by rw [show a.eval (.tmp 6) = .pointer (some ⟨g + 1, 0, none⟩) from hf.base 6 rfl]; exact run_loadRep _ _ (row2 w3 hb)) rfl⟩
          · refine ⟨wanted_true rfl rfl (hd 7 rfl), loc_call rfl (by kernel_rfl) ?_⟩
            show Calls _ _ #[a.eval (.tmp 40)] w3 _
            rw [show a.eval (.tmp 40) = _ from hd 8 rfl]
            refine (projRep_any st r z2 y hy ga ha gc hc mm w3 (by omega) (HGY.out.keep hb) HSY.out (by omega) (by have := HZ.out.2; omega) (HBD.out.2.1.keep hb) HL.out.2 (tabs_below HTW.out hb)).mono ?_
            rintro e w' ⟨v', rfl, ho, hb'⟩
            exact ⟨_, rfl, hb', by have h := ho.bytesV; rw [← HLE.out.2] at h; exact h⟩
          · exact ⟨wanted_true rfl rfl (hd 7 rfl), loc_string rfl (hd 9 rfl) rfl⟩
          · exact ⟨wanted_true rfl rfl (hd 7 rfl), loc_load rfl (by rw [show a.eval (.tmp 6) = .pointer (some ⟨g + 1, 0, none⟩) from hf.base 6 rfl]; exact run_loadRep _ _ (row2 w3 hb)) rfl⟩
          · refine ⟨wanted_true rfl rfl (hd 7 rfl), loc_call rfl (by kernel_rfl) ?_⟩
            show Calls _ _ #[a.eval (.tmp 43)] w3 _
            rw [show a.eval (.tmp 43) = _ from hd 11 rfl]
            refine (refRep_any st r z2 y hy ga ha gc hc mm w3 (by omega) (HGY.out.keep hb) HSY.out (by omega) (by have := HZ.out.2; omega) (HBD.out.2.1.keep hb) HL.out.2).mono ?_
            rintro e w' ⟨v', rfl, ho, hb'⟩
            exact ⟨_, rfl, hb', by have h := ho.bytesV; rw [← HLE.out.2] at h; exact h⟩
          · exact ⟨wanted_true rfl rfl (hd 7 rfl), loc_string rfl (hd 12 rfl) rfl⟩
          · exact ⟨wanted_true rfl rfl (hd 7 rfl), loc_eql_str rfl (hd 10 rfl) (hd 13 rfl) rfl⟩
          · exact ⟨wanted_none rfl, loc_pick rfl (hd 7 rfl) (hd 14 rfl)⟩
          · exact ⟨wanted_none rfl, loc_move rfl (hd 15 rfl)⟩
          · refine ⟨wanted_true rfl rfl (hd 16 rfl), loc_call rfl (by kernel_rfl) ?_⟩
            show Calls _ _ #[] w3 _
            refine (awakeW_any w3 (tabs_below HTW.out hb) (HREW.out.keep hb)).mono ?_
            rintro e w' ⟨rfl, hb'⟩
            exact ⟨_, rfl, hb', rfl⟩
          · exact ⟨wanted_none rfl, loc_pick rfl (hd 16 rfl) (hd 17 rfl)⟩
          · exact ⟨wanted_none rfl, loc_assign rfl (hd 18 rfl)⟩
        · intro a w3 hb hf hh
          refine hK a w3 ?_
          go_wp2_with fail
          exact local_ret rfl hf.defers (show a.eval (.tmp 8) = .bool true from hh 19 (by decide)) ⟨rfl, below_trans (by rw [HG.out]; exact HB.out) hb⟩
end
end Go.Proofs.YteoadfckcilalaaGreatDoor
namespace Go.Proofs.YteoadfckcilalaaGreatDoor
open Go.ChangeShapes Go.WideShapes Go.ChangeAt Go.RowKit

theorem fields_none {H : Type} {enc : TypeId × Value → H} {W : World} {a : Option Addr} {len cap : Nat} {d : DataW H} {ps : List MemPlace} {base : Nat}
    (h : DataW.Trod enc Tryz.prog W base (fun _ => true) true 27 (.slice a len cap) d ps) : a = none → len = 0 ∧ cap = 0 := by
  obtain ⟨fuel, hf⟩ := h
  rcases Go.Deep.open_slice_pairs Tryz.underlying27 Tryz.underlying88 (by kernel_rfl) (by kernel_rfl) (by kernel_rfl) (by kernel_rfl) (by kernel_rfl) hf with ⟨hcs, _⟩ | ⟨x, n, c, m, k, V0, V1, D0, D1, P0, P1, hcs, _⟩
  · simp [Value.cells] at hcs
    obtain ⟨rfl, rfl, rfl⟩ := hcs
    exact fun _ => ⟨rfl, rfl⟩
  · simp [Value.cells] at hcs
    obtain ⟨rfl, rfl, rfl⟩ := hcs
    intro e; cases e
theorem open_fieldsC {H : Type} {enc : TypeId × Value → H} {W : World} {a : Option Addr} {len cap : Nat} {d : DataW H} {ps : List MemPlace} {base : Nat}
    (h : DataW.Trod enc Tryz.prog W base (fun _ => true) true 27 (.slice a len cap) d ps) :
    ∃ l : List Fld, len = l.length ∧ FldsC W a l cap ∧ l.length ≤ cap ∧ cap ≤ maxLen ∧ ShortF l ∧ (Rows.uptoBulk d ≤ 1048576 → SmallF l) := by
  obtain ⟨l, rfl, h1, h2, h3, h4, h5⟩ := open_fields h
  refine ⟨l, rfl, ⟨h1, fun e => ?_⟩, h2, h3, h4, fun hb f hf => ⟨Nat.le_trans (h5 f hf).1 hb, Nat.le_trans (h5 f hf).2 hb⟩⟩
  obtain ⟨e1, e2⟩ := fields_none h e
  exact ⟨List.eq_nil_of_length_eq_zero e1, e2⟩
theorem i64_ofF {x : Int} (h : (Lit.int .i64 x).wf = true) : -9223372036854775808 ≤ x ∧ x ≤ 9223372036854775807 := bounds_i64 h
theorem open_intsf {H : Type} {enc : TypeId × Value → H} {W : World} {a : Option Addr} {len cap : Nat} {d : DataW H} {ps : List MemPlace} {base : Nat}
    (h : DataW.Trod enc Tryz.prog W base (fun _ => true) true 22 (.slice a len cap) d ps) : IntsF W a len ∧ len ≤ maxLen := by
  obtain ⟨fuel, hf⟩ := h
  rcases open_ints Tryz.underlying22 Tryz.underlying3 (by kernel_rfl) hf with ⟨hcs, _⟩ | ⟨x, l, c, zs, hcs, _, hl, hm, hz, _, hcell, hwz⟩
  · simp [Value.cells] at hcs
    obtain ⟨rfl, rfl, rfl⟩ := hcs
    exact ⟨fun k hk => absurd hk (Nat.not_lt_zero _), Nat.zero_le _⟩
  · simp [Value.cells] at hcs
    obtain ⟨rfl, rfl, rfl⟩ := hcs
    have hz' : zs.length = cap := by simpa using hz
    refine ⟨fun k hk => ?_, Nat.le_trans hl hm⟩
    have hk' : k < zs.length := by omega
    have e : zs.getD k 0 = zs[k] := by rw [List.getD_eq_getElem?_getD, List.getElem?_eq_getElem hk']; rfl
    refine ⟨x, zs[k], rfl, by rw [hcell k hk', e], i64_ofF (hwz zs[k] (List.getElem_mem _))⟩
end Go.Proofs.YteoadfckcilalaaGreatDoor
namespace Go.Proofs.YteoadfckcilalaaGreatDoor
open Go.ChangeShapes Go.WideShapes Go.ChangeAt Go.RowKit

set_option maxRecDepth 100000 in
theorem open_request {H : Type} {enc : TypeId × Value → H} {W : World} {r : Reach} {q0 : Nat} {v : Value} {d : DataW H} {ps : List MemPlace} {base : Nat} (hval : Value.okWide Tryz.prog W r q0 29 v)
    (h : DataW.Trod enc Tryz.prog W base (fun _ => true) true 29 v d ps) :
    ∃ (s0 : ByteArray) (s1 : ByteArray) (z2 : Int) (l3 : List Fld) (a3 : Option Addr) (c3 : Nat) (b4 : Bool) (l5 : List UInt8) (a5 : Option Addr) (c5 : Nat), v = .agg #[.string s0, .string s1, .int .i64 z2, .slice a3 l3.length c3, .bool b4, .slice a5 l5.length c5] ∧ s0.size ≤ maxLen ∧ s0.size ≤ Rows.uptoBulk d ∧ s1.size ≤ maxLen ∧ s1.size ≤ Rows.uptoBulk d ∧ (-9223372036854775808 ≤ z2 ∧ z2 ≤ 9223372036854775807) ∧ (FldsC W a3 l3 c3 ∧ l3.length ≤ c3 ∧ c3 ≤ maxLen ∧ ShortF l3 ∧ (Rows.uptoBulk d ≤ 1048576 → SmallF l3)) ∧ (IsBytes W a5 l5 c5 ∧ l5.length ≤ Rows.uptoBulk d) := by
  obtain ⟨cs, rfl, hsz⟩ := okWide_struct Tryz.underlying29 hval
  obtain ⟨fuel, hf⟩ := h
  have hsz2 : cs.size = 6 := by rw [hsz]; kernel_rfl
  obtain ⟨x0, x1, x2, x3, x4, x5, rfl⟩ : ∃ x0 x1 x2 x3 x4 x5, cs = #[x0, x1, x2, x3, x4, x5] := by
    match cs, hsz2 with
    | ⟨[x0, x1, x2, x3, x4, x5]⟩, _ => exact ⟨x0, x1, x2, x3, x4, x5, rfl⟩
  obtain ⟨ys, n, _, hdp, _, hlen, hfs⟩ := DataW.trod_struct Tryz.underlying29 hf
  obtain ⟨y0, y1, y2, y3, y4, y5, rfl⟩ : ∃ y0 y1 y2 y3 y4 y5, ys = [y0, y1, y2, y3, y4, y5] := by
    match ys, hlen with
    | [y0, y1, y2, y3, y4, y5], _ => exact ⟨y0, y1, y2, y3, y4, y5, rfl⟩
  have h0 : DataW.trod enc Tryz.prog W base (fun _ => true) true n 9 [x0] = some y0 := by
    have e : ((Value.agg #[x0, x1, x2, x3, x4, x5]).cells.toList.drop 0).take (Tryz.prog.cellsOf 9) = [x0] := by rw [show Tryz.prog.cellsOf 9 = 1 by kernel_rfl]; rfl
    rw [← e]; exact hfs 0 _ rfl
  have h1 : DataW.trod enc Tryz.prog W base (fun _ => true) true n 9 [x1] = some y1 := by
    have e : ((Value.agg #[x0, x1, x2, x3, x4, x5]).cells.toList.drop 1).take (Tryz.prog.cellsOf 9) = [x1] := by rw [show Tryz.prog.cellsOf 9 = 1 by kernel_rfl]; rfl
    rw [← e]; exact hfs 1 _ rfl
  have h2 : DataW.trod enc Tryz.prog W base (fun _ => true) true n 3 [x2] = some y2 := by
    have e : ((Value.agg #[x0, x1, x2, x3, x4, x5]).cells.toList.drop 2).take (Tryz.prog.cellsOf 3) = [x2] := by rw [show Tryz.prog.cellsOf 3 = 1 by kernel_rfl]; rfl
    rw [← e]; exact hfs 2 _ rfl
  have h3 : DataW.trod enc Tryz.prog W base (fun _ => true) true n 27 [x3] = some y3 := by
    have e : ((Value.agg #[x0, x1, x2, x3, x4, x5]).cells.toList.drop 3).take (Tryz.prog.cellsOf 27) = [x3] := by rw [show Tryz.prog.cellsOf 27 = 1 by kernel_rfl]; rfl
    rw [← e]; exact hfs 3 _ rfl
  have h4 : DataW.trod enc Tryz.prog W base (fun _ => true) true n 4 [x4] = some y4 := by
    have e : ((Value.agg #[x0, x1, x2, x3, x4, x5]).cells.toList.drop 4).take (Tryz.prog.cellsOf 4) = [x4] := by rw [show Tryz.prog.cellsOf 4 = 1 by kernel_rfl]; rfl
    rw [← e]; exact hfs 4 _ rfl
  have h5 : DataW.trod enc Tryz.prog W base (fun _ => true) true n 23 [x5] = some y5 := by
    have e : ((Value.agg #[x0, x1, x2, x3, x4, x5]).cells.toList.drop 5).take (Tryz.prog.cellsOf 23) = [x5] := by rw [show Tryz.prog.cellsOf 23 = 1 by kernel_rfl]; rfl
    rw [← e]; exact hfs 5 _ rfl
  have hd : d = .agg [y0.1, y1.1, y2.1, y3.1, y4.1, y5.1] := by have := congrArg Prod.fst hdp; simpa using this
  obtain ⟨s0, es0, fs0, zs0⟩ := DataW.trod_string Tryz.underlying9 h0
  injection es0 with es0
  subst es0
  have ls0 : s0.data.toList.length = s0.size := by rw [Array.length_toList]; rfl
  obtain ⟨s1, es1, fs1, zs1⟩ := DataW.trod_string Tryz.underlying9 h1
  injection es1 with es1
  subst es1
  have ls1 : s1.data.toList.length = s1.size := by rw [Array.length_toList]; rfl
  obtain ⟨z2, ez2, fz2, wz2⟩ := DataW.trod_int Tryz.underlying3 h2
  injection ez2 with ez2
  subst ez2
  obtain ⟨a3, len3, c3, rfl⟩ : ∃ a len cap, x3 = .slice a len cap := by
    rcases Go.Deep.open_slice_pairs Tryz.underlying27 Tryz.underlying88 (by kernel_rfl) (by kernel_rfl) (by kernel_rfl) (by kernel_rfl) (by kernel_rfl) h3 with ⟨hcs, _⟩ | ⟨x, k, c, m, j, V0, V1, D0, D1, P0, P1, hcs, _⟩
    · injection hcs with hcs; exact ⟨_, _, _, hcs⟩
    · injection hcs with hcs; exact ⟨_, _, _, hcs⟩
  obtain ⟨l3, rfl, hF3, hc3, hm3, hS3, hu3⟩ := open_fieldsC (d := y3.1) (ps := y3.2) ⟨n, h3⟩
  obtain ⟨b4, eb4, fb4⟩ := DataW.trod_bool Tryz.underlying4 h4
  injection eb4 with eb4
  subst eb4
  obtain ⟨a5, len5, c5, rfl⟩ : ∃ a len cap, x5 = .slice a len cap := by
    rcases open_ints Tryz.underlying23 Tryz.underlying5 (by kernel_rfl) h5 with ⟨hcs, _⟩ | ⟨x, k, c, zs, hcs, _⟩
    · injection hcs with hcs; exact ⟨_, _, _, hcs⟩
    · injection hcs with hcs; exact ⟨_, _, _, hcs⟩
  obtain ⟨l5, rfl, hb5, hl5⟩ := open_bytes_bulk (d := y5.1) (ps := y5.2) ⟨n, h5⟩
  subst hd
  subst fs0 fs1 fz2 fb4
  simp only [Rows.uptoBulk, Rows.uptoBulkAll, ls0, ls1]
  exact ⟨s0, s1, z2, l3, a3, c3, b4, l5, a5, c5, rfl, zs0, by omega, zs1, by omega, i64_ofF wz2, ⟨hF3, hc3, hm3, hS3, fun hb => hu3 (by omega)⟩, ⟨hb5, by omega⟩⟩

set_option maxRecDepth 100000 in
theorem open_reply {H : Type} {enc : TypeId × Value → H} {W : World} {r : Reach} {q0 : Nat} {v : Value} {d : DataW H} {ps : List MemPlace} {base : Nat} (hval : Value.okWide Tryz.prog W r q0 31 v)
    (h : DataW.Trod enc Tryz.prog W base (fun _ => true) true 31 v d ps) :
    ∃ (z0 : Int) (s1 : ByteArray) (z2 : Int) (l3 : List Fld) (a3 : Option Addr) (c3 : Nat) (l4 : List UInt8) (a4 : Option Addr) (c4 : Nat), v = .agg #[.int .i64 z0, .string s1, .int .i64 z2, .slice a3 l3.length c3, .slice a4 l4.length c4] ∧ (-9223372036854775808 ≤ z0 ∧ z0 ≤ 9223372036854775807) ∧ s1.size ≤ maxLen ∧ s1.size ≤ Rows.uptoBulk d ∧ (-9223372036854775808 ≤ z2 ∧ z2 ≤ 9223372036854775807) ∧ (FldsC W a3 l3 c3 ∧ l3.length ≤ c3 ∧ c3 ≤ maxLen ∧ ShortF l3 ∧ (Rows.uptoBulk d ≤ 1048576 → SmallF l3)) ∧ (IsBytes W a4 l4 c4 ∧ l4.length ≤ Rows.uptoBulk d) := by
  obtain ⟨cs, rfl, hsz⟩ := okWide_struct Tryz.underlying31 hval
  obtain ⟨fuel, hf⟩ := h
  have hsz2 : cs.size = 5 := by rw [hsz]; kernel_rfl
  obtain ⟨x0, x1, x2, x3, x4, rfl⟩ : ∃ x0 x1 x2 x3 x4, cs = #[x0, x1, x2, x3, x4] := by
    match cs, hsz2 with
    | ⟨[x0, x1, x2, x3, x4]⟩, _ => exact ⟨x0, x1, x2, x3, x4, rfl⟩
  obtain ⟨ys, n, _, hdp, _, hlen, hfs⟩ := DataW.trod_struct Tryz.underlying31 hf
  obtain ⟨y0, y1, y2, y3, y4, rfl⟩ : ∃ y0 y1 y2 y3 y4, ys = [y0, y1, y2, y3, y4] := by
    match ys, hlen with
    | [y0, y1, y2, y3, y4], _ => exact ⟨y0, y1, y2, y3, y4, rfl⟩
  have h0 : DataW.trod enc Tryz.prog W base (fun _ => true) true n 3 [x0] = some y0 := by
    have e : ((Value.agg #[x0, x1, x2, x3, x4]).cells.toList.drop 0).take (Tryz.prog.cellsOf 3) = [x0] := by rw [show Tryz.prog.cellsOf 3 = 1 by kernel_rfl]; rfl
    rw [← e]; exact hfs 0 _ rfl
  have h1 : DataW.trod enc Tryz.prog W base (fun _ => true) true n 9 [x1] = some y1 := by
    have e : ((Value.agg #[x0, x1, x2, x3, x4]).cells.toList.drop 1).take (Tryz.prog.cellsOf 9) = [x1] := by rw [show Tryz.prog.cellsOf 9 = 1 by kernel_rfl]; rfl
    rw [← e]; exact hfs 1 _ rfl
  have h2 : DataW.trod enc Tryz.prog W base (fun _ => true) true n 3 [x2] = some y2 := by
    have e : ((Value.agg #[x0, x1, x2, x3, x4]).cells.toList.drop 2).take (Tryz.prog.cellsOf 3) = [x2] := by rw [show Tryz.prog.cellsOf 3 = 1 by kernel_rfl]; rfl
    rw [← e]; exact hfs 2 _ rfl
  have h3 : DataW.trod enc Tryz.prog W base (fun _ => true) true n 27 [x3] = some y3 := by
    have e : ((Value.agg #[x0, x1, x2, x3, x4]).cells.toList.drop 3).take (Tryz.prog.cellsOf 27) = [x3] := by rw [show Tryz.prog.cellsOf 27 = 1 by kernel_rfl]; rfl
    rw [← e]; exact hfs 3 _ rfl
  have h4 : DataW.trod enc Tryz.prog W base (fun _ => true) true n 23 [x4] = some y4 := by
    have e : ((Value.agg #[x0, x1, x2, x3, x4]).cells.toList.drop 4).take (Tryz.prog.cellsOf 23) = [x4] := by rw [show Tryz.prog.cellsOf 23 = 1 by kernel_rfl]; rfl
    rw [← e]; exact hfs 4 _ rfl
  have hd : d = .agg [y0.1, y1.1, y2.1, y3.1, y4.1] := by have := congrArg Prod.fst hdp; simpa using this
  obtain ⟨z0, ez0, fz0, wz0⟩ := DataW.trod_int Tryz.underlying3 h0
  injection ez0 with ez0
  subst ez0
  obtain ⟨s1, es1, fs1, zs1⟩ := DataW.trod_string Tryz.underlying9 h1
  injection es1 with es1
  subst es1
  have ls1 : s1.data.toList.length = s1.size := by rw [Array.length_toList]; rfl
  obtain ⟨z2, ez2, fz2, wz2⟩ := DataW.trod_int Tryz.underlying3 h2
  injection ez2 with ez2
  subst ez2
  obtain ⟨a3, len3, c3, rfl⟩ : ∃ a len cap, x3 = .slice a len cap := by
    rcases Go.Deep.open_slice_pairs Tryz.underlying27 Tryz.underlying88 (by kernel_rfl) (by kernel_rfl) (by kernel_rfl) (by kernel_rfl) (by kernel_rfl) h3 with ⟨hcs, _⟩ | ⟨x, k, c, m, j, V0, V1, D0, D1, P0, P1, hcs, _⟩
    · injection hcs with hcs; exact ⟨_, _, _, hcs⟩
    · injection hcs with hcs; exact ⟨_, _, _, hcs⟩
  obtain ⟨l3, rfl, hF3, hc3, hm3, hS3, hu3⟩ := open_fieldsC (d := y3.1) (ps := y3.2) ⟨n, h3⟩
  obtain ⟨a4, len4, c4, rfl⟩ : ∃ a len cap, x4 = .slice a len cap := by
    rcases open_ints Tryz.underlying23 Tryz.underlying5 (by kernel_rfl) h4 with ⟨hcs, _⟩ | ⟨x, k, c, zs, hcs, _⟩
    · injection hcs with hcs; exact ⟨_, _, _, hcs⟩
    · injection hcs with hcs; exact ⟨_, _, _, hcs⟩
  obtain ⟨l4, rfl, hb4, hl4⟩ := open_bytes_bulk (d := y4.1) (ps := y4.2) ⟨n, h4⟩
  subst hd
  subst fz0 fs1 fz2
  simp only [Rows.uptoBulk, Rows.uptoBulkAll, ls1]
  exact ⟨z0, s1, z2, l3, a3, c3, l4, a4, c4, rfl, i64_ofF wz0, zs1, by omega, i64_ofF wz2, ⟨hF3, hc3, hm3, hS3, fun hb => hu3 (by omega)⟩, ⟨hb4, by omega⟩⟩
end Go.Proofs.YteoadfckcilalaaGreatDoor
namespace Go.Proofs.YteoadfckcilalaaGreatDoor
open Go.RowKit

def Spec.bytesL (l : List UInt8) : Spec := ⟨fun v w => BytesV w v l, fun _ _ _ h hb => h.keep hb⟩
end Go.Proofs.YteoadfckcilalaaGreatDoor
namespace Go.Proofs.YteoadfckcilalaaGreatDoor
open Go.RowKit

set_option linter.unusedVariables false
section
variable {L : (Nat → Prop) × (Nat → Prop)} {N q : Nat} {s : RS} {x : NX} {w : World} {v : Value} {cs ds : Array Value} {T : TypeId} {fz : Nat × Nat}
theorem prow_noStr (k : Int) (a : Option Addr) (n c : Nat) : NoStr #[.int .i64 k, .slice a n c] := noStr_of rfl
theorem prow_noU8 (k : Int) (a : Option Addr) (n c : Nat) : NoU8 #[.int .i64 k, .slice a n c] := noU8_22 rfl
end
theorem wp_storePo {a : Act} {w : World} {o : Oper} {Q : Exit → Act → World → Prop} {K : Act → World → Prop} {y z : Operand} (ho : o.op = .store 41 y z) {g : Nat} {x x0 : NX} (h1 : a.eval y = .pointer (some ⟨g, 0, none⟩)) (h0 : PtV x0 w g) (h2 : AgP x w (a.eval z)) (hK : ∀ cs ds, PVr w g ds → NoU8 ds → NoStr ds → PtV x (w.setRow g cs) g → K (a.put o.dst undef) (w.setRow g cs)) : o.wp Tryz.prog a w K Q := by
  obtain ⟨pa0, pc0, hr0, _⟩ := h0
  obtain ⟨pa, pc, e2, h3⟩ := h2
  refine wp_store_row 41 _ _ ho g #[.int .i64 x.kind, .slice pa (List.length x.data) pc] h1 e2 41 _ hr0 sizePt rfl (onePt ..) ?_
  exact hK _ _ hr0 (prow_noU8 _ _ _ _) (prow_noStr _ _ _ _) ⟨pa, pc, setRow_heap _ _ _ _ _ _ hr0, isBytes_rowR hr0 (prow_noU8 _ _ _ _) h3⟩
end Go.Proofs.YteoadfckcilalaaGreatDoor
namespace Go.Proofs.YteoadfckcilalaaGreatDoor
open Go.RowKit

/-- One byte of a slice of the call's own is written. -/
theorem AccB.store {w0 w : World} {k n cap : Nat} {l : List UInt8} (h : AccB w0 w (.slice (some ⟨k, 0, none⟩) n cap) l) (i : Nat) (hi : i < l.length) (c : UInt8) :
    (∃ u, w.cell? ⟨k, i, none⟩ = some u) ∧ w.frozen? ⟨k, i, none⟩ = false ∧ AccB w0 (w.setCell ⟨k, i, none⟩ (.int .u8 (c.toNat : Int))) (.slice (some ⟨k, 0, none⟩) n cap) (l.set i c) := by
  obtain ⟨⟨h1, h2⟩, hb⟩ := h
  rcases h2 with ⟨e, _⟩ | ⟨g, cap', cur, e, hg, hh, hn, hm, hs, ht⟩
  · cases e
  · injection e with e1 e2 e3
    injection e1 with e1
    injection e1 with e1
    subst e1 e2 e3
    have hlt : i < cur.size := by rw [hs]; omega
    refine ⟨⟨cur[i], by rw [cell_of_row _ _ _ _ _ _ hh]; simp [hlt]⟩, frozen_of_row _ _ _ _ _ hh, ⟨?_, ?_⟩, hb.setCell (p := ⟨k, i, none⟩) hg _⟩
    · simp [Go.Proofs.YteoadfckcilalaaGreatDoor.bytesV]
    · refine .inr ⟨k, cap, cur.setIfInBounds i (.int .u8 (c.toNat : Int)), by simp, hg, heap_setCell_same _ _ _ _ _ _ hh, by simpa using hn, hm, by simpa using hs, ?_⟩
      rw [Array.toList_setIfInBounds, List.length_set, List.take_set, ht]
      unfold Go.Proofs.YteoadfckcilalaaGreatDoor.bytesV
      rw [List.map_set]

end Go.Proofs.YteoadfckcilalaaGreatDoor
namespace Go.Proofs.YteoadfckcilalaaGreatDoor
open Go.RowKit

theorem AccB.weaken {w w1 w' : World} {v : Value} {l : List UInt8} (h : AccB w1 w' v l) (hb : Below w.heap.size w w1) : AccB w w' v l := by
  obtain ⟨⟨h1, h2⟩, h3⟩ := h
  refine ⟨⟨h1, ?_⟩, hb.trans (h3.mono hb.size)⟩
  rcases h2 with h2 | ⟨g, cap, cur, hv, hg, r⟩
  · exact .inl h2
  · exact .inr ⟨g, cap, cur, hv, Nat.le_trans hb.size hg, r⟩

end Go.Proofs.YteoadfckcilalaaGreatDoor
namespace Go.Proofs.YteoadfckcilalaaGreatDoor
open Go.RowKit

/-- The worlds that keep what was there in W. -/
structure BelowOf (W : World) where
  val : World
  prop : Below W.heap.size W val
instance (W : World) : Nonempty (BelowOf W) := ⟨⟨W, Below.refl _ _⟩⟩
theorem wp_region_below_tail {P : Program} {id : Nat} {Q : Exit → Act → World → Prop} {a : Act} {w : World} {full : List Oper} (n : Nat) (hm : P.follows .mixedOrders = true)
    (hlen : full.length = n + 1) (hB : backB full = true) (hS : sinkAll .any full n = true)
    (hL : (Region.noSelect (full.take n).toArray && Region.lexFrom .any (full.take n).toArray n 0 (Array.replicate (n + 1) false)) = true)
    (h : wpQuiet P (full.take n).toArray (fun w' => ∃ b : BelowOf w, w' = b.val) (fun a' => ∀ w', (∃ b : BelowOf w, w' = b.val) → wpList P full.toArray Q (full.drop n) a' w') (full.take n) a) : (Code.region id full.toArray true).wp P Q a w :=
  wp_region_quiet_tail (C := fun w' => ∃ b : BelowOf w, w' = b.val) n hm hlen hB hS hL ⟨⟨{ w with drawn := w.drawn + 1 }, ⟨rfl, rfl, rfl, Nat.le_refl _, fun _ _ => rfl⟩⟩, rfl⟩ h
end Go.Proofs.YteoadfckcilalaaGreatDoor
namespace Go.Proofs.YteoadfckcilalaaGreatDoor
open Go.RowKit

theorem headA_ends {h : List UInt8} (h0 : (headA h).1 = 0) : endZ h = h.length ∧ 4 ≤ h.length := by
  unfold headA at h0
  split at h0
  · rename_i l0 ls hL
    unfold linesS at hL
    split at hL
    · rename_i hc; exact hc
    · cases hL
  · cases h0
theorem headR_ends {h : List UInt8} (h0 : (headR h).1 = 0) : endZ h = h.length ∧ 4 ≤ h.length := by
  unfold headR at h0
  split at h0
  · rename_i l0 ls hL
    unfold linesS at hL
    split at hL
    · rename_i hc; exact hc
    · cases hL
  · cases h0
def begR (rep : Bool) (p : ByteArray) : RS := { zeroR with rep := rep, meth := p }
theorem begR_ok (rep : Bool) (p : ByteArray) (body : Int) : OkN body (begR rep p) := ⟨⟨okC_zero, fun h => absurd h (by show ¬ (0 : Int) = 2; decide), by show (0 : Int) ≤ 0 ∧ (0 : Int) ≤ 1000000000; decide, ⟨fun f hf => absurd hf (by simp [begR, zeroR]), by show 0 ≤ 64; decide⟩, ⟨fun f hf => absurd hf (by simp [begR, zeroR]), by show 0 ≤ 64; decide⟩⟩, .inl rfl, fun h => absurd h (by show ¬ (0 : Int) = 1; decide), fun h => absurd h (by show ¬ (0 : Int) = 1; decide), fun h => absurd h (by show ¬ (0 : Int) = 1; decide), fun h => absurd h (by show ¬ (0 : Int) = 1; decide)⟩
end Go.Proofs.YteoadfckcilalaaGreatDoor
namespace Go.Proofs.YteoadfckcilalaaGreatDoor
open Go.RowKit

/-- The source stands at its number i. -/
def SrcI (w : World) (g : Nat) (a : Option Addr) (n c i : Nat) : Prop :=
  i ≤ n ∧ w.heap[g]? = some (.cells #[.slice a n c, .int .i64 i] 56 (0, 0)) ∧ n ≤ maxLen ∧ IntsF w a n ∧ ∀ x, a = some x → 0 < n → x.block ≠ g
theorem SrcI.src {w : World} {g : Nat} {a : Option Addr} {n c i : Nat} (h : SrcI w g a n c i) : Src w g a n c := ⟨⟨i, h.1, h.2.1⟩, h.2.2.1, h.2.2.2.1, h.2.2.2.2⟩
theorem Src.ex {w : World} {g : Nat} {a : Option Addr} {n c : Nat} (h : Src w g a n c) : ∃ i, SrcI w g a n c i := by
  obtain ⟨⟨i, h1, h2⟩, h3, h4, h5⟩ := h
  exact ⟨i, h1, h2, h3, h4, h5⟩
theorem SrcI.keep {w w' : World} {g : Nat} {a : Option Addr} {n c i : Nat} (h : SrcI w g a n c i) (hb : Below w.heap.size w w') : SrcI w' g a n c i :=
  ⟨h.1, by rw [hb.block g (Array.getElem?_eq_some_iff.1 h.2.1).1]; exact h.2.1, h.2.2.1, h.2.2.2.1.keep hb, h.2.2.2.2⟩
end Go.Proofs.YteoadfckcilalaaGreatDoor
namespace Go.Proofs.YteoadfckcilalaaGreatDoor
open Go.RowKit

set_option linter.unusedVariables false
theorem fldsIn_nil (w : World) : FldsIn w none [] := FldsIn.nil w none
theorem begR_mem (rep : Bool) (p : ByteArray) (w : World) : RMem (fun _ => True) w (begR rep p) none none none 0 :=
  ⟨fldsIn_nil w, fldsIn_nil w, .inl ⟨rfl, rfl, rfl⟩, (fun _ e => by cases e), (fun _ e => by cases e)⟩
theorem begR_nm (rep : Bool) (p : ByteArray) : NmS (begR rep p) := nmS_zero
end Go.Proofs.YteoadfckcilalaaGreatDoor
namespace Go.Proofs.YteoadfckcilalaaGreatDoor
open Go.RowKit

set_option linter.unusedVariables false
/-- What Wire adds to a request's fields; the body as it sends it; all of it. -/
def reqT (fr ch : Bool) (z : Int) (l : List UInt8) : List Fld := if fr = true then (if ch = true ∧ z = 1 then [((⟨#[84, 114, 97, 110, 115, 102, 101, 114, 45, 69, 110, 99, 111, 100, 105, 110, 103]⟩ : ByteArray), (⟨#[99, 104, 117, 110, 107, 101, 100]⟩ : ByteArray))] else [((⟨#[67, 111, 110, 116, 101, 110, 116, 45, 76, 101, 110, 103, 116, 104]⟩ : ByteArray), fmtS 10 l.length)]) else []
end Go.Proofs.YteoadfckcilalaaGreatDoor
namespace Go.Proofs.YteoadfckcilalaaGreatDoor
open Go.RowKit

set_option linter.unusedVariables false
theorem namesF_fold : (namesF.all fun s => !foldS s clN && !foldS s teN && !foldS s hostN) = true := by decide +kernel
theorem SrcF.fold {f : Fld} (h : SrcF f) : foldS f.1 clN = false ∧ foldS f.1 teN = false ∧ foldS f.1 hostN = false := by
  obtain ⟨s, hs, v, hv, rfl⟩ := h
  have := List.all_eq_true.1 namesF_fold s hs
  simp only [Bool.and_eq_true, Bool.not_eq_true'] at this
  exact ⟨this.1.1, this.1.2, this.2⟩
theorem valuesL_appR (x y : List Fld) (n : ByteArray) : valuesL (x ++ y) n = valuesL x n ++ valuesL y n := by
  unfold valuesL; rw [List.filter_append, List.map_append]
theorem valuesL_noneR {x : List Fld} {n : ByteArray} (h : ∀ f ∈ x, foldS f.1 n = false) : valuesL x n = [] := by
  unfold valuesL
  rw [List.filter_eq_nil_iff.2 (fun f hf => by rw [h f hf]; decide)]
  rfl
theorem hasL_noneR {x : List Fld} {n : ByteArray} (h : ∀ f ∈ x, foldS f.1 n = false) : hasL x n = false := by
  unfold hasL
  rw [List.any_eq_false]
  exact fun f hf => by rw [h f hf]; decide
theorem linesB_appR (x y : List Fld) : (linesB (x ++ y)).length = (linesB x).length + (linesB y).length := by
  unfold linesB; rw [List.flatMap_append, List.length_append]
theorem cook_line {s : ByteArray} (h : IdOk s) : (linesB [cookF s]).length = 33 := by
  have h1 : (cohort ++ s).data.toList = cohort.data.toList ++ s.data.toList := ba_app_list _ _
  have h2 : s.data.toList.length = 16 := by rw [Array.length_toList]; exact h.1
  show (lineB (cookF s) ++ []).length = 33
  rw [List.append_nil]
  unfold lineB
  show (_ ++ _ ++ (cohort ++ s).data.toList ++ _).length = 33
  rw [h1]
  simp only [List.length_append, h2]
  rfl
/-- What there is to know of a made request's fields. -/
def FldOk (x : List Fld) (n : Nat) : Prop := (∀ f ∈ x, foldS f.1 clN = false ∧ foldS f.1 teN = false) ∧ (valuesL x hostN).length = 1 ∧ (linesB x).length ≤ n
theorem FldOk.add {x : List Fld} {n k : Nat} {f : Fld} (h : FldOk x n) (h1 : foldS f.1 clN = false) (h2 : foldS f.1 teN = false) (h3 : foldS f.1 hostN = false) (h4 : (linesB [f]).length = k) : FldOk (x ++ [f]) (n + k) := by
  refine ⟨fun g hg => ?_, ?_, ?_⟩
  · rcases List.mem_append.1 hg with h5 | h5
    · exact h.1 g h5
    · obtain rfl := List.mem_singleton.1 h5; exact ⟨h1, h2⟩
  · rw [valuesL_appR, List.length_append, h.2.1, valuesL_noneR (x := [f]) (fun g hg => by obtain rfl := List.mem_singleton.1 hg; exact h3)]; rfl
  · rw [linesB_appR, h4]; have := h.2.2; omega
theorem RF1.ok {x : List Fld} (h : RF1 x) : FldOk x 201 := by
  obtain ⟨y, h1, h2, rfl⟩ := h
  refine ⟨fun f hf => ?_, ?_, ?_⟩
  · rcases List.mem_append.1 hf with h | h
    · exact ⟨(h1 f h).fold.1, (h1 f h).fold.2.1⟩
    · obtain rfl := List.mem_singleton.1 h; exact ⟨by decide +kernel, by decide +kernel⟩
  · rw [valuesL_appR, List.length_append, valuesL_noneR (x := y) (fun f hf => (h1 f hf).fold.2.2)]
    have : (valuesL [hostF] hostN).length = 1 := by decide +kernel
    rw [this]; rfl
  · have h3 := linesB_tiny y (fun f hf => (h1 f hf).tiny)
    have h4 : (linesB [hostF]).length = 9 := by decide
    rw [linesB_appR, h4]; omega
theorem RF3.ok {x : List Fld} (h : RF3 x) : FldOk x 260 := by
  have h2 : ∀ {y : List Fld}, RF2 y → FldOk y 234 := fun {y} h => by
    rcases h with h | ⟨y, s, h1, h2, rfl⟩
    · exact ⟨h.ok.1, h.ok.2.1, Nat.le_trans h.ok.2.2 (by decide)⟩
    · exact h1.ok.add (f := cookF s) (by show foldS ⟨#[67, 111, 111, 107, 105, 101]⟩ clN = false; decide +kernel) (by show foldS ⟨#[67, 111, 111, 107, 105, 101]⟩ teN = false; decide +kernel) (by show foldS ⟨#[67, 111, 111, 107, 105, 101]⟩ hostN = false; decide +kernel) (cook_line h2)
  rcases h with h | ⟨y, h1, rfl⟩
  · exact ⟨(h2 h).1, (h2 h).2.1, Nat.le_trans (h2 h).2.2 (by decide)⟩
  · have h3 := (h2 h1).add (f := expF) (k := 22) (by decide +kernel) (by decide +kernel) (by decide +kernel) (by decide)
    exact ⟨h3.1, h3.2.1, Nat.le_trans h3.2.2 (by decide)⟩
theorem frame_none {x : List Fld} {n : Nat} (h : FldOk x n) (z : Int) : frameS z x 1 = (1, 0, 0) :=
  frameS_none (hasL_noneR fun f hf => (h.1 f hf).2) (valuesL_noneR fun f hf => (h.1 f hf).1)
theorem frame_len {x : List Fld} {n : Nat} (h : FldOk x n) (z : Int) (k : Nat) (hk : k ≤ 30) : frameS z (x ++ [((⟨#[67, 111, 110, 116, 101, 110, 116, 45, 76, 101, 110, 103, 116, 104]⟩ : ByteArray), fmtS 10 (k : Int))]) 1 = (2, (k : Int), 0) := by
  have hp : ∀ j : Fin 31, parseS 10 1000000000 (fmtS 10 (j.val : Int)) = ((j.val : Int), 0) := by decide +kernel
  have h1 : foldS ⟨#[67, 111, 110, 116, 101, 110, 116, 45, 76, 101, 110, 103, 116, 104]⟩ clN = true := by decide +kernel
  have h2 : foldS ⟨#[67, 111, 110, 116, 101, 110, 116, 45, 76, 101, 110, 103, 116, 104]⟩ teN = false := by decide +kernel
  have hv : valuesL (x ++ [((⟨#[67, 111, 110, 116, 101, 110, 116, 45, 76, 101, 110, 103, 116, 104]⟩ : ByteArray), fmtS 10 (k : Int))]) clN = [fmtS 10 (k : Int)] := by
    rw [valuesL_appR, valuesL_noneR fun f hf => (h.1 f hf).1]
    unfold valuesL
    simp [h1]
  rw [frameS_len (hasL_noneR fun f hf => by
    rcases List.mem_append.1 hf with h3 | h3
    · exact (h.1 f h3).2
    · obtain rfl := List.mem_singleton.1 h3; exact h2) hv, hp ⟨k, by omega⟩]
  rw [if_neg (by simp), if_pos rfl]
end Go.Proofs.YteoadfckcilalaaGreatDoor
namespace Go.Proofs.YteoadfckcilalaaGreatDoor
open Go.RowKit

set_option linter.unusedVariables false
/-- What is added to a request's fields. -/
structure AddOk (T : List Fld) : Prop where
  al : allB T = true
  ho : valuesL T hostN = []
  li : (linesB T).length ≤ 28
  le : T.length ≤ 1
  sm : SmallF T
theorem addOk (fr ch : Bool) (z : Int) (l : List UInt8) (hl : l.length ≤ 30) : AddOk (reqT fr ch z l) := by
  have hp : ∀ j : Fin 31, fldB ⟨#[67, 111, 110, 116, 101, 110, 116, 45, 76, 101, 110, 103, 116, 104]⟩ (fmtS 10 (j.val : Int)) = true ∧ (fmtS 10 (j.val : Int)).size ≤ 3 := by decide +kernel
  have hk := hp ⟨l.length, by omega⟩
  unfold reqT
  split
  · split
    · exact ⟨by decide +kernel, by decide +kernel, by decide, by decide, fun f hf => by obtain rfl := List.mem_singleton.1 hf; exact ⟨by decide, by decide⟩⟩
    · refine ⟨?_, ?_, ?_, Nat.le_refl _, fun f hf => ?_⟩
      · unfold allB
        simp only [List.all_cons, List.all_nil, Bool.and_true]
        exact hk.1
      · exact valuesL_noneR fun f hf => by obtain rfl := List.mem_singleton.1 hf; show foldS ⟨#[67, 111, 110, 116, 101, 110, 116, 45, 76, 101, 110, 103, 116, 104]⟩ hostN = false; decide +kernel
      · show (lineB _ ++ []).length ≤ 28
        rw [List.append_nil]
        unfold lineB
        have h2 : (fmtS 10 (l.length : Int)).data.toList.length ≤ 3 := by rw [Array.length_toList]; exact hk.2
        simp only [List.length_append]
        have h3 : (⟨#[67, 111, 110, 116, 101, 110, 116, 45, 76, 101, 110, 103, 116, 104]⟩ : ByteArray).data.toList.length = 14 := rfl
        rw [h3]
        simp only [List.length_cons, List.length_nil]
        omega
      · obtain rfl := List.mem_singleton.1 hf
        exact ⟨by show 14 ≤ 1048576; decide, Nat.le_trans hk.2 (by decide)⟩
  · exact ⟨rfl, rfl, by decide, by decide, fun f hf => by cases hf⟩
theorem req_head {m t : ByteArray} {z : Int} {x T : List Fld} (hm : m ∈ methF) (ht : t ∈ targF) (hz : z = 0 ∨ z = 1) (hx : RF3 x) (hT : AddOk T) :
    headR (headB (fmtReq m t z) (x ++ T)) = (0, m, t, z, x ++ T) ∧ 4 ≤ (headB (fmtReq m t z) (x ++ T)).length ∧ (headB (fmtReq m t z) (x ++ T)).length ≤ 400 := by
  have hal : allB (x ++ T) = true := by
    unfold allB
    rw [List.all_append, Bool.and_eq_true]
    exact ⟨allB_yes fun f hf => (hx.made.1 f hf).1, hT.al⟩
  have hho : (valuesL (x ++ T) hostN).length = 1 := by rw [valuesL_appR, hT.ho, List.append_nil, hx.ok.2.1]
  obtain ⟨h0, h1⟩ := fmtReq_made hm ht hz
  have hb := headB_yes (s := fmtReq m t z) (x := x ++ T) (by omega) hal
  have hlen : (headB (fmtReq m t z) (x ++ T)).length = (fmtReq m t z).size + 2 + ((linesB x).length + (linesB T).length) + 2 := by
    have h3 : (fmtReq m t z).data.toList.length = (fmtReq m t z).size := by rw [Array.length_toList]; rfl
    rw [hb]
    simp only [List.length_append, List.length_cons, List.length_nil, linesB_appR, h3]
  refine ⟨?_, ?_, ?_⟩
  · rw [headR_made (meth_at hm).1 (targ_at ht).1 hz hal, if_neg (by rw [List.length_append]; have := hx.made.2; have := hT.le; omega), hho, if_neg (by omega)]
  · rw [hlen]; omega
  · rw [hlen]; have := hx.ok.2.2; have := hT.li; omega
end Go.Proofs.YteoadfckcilalaaGreatDoor
namespace Go.Proofs.YteoadfckcilalaaGreatDoor
open Go.RowKit

set_option linter.unusedVariables false
theorem endS_most {h r : List UInt8} {most : Int} (h1 : endZ h = h.length) (h2 : 4 ≤ h.length) (h3 : (h.length : Int) ≤ most) : endS (h ++ r) most = ((h.length : Int), 0) := by
  have h4 := endZ_take (h ++ r) h.length
  rw [List.take_left, h1] at h4
  unfold endS
  split at h4
  · rw [if_pos (by omega), ← h4]
  · omega
theorem txt_frame {st : Int} {n : Nat} (h0 : 200 ≤ st) (hn : n ≤ 500) : replyS ⟨#[71, 69, 84]⟩ st 1 (makeX txtWr n) = if st = 204 ∨ st = 304 then (1, 0, 0) else (2, (n : Int), 0) := by
  have hg : ¬ (⟨#[71, 69, 84]⟩ : ByteArray) = headN := by decide
  unfold replyS noBody
  by_cases h1 : st = 204 ∨ st = 304
  · rw [if_pos h1, if_pos (by rcases h1 with rfl | rfl <;> simp)]
  · rw [if_neg h1, if_neg (by
      simp only [Bool.or_eq_true, Bool.and_eq_true, decide_eq_true_eq]
      rintro (((h | h) | h) | h)
      · exact hg h
      · omega
      · exact h1 (.inl h)
      · exact h1 (.inr h)), frameS_len txt_te txt_cl, (txt_num hn).2.2, if_neg (by simp), if_pos rfl]
/-- What is read of a text reply: its head first. -/
theorem txt_first {st : Int} {t : List UInt8} (h0 : 200 ≤ st) (h1 : st ≤ 599) (hn : t.length ≤ 500) : ∃ s : RS, nextX (begR true ⟨#[71, 69, 84]⟩) (txtH st t.length ++ t) 1000 1000 1000 = ⟨0, s, 1, [], (txtH st t.length).length⟩ ∧ s.st = st ∧ s.ph = 1 ∧ s.fk = (if st = 204 ∨ st = 304 then 1 else 2) ∧ s.left = (if st = 204 ∨ st = 304 then 0 else (t.length : Int)) := by
  obtain ⟨hh, hl⟩ := txt_head (st := st) (n := t.length) (by omega) h1 hn
  obtain ⟨he1, he2⟩ := headA_ends (h := txtH st t.length) (by rw [hh])
  have hE := endS_most (r := t) (most := 1000) he1 he2 (by omega)
  have hf := txt_frame (st := st) h0 hn
  unfold nextX
  rw [if_pos (show (begR true ⟨#[71, 69, 84]⟩).ph = 0 from rfl)]
  unfold firstX
  rw [hE, if_neg (show ¬ (0 : Int) = 4 by decide), if_neg (fun h => h rfl)]
  dsimp only
  rw [Int.toNat_natCast, List.take_left]
  unfold headX
  rw [if_pos (show (begR true ⟨#[71, 69, 84]⟩).rep = true from rfl), hh, if_neg (fun h => h rfl)]
  dsimp only
  rw [if_neg (show ¬ st = 101 by omega), if_neg (show ¬ (100 ≤ st ∧ st ≤ 199) by omega)]
  rw [show (begR true ⟨#[71, 69, 84]⟩).meth = ⟨#[71, 69, 84]⟩ from rfl, hf]
  by_cases hc : st = 204 ∨ st = 304
  · simp only [if_pos hc]
    unfold finX
    rw [if_neg (fun h => h rfl), if_neg (show ¬ ((1 : Int) = 2 ∧ _) from fun h => absurd h.1 (by decide))]
    exact ⟨_, rfl, rfl, rfl, rfl, rfl⟩
  · simp only [if_neg hc]
    unfold finX
    rw [if_neg (fun h => h rfl), if_neg (show ¬ ((2 : Int) = 2 ∧ (1000 : Int) < (t.length : Int)) from fun h => absurd h.2 (by omega))]
    exact ⟨_, rfl, rfl, rfl, rfl, rfl⟩
theorem txt_second {s : RS} {t : List UInt8} (hp : s.ph = 1) (hk : s.fk = 2) (hl : s.left = (t.length : Int)) (hn : t.length ≤ 500) : ∃ s2 k, nextX s t 1000 1000 1000 = ⟨0, s2, k, t, t.length⟩ := by
  unfold nextX
  rw [if_neg (by omega), if_pos hp, if_neg (show ¬ (1000 : Int) ≤ 0 by decide)]
  unfold moreX
  rw [if_pos (.inr hk)]
  by_cases h0 : t.length = 0
  · rw [if_pos (.inr (by omega))]
    obtain rfl := List.eq_nil_of_length_eq_zero h0
    exact ⟨_, _, rfl⟩
  · have e1 : minI (minI s.left 1000) (t.length : Int) = (t.length : Int) := by
      unfold minI
      rw [hl, if_pos (show (t.length : Int) ≤ 1000 by omega), if_pos (Int.le_refl _)]
    rw [if_neg (by omega), e1, if_neg (by omega), Int.toNat_natCast, List.take_length]
    exact ⟨_, _, rfl⟩
/-- A request that is written with its length. -/
def lenT (fr : Bool) (l : List UInt8) : List Fld := if fr = true then [(clWr, fmtS 10 (l.length : Int))] else []
theorem lenT_eq (fr : Bool) (z : Int) (l : List UInt8) : reqT fr false z l = lenT fr l := by
  unfold reqT lenT
  cases fr
  · rfl
  · rw [if_pos rfl, if_neg (fun h => absurd h.1 (by decide)), if_pos rfl]; rfl
theorem body_first {m t : ByteArray} {z : Int} {x : List Fld} {fr : Bool} {l : List UInt8} (hm : m ∈ methF) (ht : t ∈ targF) (hz : z = 0 ∨ z = 1) (hx : RF3 x) (hl : l.length ≤ 30) :
    (headB (fmtReq m t z) (x ++ lenT fr l)).length ≤ 400 ∧ 4 ≤ (headB (fmtReq m t z) (x ++ lenT fr l)).length ∧ SmallF (x ++ lenT fr l) ∧
    ∃ s : RS, nextX zeroR (headB (fmtReq m t z) (x ++ lenT fr l) ++ l) 1000 1000 1000 = ⟨0, s, 1, [], (headB (fmtReq m t z) (x ++ lenT fr l)).length⟩ ∧ s.m = m ∧ s.t = t ∧ s.fr = fr := by
  have hT := addOk fr false z l hl
  rw [lenT_eq] at hT
  obtain ⟨hh, h4, h400⟩ := req_head (x := x) hm ht hz hx hT
  obtain ⟨he1, he2⟩ := headR_ends (h := headB (fmtReq m t z) (x ++ lenT fr l)) (by rw [hh])
  refine ⟨h400, h4, fun f hf => ?_, ?_⟩
  · rcases List.mem_append.1 hf with h | h
    · exact hx.tiny.small f h
    · exact hT.sm f h
  have hE := endS_most (r := l) (most := 1000) he1 he2 (by omega)
  obtain ⟨k, j, hf, hj, hk⟩ : ∃ k j : Int, frameS z (x ++ lenT fr l) 1 = (k, j, 0) ∧ j ≤ 30 ∧ (!decide (k = 1)) = fr := by
    cases fr with
    | false =>
      rw [show lenT false l = [] from rfl, List.append_nil]
      exact ⟨1, 0, frame_none hx.ok z, by decide, rfl⟩
    | true => exact ⟨2, (l.length : Int), by rw [show lenT true l = [(clWr, fmtS 10 (l.length : Int))] from rfl]; exact frame_len hx.ok z l.length hl, by omega, rfl⟩
  unfold nextX
  rw [if_pos (show zeroR.ph = 0 from rfl)]
  unfold firstX
  rw [hE, if_neg (show ¬ (0 : Int) = 4 by decide), if_neg (fun h => h rfl)]
  dsimp only
  rw [Int.toNat_natCast, List.take_left]
  unfold headX
  rw [if_neg (show ¬ zeroR.rep = true by decide), hh, if_neg (fun h => h rfl)]
  dsimp only
  rw [hf]
  unfold finX
  rw [if_neg (fun h => h rfl), if_neg (show ¬ (k = 2 ∧ (1000 : Int) < j) from fun h => absurd h.2 (by omega))]
  exact ⟨_, rfl, rfl, rfl, hk⟩
end Go.Proofs.YteoadfckcilalaaGreatDoor
namespace Go.Proofs.YteoadfckcilalaaGreatDoor
open Go.RowKit

set_option linter.unusedVariables false
/-- The two variables of the first call, the bytes. -/
structure WrJ (w : World) (g : Nat) (s : RS) (y : NX) (va : Option Addr) (b : List UInt8) (vc : Nat) (W : World) : Prop where
  st : StV (fun k => k ≠ g, fun _ => True) s W g
  pt : PtV y W (g + 1)
  bt : IsBytes W va b vc
  bl : Below w.heap.size w W
  lo : w.heap.size ≤ g ∧ g + 1 < W.heap.size
theorem WrJ.keep {w : World} {g : Nat} {s : RS} {y : NX} {va : Option Addr} {b : List UInt8} {vc : Nat} {W W' : World} (h : WrJ w g s y va b vc W) (hb : Below W.heap.size W W') : WrJ w g s y va b vc W' :=
  ⟨h.st.keep hb, h.pt.keep hb, h.bt.keep hb, below_trans h.bl hb, h.lo.1, Nat.lt_of_lt_of_le h.lo.2 hb.size⟩
theorem txt_cut (t : ByteArray) : (t.extract 0 500).size ≤ 500 := by
  rw [ByteArray.size_extract]; omega
set_option maxRecDepth 100000 in
set_option maxHeartbeats 2000000 in
theorem writerRead_any (st0 : Int) (text : ByteArray) (mm : Int) (w : World) (hts : text.size ≤ 140737488351232) (hk : HdOk w mm) (htb : Tabs w) (hre : ReasT w) :
    Calls Tryz.prog 6 #[.int .i64 st0, .string text] w fun e w' => e = .returned (.bool true) ∧ Below w.heap.size w w' := by
  have HOK := Box.mk hk
  have HTB := Box.mk htb
  have HRE := Box.mk hre
  clear hk htb hre
  go_enter Tryz.func6, Tryz.ntmps6
  go_wp2_with fail
  obtain ⟨q, hq, hqe⟩ := withI_range st0 400 (by decide) (by decide)
  refine (withinF st0 400 w (by decide) (by decide)).mono ?_
  rintro e w1 ⟨he, hww⟩
  subst hww
  rw [hqe] at he
  subst he
  clear hqe
  by_cases hc : 500 < text.size
  case' pos =>
    have HTZ := Box.mk (txt_cut text)
    go_upto_region 4 with fail
    generalize text.extract 0 500 = tx at *
  case' neg =>
    have HTZ := Box.mk (show text.size ≤ 500 by omega)
    go_upto_region 4 with fail
    generalize text = tx at *
  all_goals
    obtain ⟨st, hst⟩ : ∃ st : Int, st = 200 + (q : Int) := ⟨_, rfl⟩
    have HST := Box.mk (show 200 ≤ st ∧ st ≤ 599 by omega)
    go_wp2_with fail
    rw [← hst]
    clear hst hq
    obtain ⟨d, hd⟩ : ∃ d : List UInt8, d = tx.data.toList := ⟨_, rfl⟩
    have hdl : tx.size = d.length := by rw [hd]; rfl
    have HDL := Box.mk (show d.length ≤ 500 by rw [← hdl]; exact HTZ.out)
    have HTX := Box.mk (show tx = ⟨d.toArray⟩ by rw [hd])
    refine (projText_any st tx [] none 0 _ (by have := HTZ.out; omega) ⟨FldsIn.nil _ _, fun _ => ⟨rfl, rfl⟩⟩ (by decide) HTB.out HRE.out).mono ?_
    rintro e w2 ⟨fa, fc, ba, bc, he, hf2, hi2, hb2⟩
    rw [List.append_nil, ← hd] at he
    rw [List.append_nil] at hf2
    rw [← hd] at hi2
    rw [hdl] at he hf2
    rw [show List.length (makeX txtWr (d.length : Int)) = 2 from rfl] at he
    subst he
    obtain ⟨hh1, hh2⟩ := txt_head (st := st) (n := d.length) (by have := HST.out.1; omega) HST.out.2 HDL.out
    have hz := fmtRep_len (st := st) (by have := HST.out.1; omega) HST.out.2
    have HHL := Box.mk hh2
    have HCALL := Box.mk (show Calls Tryz.prog 25 #[.agg #[.int .i64 st, .string (reasS st), .int .i64 1, .slice fa 2 fc, .slice ba d.length bc]] w2 (RetHdO w2 (wrB (txtH st d.length) d)) from
      projRep_any st (reasS st) 1 (makeX txtWr d.length) d fa ba fc bc mm w2 (by have := reasS_size st; omega) hf2 (txt_small HDL.out) (by show 2 ≤ 100; decide) (by omega) hi2 (by show (txtH st d.length).length + _ ≤ _; have := HDL.out; omega) (tabs_below HTB.out hb2))
    have HB2 := Box.mk hb2
    have h4 := (headA_ends (h := txtH st d.length) (by rw [hh1])).2
    have HWE := Box.mk (show wrB (txtH st d.length) d = txtH st d.length ++ d from if_neg (by omega))
    have HNX := Box.mk (txt_first (st := st) (t := d) HST.out.1 HST.out.2 HDL.out)
    clear hf2 hi2 hb2 hh1 hh2 hz h4 hd hdl
    go_wp2_with fail
    refine HCALL.out.mono ?_
    rintro e w8 ⟨v, rfl, ho8, hb8⟩
    rw [HWE.out] at ho8
    obtain ⟨h, hhe⟩ : ∃ h, h = txtH st d.length := ⟨_, rfl⟩
    rw [← hhe] at ho8
    have HHL2 := Box.mk (show h.length ≤ 200 by rw [hhe]; exact HHL.out)
    have HNX2 := Box.mk (show ∃ s : RS, nextX (begR true ⟨#[71, 69, 84]⟩) (h ++ d) 1000 1000 1000 = ⟨0, s, 1, [], h.length⟩ ∧ s.st = st ∧ s.ph = 1 ∧ s.fk = (if st = 204 ∨ st = 304 then 1 else 2) ∧ s.left = (if st = 204 ∨ st = 304 then 0 else (d.length : Int)) by rw [hhe]; exact HNX.out)
    obtain ⟨b, hb⟩ : ∃ b, b = h ++ d := ⟨_, rfl⟩
    rw [← hb] at ho8
    have HBL := Box.mk (show b.length = h.length + d.length ∧ b.drop h.length = d from by rw [hb]; exact ⟨List.length_append, List.drop_left⟩)
    rw [← hb] at HNX2
    obtain ⟨va, vc, rfl, hvb⟩ := ho8.form
    have HVB := Box.mk hvb
    have HB8 := Box.mk (below_trans HB2.out hb8)
    clear hhe hb hb8 hvb ho8 HB2 HCALL HWE HNX HHL
    go_wp2_with fail
    refine (forReply_any _ w8).mono ?_
    rintro e w9 ⟨rfl, hb9⟩
    have HB9 := Box.mk (below_trans HB8.out hb9)
    have HVB9 := Box.mk (HVB.out.keep hb9)
    clear hb9 HVB HB8
    go_wp2_with fail
    refine (projNext_any (fun _ => True) (begR true ⟨#[71, 69, 84]⟩) b 1000 1000 1000 va vc none none none 0 0 0 w9 mm HVB9.out (by have := HBL.out.1; have := HHL2.out; have := HDL.out; omega) (begR_mem ..) (HOK.out.keep HB9.out) (begR_ok ..) (by decide) (by decide) (fun _ _ => trivial)).mono ?_
    rintro e w10 ⟨f4, c4, g4, d4, l4, e4, pa, pc, he, hrm, hpd, hb10⟩
    obtain ⟨s, hs, hsst, hsph, hsfk, hslf⟩ := HNX2.out
    have HSS := Box.mk (And.intro hsph (And.intro hsfk hslf))
    have HOKS := Box.mk (show OkN 1000 s from by
      have := nextX_ok (s := begR true ⟨#[71, 69, 84]⟩) (b := b) (most := 1000) (body := 1000) (room := 1000) (by decide) (by have := HBL.out.1; have := HHL2.out; have := HDL.out; omega) (begR_ok ..) (by rw [hs])
      rw [hs] at this
      exact this.1)
    have HNMS := Box.mk (show NmS s from by
      have := nextX_names (begR_nm true ⟨#[71, 69, 84]⟩) b 1000 1000 1000
      rw [hs] at this
      exact this)
    rw [hs] at he hrm hpd
    dsimp only at he hrm hpd
    subst he
    obtain ⟨cr, hcr⟩ : ∃ cr : Array Value, cr = #[.bool s.rep, .string s.meth, .int .i64 s.ph, .string s.m, .string s.t, .int .i64 s.z, .slice f4 (List.length s.xs) c4, .bool s.fr, .slice none 0 0, .int .i64 s.st, .string s.rs, .int .i64 s.z2, .slice g4 (List.length s.ys) d4, .slice none 0 0, .int .i64 s.fk, .int .i64 s.fl, .int .i64 s.left, .int .i64 s.size, .int .i64 s.ck.ph, .int .i64 s.ck.left, .int .i64 s.ck.tr, .slice l4 (List.length s.ck.line) e4] := ⟨_, rfl⟩
    have HCR := Box.mk hcr
    have hcr22 : cr.size = 22 := by rw [hcr]; rfl
    have hcr1 : cr.all (·.oneCell') = true := by rw [hcr]; exact oneRd ..
    have hc9 : cr[9]? = some (.int .i64 st) := by rw [hcr, ← hsst]; rfl
    have hc14 : cr[14]? = some (.int .i64 s.fk) := by rw [hcr]; rfl
    rw [← hcr]
    obtain ⟨pr, hpr⟩ : ∃ pr : Array Value, pr = #[.int .i64 1, .slice pa 0 pc] := ⟨_, rfl⟩
    have HPR := Box.mk hpr
    have hp0 : pr[0]? = some (.int .i64 1) := by rw [hpr]; rfl
    have hpr2 : pr.size = 2 := by rw [hpr]; rfl
    have hpr1 : pr.all (·.oneCell') = true := by rw [hpr]; simp [Value.oneCell']
    have HSR := Box.mk (show (Tryz.prog.info? 37).map (·.size) = some cr.size by rw [hcr22]; exact sizeRd)
    have HSP := Box.mk (show (Tryz.prog.info? 41).map (·.size) = some pr.size by rw [hpr2]; exact sizePt)
    simp only [List.length_nil]
    rw [← hpr]
    obtain ⟨W10, hW10⟩ : ∃ W10, W10 = (w10.alloc (.cells #[.bool false, .string ⟨#[]⟩, .int .i64 0, .string ⟨#[]⟩, .string ⟨#[]⟩, .int .i64 0, .slice none 0 0, .bool false, .slice none 0 0, .int .i64 0, .string ⟨#[]⟩, .int .i64 0, .slice none 0 0, .slice none 0 0, .int .i64 0, .int .i64 0, .int .i64 0, .int .i64 0, .int .i64 0, .int .i64 0, .int .i64 0, .slice none 0 0] 37)).alloc (.cells #[.int .i64 0, .slice none 0 0] 41) := ⟨_, rfl⟩
    have HX10 := Box.mk (show RVr W10 w10.heap.size #[.bool false, .string ⟨#[]⟩, .int .i64 0, .string ⟨#[]⟩, .string ⟨#[]⟩, .int .i64 0, .slice none 0 0, .bool false, .slice none 0 0, .int .i64 0, .string ⟨#[]⟩, .int .i64 0, .slice none 0 0, .slice none 0 0, .int .i64 0, .int .i64 0, .int .i64 0, .int .i64 0, .int .i64 0, .int .i64 0, .int .i64 0, .slice none 0 0] by
      rw [hW10]; exact ((below_oneF (w10.alloc (.cells #[.bool false, .string ⟨#[]⟩, .int .i64 0, .string ⟨#[]⟩, .string ⟨#[]⟩, .int .i64 0, .slice none 0 0, .bool false, .slice none 0 0, .int .i64 0, .string ⟨#[]⟩, .int .i64 0, .slice none 0 0, .slice none 0 0, .int .i64 0, .int .i64 0, .int .i64 0, .int .i64 0, .int .i64 0, .int .i64 0, .int .i64 0, .slice none 0 0] 37)) _).block _ (by rw [World.size_alloc]; omega)).trans (heap_alloc_new _ _))
    have HP10 := Box.mk (show PVr (W10.setRow w10.heap.size cr) (w10.heap.size + 1) #[.int .i64 0, .slice none 0 0] by
      have h := heap_alloc_new (w10.alloc (.cells #[.bool false, .string ⟨#[]⟩, .int .i64 0, .string ⟨#[]⟩, .string ⟨#[]⟩, .int .i64 0, .slice none 0 0, .bool false, .slice none 0 0, .int .i64 0, .string ⟨#[]⟩, .int .i64 0, .slice none 0 0, .slice none 0 0, .int .i64 0, .int .i64 0, .int .i64 0, .int .i64 0, .int .i64 0, .int .i64 0, .int .i64 0, .slice none 0 0] 37)) (.cells #[.int .i64 0, .slice none 0 0] 41)
      rw [World.size_alloc] at h
      exact (setRow_other _ _ _ _ (by omega)).trans (by rw [hW10]; exact h))
    obtain ⟨W11, hW11⟩ : ∃ W11, W11 = (W10.setRow w10.heap.size cr).setRow (w10.heap.size + 1) pr := ⟨_, rfl⟩
    have hb11 : Below w10.heap.size w10 W11 := by rw [hW11]; exact below_setRow (below_setRow (by rw [hW10]; exact below_twoF (below_oneF _ _) _) (Nat.le_refl _) _) (by omega) _
    have hrow : RVr W11 w10.heap.size cr := by rw [hW11]; exact (setRow_other _ _ _ _ (by omega)).trans (setRow_heap _ _ _ _ _ _ HX10.out)
    have hprow : PVr W11 (w10.heap.size + 1) pr := by rw [hW11]; exact setRow_heap _ _ _ _ _ _ HP10.out
    have hm11 := hrm.keep hb11
    have HJ := Box.mk (show WrJ w1 w10.heap.size s ⟨0, s, 1, [], h.length⟩ va b vc W11 from
      ⟨⟨f4, c4, g4, d4, l4, e4, by rw [← HCR.out]; exact hrow, ⟨hm11.f1, hm11.f2, hm11.ln, fun y e hx => by have := hrm.f1.old e hx; show y.block ≠ _; omega, fun y e hx => by have := hrm.f2.old e hx; show y.block ≠ _; omega⟩, fun _ _ _ => trivial⟩,
        ⟨pa, pc, by show PVr _ _ #[.int .i64 1, .slice pa 0 pc]; rw [← HPR.out]; exact hprow, hpd.keep hb11⟩, HVB9.out.keep (below_trans hb10 hb11), below_trans (below_trans HB9.out hb10) hb11, by have := HB9.out.size; have := hb10.size; omega, lt_row hprow⟩)
    have hk0 : W11.cell? ⟨w10.heap.size + 1, 0, none⟩ = some (.int .i64 1) := by rw [cell_of_row _ _ _ _ _ _ hprow]; exact hp0
    have hk9 : W11.cell? ⟨w10.heap.size, 9, none⟩ = some (.int .i64 st) := by rw [cell_of_row _ _ _ _ _ _ hrow]; exact hc9
    have hk14 : W11.cell? ⟨w10.heap.size, 14, none⟩ = some (.int .i64 s.fk) := by rw [cell_of_row _ _ _ _ _ _ hrow]; exact hc14
    have HW11 := Box.mk hW11
    have HW10 := Box.mk hW10
    have hle : h.length ≤ b.length := by have := HBL.out.1; omega
    rw [hW10] at HX10 HP10
    clear hs hrm hpd hb10 hcr hc9 hc14 hpr hp0 hb11 hrow hprow hm11 hsst hsph hsfk hslf hW10 hW11 HB9 HVB9 HNX2
    go_upto_region 6 with (first | (refine wpList_store_row rfl 37 _ _ rfl w10.heap.size cr rfl rfl 37 _ HX10.out HSR.out hcr22.symm hcr1 ?_) | (refine wpList_store_row rfl 41 _ _ rfl (w10.heap.size + 1) pr rfl rfl 41 _ HP10.out HSP.out hpr2.symm hpr1 ?_))
    rw [← HW10.out, ← HW11.out]
    clear HW10 HW11 HX10 HP10 HSR HSP hcr22 hcr1 hpr2 hpr1 HCR HPR
    have HJ2 := Box.mk HJ.out
    have hge : w10.heap.size = w10.heap.size := rfl
    clear hge HJ
    generalize w10.heap.size = g at *
    by_cases hc2 : st = 204 ∨ st = 304
    · have hfk : s.fk = 1 := by rw [HSS.out.2.1, if_pos hc2]
      rw [hfk] at hk14
      clear hfk
      have HC2 := Box.mk hc2
      clear HSS HNMS HOKS HST
      rcases hc2 with rfl | rfl
      all_goals
        go_wp2_with fail
        refine (awakeW_any _ (tabs_below HTB.out HJ2.out.bl) (HRE.out.keep HJ2.out.bl)).mono ?_
        rintro e wz ⟨rfl, hbz⟩
        go_wp2_with fail
        go_ret
        exact ⟨rfl, below_trans HJ2.out.bl hbz⟩
    · have h204 : (st == 204) = false := by rw [beq_eq_false_iff_ne]; exact fun e => hc2 (.inl e)
      have h304 : (st == 304) = false := by rw [beq_eq_false_iff_ne]; exact fun e => hc2 (.inr e)
      obtain ⟨s2, k2, hx⟩ := txt_second (s := s) (t := d) HSS.out.1 (by rw [HSS.out.2.1, if_neg hc2]) (by rw [HSS.out.2.2, if_neg hc2]) HDL.out
      obtain ⟨x2, hx2⟩ : ∃ x2, x2 = nextX s d 1000 1000 1000 := ⟨_, rfl⟩
      have HNM2 := Box.mk (show NmS x2.r by rw [hx2]; exact nextX_names HNMS.out _ _ _ _)
      have HXE := Box.mk (show x2.er = 0 ∧ x2.data = d ∧ x2.n = d.length by rw [hx2, hx]; exact ⟨rfl, rfl, rfl⟩)
      have HX2 := Box.mk hx2
      clear hc2 hx hx2
      go_upto_region 10 with fail
      clear h204 h304 hk0 hk9 hk14
      rename_i K hK
      refine wp_region_phases [11, 12] (fun p => match p with | 0 => [0, 1, 2, 3, 4, 5, 6, 7, 8, 9, 10] | 1 => [7, 8, 9] | _ => [8, 9, 13, 14])
        (fun p => match p with | 0 => [.srow (fun k => k ≠ g, fun _ => True) s, .bytes b, .val (.int .i64 (h.length : Int)), .bytes d, .nxt (fun k => k ≠ g, fun _ => True) x2, .nxt (fun k => k ≠ g, fun _ => True) x2, .srow (fun k => k ≠ g, fun _ => True) x2.r, .prow x2, .val (.int .i64 (x2.n : Int)), .val (.int .i64 x2.er), .rnew (g + 2), .any, .any, .nope, .nope] | 1 => [.any, .any, .any, .any, .any, .nxt (fun k => k ≠ g, fun _ => True) x2, .any, .prow x2, .val (.int .i64 (x2.n : Int)), .val (.int .i64 x2.er), .any, .any, .any, .nope, .nope] | _ => [.any, .any, .any, .any, .any, .nxt (fun k => k ≠ g, fun _ => True) x2, .any, .any, .val (.int .i64 (x2.n : Int)), .val (.int .i64 x2.er), .any, .any, .any, .val (.int .i64 (x2.n : Int)), .val (.int .i64 x2.er)])
        (fun p => match p with | 0 => WrJ w1 g s ⟨0, s, 1, [], h.length⟩ va b vc | 1 => WrJ w1 g s ⟨0, s, 1, [], h.length⟩ va b vc | _ => fun wx => PtV x2 wx (g + 1) ∧ Below w1.heap.size w1 wx)
        (by kernel_rfl) (by kernel_rfl) (by kernel_rfl) (by kernel_rfl) (by kernel_rfl) (by kernel_rfl) ?_ HJ2.out ?_ ?_ ?_
      · intro p wa wb h hb
        match p, h with
        | 0, h => exact WrJ.keep h hb
        | 1, h => exact WrJ.keep h hb
        | (_ + 2), h => exact ⟨h.1.keep hb, below_trans h.2 hb⟩
      · intro p hp
        match p, hp with
        | 0, _ =>
          refine ⟨?_, ?_, ?_, ?_, ?_, ?_, ?_, ?_, ?_, ?_, ?_, trivial⟩ <;> intro a1 wx hv hf hd
          · exact ⟨wanted_none rfl, loc_loadS rfl (hf.base 6 rfl) hv.st fun v h => h⟩
          · exact ⟨wanted_none rfl, loc_move rfl ⟨_, _, hf.base 5 rfl, hv.bt⟩⟩
          · exact ⟨wanted_none rfl, loc_move rfl (hf.base 8 rfl)⟩
          · exact ⟨wanted_none rfl, loc_from rfl (hd 1 rfl) (hd 2 rfl) hle fun v hv => by rw [HBL.out.2] at hv; exact hv⟩
          · exact ⟨wanted_none rfl, loc_callPx rfl (HOK.out.keep hv.bl) (hd 0 rfl) (hd 3 rfl) rfl rfl rfl (by have := HDL.out; omega) HOKS.out (by decide) (by decide) (fun k hk => ⟨by have := hv.lo.2; show k ≠ g; omega, trivial⟩) fun v w' h => by rw [← HX2.out] at h; exact h⟩
          · exact ⟨wanted_none rfl, loc_move rfl (hd 4 rfl)⟩
          · exact ⟨wanted_none rfl, loc_nx0 rfl (hd 5 rfl) fun v h => h⟩
          · exact ⟨wanted_none rfl, loc_nx1 rfl (hd 5 rfl) fun v h => h⟩
          · exact ⟨wanted_none rfl, loc_nx2 rfl (hd 5 rfl) rfl⟩
          · exact ⟨wanted_none rfl, loc_nx3 rfl (hd 5 rfl) rfl⟩
          · exact ⟨wanted_none rfl, loc_allocRn rfl (by have := hv.lo.2; omega) fun v w' h => h⟩
        | 1, _ =>
          refine ⟨?_, ?_, ?_, trivial⟩ <;> intro a1 wx hv hf hd
          · exact ⟨wanted_none rfl, loc_nx1 rfl (hd 5 rfl) fun v h => h⟩
          · exact ⟨wanted_none rfl, loc_nx2 rfl (hd 5 rfl) rfl⟩
          · exact ⟨wanted_none rfl, loc_nx3 rfl (hd 5 rfl) rfl⟩
        | 2, _ =>
          refine ⟨?_, ?_, ?_, ?_, trivial⟩ <;> intro a1 wx hv hf hd
          · exact ⟨wanted_none rfl, loc_nx2 rfl (hd 5 rfl) rfl⟩
          · exact ⟨wanted_none rfl, loc_nx3 rfl (hd 5 rfl) rfl⟩
          · exact ⟨wanted_none rfl, loc_assign rfl (hd 8 rfl)⟩
          · exact ⟨wanted_none rfl, loc_assign rfl (hd 9 rfl)⟩
      · intro p hp
        match p, hp with
        | 0, _ =>
          intro a2 wx hv hf hd
          refine ⟨wanted_none rfl, wp_storeRn rfl (hd 10 rfl) (hd 6 rfl) HNM2.out fun q' cs eq hN hr hst => ?_⟩
          have hsz : (wx.setRow q' cs).heap.size = wx.heap.size := by simp [World.setRow]
          exact ⟨undef, rfl, ⟨hv.st.rowZ HNMS.out (by omega) hr zero_noStr zero_noU8, hv.pt.rowZ (by omega) hr zero_noU8, isBytes_rowR hr zero_noU8 hv.bt, below_setRow hv.bl (by have := hv.lo.1; omega) _, hv.lo.1, by rw [hsz]; exact hv.lo.2⟩, trivial, ⟨.inr fun _ _ _ => trivial, .inr fun _ _ _ => trivial, .inr fun _ _ _ => trivial, .inr fun _ _ _ => trivial, .inr fun _ _ _ => trivial, .inr fun _ _ h => NxV.rowZ h HNM2.out hr zero_noStr zero_noU8, .inr fun _ _ _ => trivial, .inr fun _ _ h => AgP.rowZ h hr zero_noU8, .inr fun _ _ h => h, .inr fun _ _ h => h, .inr fun _ _ _ => trivial, .inl rfl, .inr fun _ _ _ => trivial, .inr fun _ _ h => h.elim, .inr fun _ _ h => h.elim, trivial⟩⟩
        | 1, _ =>
          intro a2 wx hv hf hd
          refine ⟨wanted_none rfl, wp_storePo rfl (hf.base 7 rfl) hv.pt (hd 7 rfl) fun cs ds hr hu hs hpt => ?_⟩
          exact ⟨undef, rfl, ⟨hpt, below_setRow hv.bl (by have := hv.lo.1; omega) _⟩, trivial, ⟨.inr fun _ _ _ => trivial, .inr fun _ _ _ => trivial, .inr fun _ _ _ => trivial, .inr fun _ _ _ => trivial, .inr fun _ _ _ => trivial, .inr fun _ _ h => NxV.rowZ h HNM2.out hr hs hu, .inr fun _ _ _ => trivial, .inr fun _ _ _ => trivial, .inr fun _ _ h => h, .inr fun _ _ h => h, .inr fun _ _ _ => trivial, .inr fun _ _ _ => trivial, .inl rfl, .inr fun _ _ h => h.elim, .inr fun _ _ h => h.elim, trivial⟩⟩
      · intro a2 w12 hv hf hh
        have e11 : a2.eval (.tmp 11) = .int .i64 (x2.n : Int) := hh 13 (by decide)
        have e9 : a2.eval (.tmp 9) = .int .i64 x2.er := hh 14 (by decide)
        clear hh
        rw [fr_putAll hf]
        clear hf
        simp only [putAll, e11, e9]
        generalize a2.eval (.tmp 69) = u69
        generalize a2.eval (.tmp 70) = u70
        generalize a2.eval (.tmp 71) = u71
        generalize a2.eval (.tmp 72) = u72
        generalize a2.eval (.tmp 73) = u73
        generalize a2.eval (.tmp 74) = u74
        generalize a2.eval (.tmp 75) = u75
        generalize a2.eval (.tmp 76) = u76
        generalize a2.eval (.tmp 77) = u77
        generalize a2.eval (.tmp 78) = u78
        generalize a2.eval (.tmp 10) = u10
        clear e11 e9 a2
        simp only [Act.put, List.setIfInBounds_toArray, List.set_cons_succ, List.set_cons_zero]
        rw [HXE.out.1, HXE.out.2.2]
        refine hK _ _ ?_
        clear hK
        obtain ⟨⟨pa2, pc2, hp, hdt⟩, hbl12⟩ := hv
        rw [HXE.out.2.1] at hp hdt
        have hk1 : w12.cell? ⟨g + 1, 1, none⟩ = some (.slice pa2 d.length pc2) := by rw [cell_of_row _ _ _ _ _ _ hp]; rfl
        have hcv := conv_bytes hdt
        have HB12 := Box.mk hbl12
        have hsz : (⟨d.toArray⟩ : ByteArray).size = d.length := by rfl
        have hsum : (((h.length : Int) + (d.length : Int)) == (b.length : Int)) = true := by have := HBL.out.1; rw [beq_iff_eq]; omega
        have hh200 := HHL2.out
        have hd500 := HDL.out
        obtain rfl := HTX.out
        have ee : ∀ y : List UInt8, (y == y) = true := fun y => by simp
        clear hp hdt hbl12 HTX HTZ
        go_wp2_with fail
        refine (awakeW_any _ (tabs_below HTB.out HB12.out) (HRE.out.keep HB12.out)).mono ?_
        rintro e wz ⟨rfl, hbz⟩
        go_wp2_with fail
        go_ret
        exact ⟨rfl, below_trans HB12.out hbz⟩
end Go.Proofs.YteoadfckcilalaaGreatDoor
namespace Go.Proofs.YteoadfckcilalaaGreatDoor
open Go.RowKit

set_option linter.unusedVariables false
set_option maxRecDepth 100000 in
set_option maxHeartbeats 2000000 in
theorem decW_lo (w : World) (k : Nat) (h0 : True) (hk : k < 10) : Calls Tryz.prog 52 #[.int .i64 (k : Int)] w fun e w' => e = .returned (.string (fmtS 10 (k : Int))) ∧ Below w.heap.size w w' := by
  have hd : ∀ j : Fin 31, fmtS 10 (j.val : Int) = if j.val < 10 then ⟨#[UInt8.ofNat (48 + j.val)]⟩ else ⟨#[UInt8.ofNat (48 + j.val / 10), UInt8.ofNat (48 + j.val % 10)]⟩ := by decide +kernel
  have he := hd ⟨k, by omega⟩
  rw [if_pos (show k < 10 from hk)] at he
  have HE := Box.mk he
  obtain ⟨W1, hW1⟩ : ∃ W1, W1 = w.alloc (.cells (bytesV [UInt8.ofNat (48 + k)]).toArray 5) := ⟨_, rfl⟩
  have hib : IsBytes W1 (some ⟨w.heap.size, 0, none⟩) [UInt8.ofNat (48 + k)] 1 := by rw [hW1]; exact row_bytesH (heap_alloc_new w (.cells (bytesV [UInt8.ofNat (48 + k)]).toArray 5)) (by simp [maxLen])
  have hcv : (convert 23 9 (.slice (some ⟨w.heap.size, 0, none⟩) 1 1)).run Tryz.prog W1 = .ok (.string ⟨#[UInt8.ofNat (48 + k)]⟩) W1 := conv_bytes hib
  have HB1 := Box.mk (show Below w.heap.size w W1 by rw [hW1]; exact below_oneF w _)
  rw [hW1] at hcv HB1
  have e1 : (bytesV [UInt8.ofNat (48 + k)]).toArray = #[.int .u8 (48 + (k : Int))] := by unfold bytesV; simp; omega
  rw [e1] at hcv HB1
  clear hd he hib hW1
  go_enter Tryz.func52, Tryz.ntmps52
  go_wp2_with fail
  go_ret
  exact ⟨ret_str (by rw [HE.out]; simp [UInt8.ofNat_add]), HB1.out⟩
set_option maxRecDepth 100000 in
set_option maxHeartbeats 2000000 in
theorem decW_hi (w : World) (k : Nat) (h0 : 10 ≤ k) (hk : k < 31) : Calls Tryz.prog 52 #[.int .i64 (k : Int)] w fun e w' => e = .returned (.string (fmtS 10 (k : Int))) ∧ Below w.heap.size w w' := by
  have hd : ∀ j : Fin 31, fmtS 10 (j.val : Int) = if j.val < 10 then ⟨#[UInt8.ofNat (48 + j.val)]⟩ else ⟨#[UInt8.ofNat (48 + j.val / 10), UInt8.ofNat (48 + j.val % 10)]⟩ := by decide +kernel
  have he := hd ⟨k, by omega⟩
  rw [if_neg (show ¬ k < 10 by omega)] at he
  have HE := Box.mk he
  obtain ⟨W1, hW1⟩ : ∃ W1, W1 = w.alloc (.cells (bytesV [UInt8.ofNat (48 + k / 10), UInt8.ofNat (48 + k % 10)]).toArray 5) := ⟨_, rfl⟩
  have hib : IsBytes W1 (some ⟨w.heap.size, 0, none⟩) [UInt8.ofNat (48 + k / 10), UInt8.ofNat (48 + k % 10)] 2 := by rw [hW1]; exact row_bytesH (heap_alloc_new w (.cells (bytesV [UInt8.ofNat (48 + k / 10), UInt8.ofNat (48 + k % 10)]).toArray 5)) (by simp [maxLen])
  have hcv : (convert 23 9 (.slice (some ⟨w.heap.size, 0, none⟩) 2 2)).run Tryz.prog W1 = .ok (.string ⟨#[UInt8.ofNat (48 + k / 10), UInt8.ofNat (48 + k % 10)]⟩) W1 := conv_bytes hib
  have HB1 := Box.mk (show Below w.heap.size w W1 by rw [hW1]; exact below_oneF w _)
  rw [hW1] at hcv HB1
  have e1 : (bytesV [UInt8.ofNat (48 + k / 10), UInt8.ofNat (48 + k % 10)]).toArray = #[.int .u8 (48 + (k : Int) / 10), .int .u8 (48 + (k : Int) % 10)] := by unfold bytesV; simp; omega
  rw [e1] at hcv HB1
  have eq : (k : Int).tdiv 10 = (k : Int) / 10 := Int.tdiv_eq_ediv_of_nonneg (by omega)
  have er : (k : Int).tmod 10 = (k : Int) % 10 := Int.tmod_eq_emod_of_nonneg (by omega)
  clear hd he hib hW1
  go_enter Tryz.func52, Tryz.ntmps52
  go_wp2_with fail
  go_ret
  exact ⟨ret_str (by rw [HE.out]; simp [UInt8.ofNat_add]), HB1.out⟩
set_option maxRecDepth 100000 in
set_option maxHeartbeats 2000000 in
theorem decW_any (w : World) (k : Nat) (hk : k ≤ 30) : Calls Tryz.prog 52 #[.int .i64 (k : Int)] w fun e w' => e = .returned (.string (fmtS 10 (k : Int))) ∧ Below w.heap.size w w' := by
  by_cases h : k < 10
  · exact decW_lo w k trivial h
  · exact decW_hi w k (by omega) (by omega)
/-- The measured request, as it comes back. -/
def RetMs (w : World) (m t : ByteArray) (z : Int) (x : List Fld) (fr : Bool) (d : List UInt8) (ba : Option Addr) (bc : Nat) (e : Ending) (w' : World) : Prop :=
  ∃ xa xc, e = .returned (.agg #[.string m, .string t, .int .i64 z, .slice xa (List.length (x ++ lenT fr d)) xc, .bool fr, .slice ba d.length bc]) ∧ FldsIn w' xa (x ++ lenT fr d) ∧ Below w.heap.size w w'
set_option maxRecDepth 100000 in
set_option maxHeartbeats 2000000 in
theorem measN_any (m t : ByteArray) (z : Int) (x : List Fld) (d : List UInt8) (fa ba : Option Addr) (fc bc : Nat) (w : World) (hx : FldsC w fa x fc) :
    Calls Tryz.prog 29 #[.agg #[.string m, .string t, .int .i64 z, .slice fa x.length fc, .bool false, .slice ba d.length bc]] w (RetMs w m t z x false d ba bc) := by
  obtain ⟨W1, hW1⟩ : ∃ W1, W1 = (w.alloc (.cells #[.string m, .string t, .int .i64 z, .slice fa x.length fc, .bool false, .slice ba d.length bc] 29)).alloc (.cells #[.string ⟨#[]⟩, .string ⟨#[]⟩, .int .i64 0, .slice none 0 0, .bool false, .slice none 0 0] 29) := ⟨_, rfl⟩
  have HB1 := Box.mk (show Below w.heap.size w W1 by rw [hW1]; exact below_twoF (below_oneF _ _) _)
  have HQ1 := Box.mk (show W1.heap[w.heap.size]? = some (.cells #[.string m, .string t, .int .i64 z, .slice fa x.length fc, .bool false, .slice ba d.length bc] 29 (0, 0)) by
    rw [hW1, (below_oneF (w.alloc (.cells #[.string m, .string t, .int .i64 z, .slice fa x.length fc, .bool false, .slice ba d.length bc] 29)) _).block _ (by rw [World.size_alloc]; omega)]; exact heap_alloc_new _ _)
  have HR1 := Box.mk (show W1.heap[w.heap.size + 1]? = some (.cells #[.string ⟨#[]⟩, .string ⟨#[]⟩, .int .i64 0, .slice none 0 0, .bool false, .slice none 0 0] 29 (0, 0)) by
    have h := heap_alloc_new (w.alloc (.cells #[.string m, .string t, .int .i64 z, .slice fa x.length fc, .bool false, .slice ba d.length bc] 29)) (.cells #[.string ⟨#[]⟩, .string ⟨#[]⟩, .int .i64 0, .slice none 0 0, .bool false, .slice none 0 0] 29)
    rw [World.size_alloc] at h; rw [hW1]; exact h)
  have k4 : W1.cell? ⟨w.heap.size, 4, none⟩ = some (.bool false) := by rw [cell_of_row _ _ _ _ _ _ HQ1.out]; rfl
  have HX := Box.mk hx
  have HW1 := Box.mk hW1
  have HB2 := Box.mk (below_setRow HB1.out (by omega : w.heap.size ≤ w.heap.size + 1) #[.string m, .string t, .int .i64 z, .slice fa x.length fc, .bool false, .slice ba d.length bc])
  clear hx hW1
  go_enter Tryz.func29, Tryz.ntmps29
  go_upto_region 1 with fail
  rw [← HW1.out]
  clear HW1
  go_wp2_with (first | (refine wpList_load_row rfl 29 _ rfl w.heap.size rfl 29 #[.string m, .string t, .int .i64 z, .slice fa x.length fc, .bool false, .slice ba d.length bc] (0, 0) _ HQ1.out Tryz.underlying29 rfl sizeR ?_) | (refine wpList_store_row rfl 29 _ _ rfl (w.heap.size + 1) #[.string m, .string t, .int .i64 z, .slice fa x.length fc, .bool false, .slice ba d.length bc] rfl rfl 29 _ HR1.out sizeR rfl (by simp [Value.oneCell']) ?_))
  (try simp only [Exit.inBlock, Exit.then])
  refine bodyPost_ret (results_r rfl _ _ (w.heap.size + 1) 29 #[.string m, .string t, .int .i64 z, .slice fa x.length fc, .bool false, .slice ba d.length bc] (0, 0) _ rfl (setRow_heap _ _ _ _ _ _ HR1.out) Tryz.underlying29 rfl sizeR) rfl ?_
  refine ⟨fa, fc, ?_, ?_, HB2.out⟩
  · rw [show x ++ lenT false d = x from List.append_nil x]
  · rw [show x ++ lenT false d = x from List.append_nil x]
    exact (HX.out.keep HB2.out).1
set_option maxRecDepth 100000 in
set_option maxHeartbeats 2000000 in
theorem measY_any (m t : ByteArray) (z : Int) (x : List Fld) (d : List UInt8) (fa ba : Option Addr) (fc bc : Nat) (w : World) (hx : FldsC w fa x fc) (hxl : x.length ≤ 900) (hdl : d.length ≤ 30) :
    Calls Tryz.prog 29 #[.agg #[.string m, .string t, .int .i64 z, .slice fa x.length fc, .bool true, .slice ba d.length bc]] w (RetMs w m t z x true d ba bc) := by
  obtain ⟨W1, hW1⟩ : ∃ W1, W1 = (w.alloc (.cells #[.string m, .string t, .int .i64 z, .slice fa x.length fc, .bool true, .slice ba d.length bc] 29)).alloc (.cells #[.string ⟨#[]⟩, .string ⟨#[]⟩, .int .i64 0, .slice none 0 0, .bool false, .slice none 0 0] 29) := ⟨_, rfl⟩
  have HB1 := Box.mk (show Below w.heap.size w W1 by rw [hW1]; exact below_twoF (below_oneF _ _) _)
  have HQ1 := Box.mk (show W1.heap[w.heap.size]? = some (.cells #[.string m, .string t, .int .i64 z, .slice fa x.length fc, .bool true, .slice ba d.length bc] 29 (0, 0)) by
    rw [hW1, (below_oneF (w.alloc (.cells #[.string m, .string t, .int .i64 z, .slice fa x.length fc, .bool true, .slice ba d.length bc] 29)) _).block _ (by rw [World.size_alloc]; omega)]; exact heap_alloc_new _ _)
  have HR1 := Box.mk (show W1.heap[w.heap.size + 1]? = some (.cells #[.string ⟨#[]⟩, .string ⟨#[]⟩, .int .i64 0, .slice none 0 0, .bool false, .slice none 0 0] 29 (0, 0)) by
    have h := heap_alloc_new (w.alloc (.cells #[.string m, .string t, .int .i64 z, .slice fa x.length fc, .bool true, .slice ba d.length bc] 29)) (.cells #[.string ⟨#[]⟩, .string ⟨#[]⟩, .int .i64 0, .slice none 0 0, .bool false, .slice none 0 0] 29)
    rw [World.size_alloc] at h; rw [hW1]; exact h)
  have k4 : W1.cell? ⟨w.heap.size, 4, none⟩ = some (.bool true) := by rw [cell_of_row _ _ _ _ _ _ HQ1.out]; rfl
  have HX := Box.mk hx
  have HW1 := Box.mk hW1
  have HXL := Box.mk hxl
  have HDL := Box.mk hdl
  clear hx hW1 hxl hdl
  go_enter Tryz.func29, Tryz.ntmps29
  go_upto_region 1 with fail
  rw [← HW1.out]
  clear HW1
  go_upto_region 2 with fail
  obtain ⟨L, hL⟩ : ∃ L, L = x ++ [(clWr, fmtS 10 (d.length : Int))] := ⟨_, rfl⟩
  have HLE := Box.mk hL
  clear hL k4
  have ROW1 := Box.mk (show ∀ w', Below W1.heap.size W1 w' → w'.heap[w.heap.size]? = some (.cells #[.string m, .string t, .int .i64 z, .slice fa x.length fc, .bool true, .slice ba d.length bc] 29 (0, 0)) from fun w' hb => (hb.block _ (lt_row HQ1.out)).trans HQ1.out)
  rename_i K hK
  refine wp_region_phasesW [10, 12] (fun p => match p with | 0 => [0, 1, 2, 3, 4, 5, 6, 7, 8, 9, 11] | 1 => [11] | _ => [])
    (fun p => match p with
      | 0 => [.own0F W1.heap.size, .val (.pointer (some ⟨w.heap.size, 3, none⟩)), .val (.slice fa x.length fc), .ownF W1.heap.size x, .val (.pointer (some ⟨w.heap.size, 5, none⟩)), .val (.slice ba d.length bc), .val (.int .i64 (d.length : Int)), .val (.string (fmtS 10 (d.length : Int))), .val (.agg #[.string clWr, .string (fmtS 10 (d.length : Int))]), .oneF (clWr, fmtS 10 (d.length : Int)), .nope, .val (.pointer (some ⟨w.heap.size, 3, none⟩)), .any]
      | 1 => [.any, .any, .any, .any, .any, .any, .any, .any, .any, .any, .ownF W1.heap.size L, .val (.pointer (some ⟨w.heap.size, 3, none⟩)), .any]
      | _ => [.any, .any, .any, .any, .any, .any, .any, .any, .any, .any, .any, .any, .any])
    (fun p => match p with
      | 0 => fun wx => Below W1.heap.size W1 wx
      | 1 => fun wx => Below W1.heap.size W1 wx
      | _ => fun wx => ∃ xa xc, wx.heap[w.heap.size]? = some (.cells #[.string m, .string t, .int .i64 z, .slice xa L.length xc, .bool true, .slice ba d.length bc] 29 (0, 0)) ∧ wx.heap[w.heap.size + 1]? = some (.cells #[.string ⟨#[]⟩, .string ⟨#[]⟩, .int .i64 0, .slice none 0 0, .bool false, .slice none 0 0] 29 (0, 0)) ∧ OwnF W1.heap.size wx (.slice xa L.length xc) L ∧ Below w.heap.size w wx)
    (by kernel_rfl) (by kernel_rfl) (by kernel_rfl) (by kernel_rfl) (by kernel_rfl) (by kernel_rfl) ?_ (Below.refl _ _) ?_ ?_ ?_
  · intro ph w1' w2' h hb
    match ph, h with
    | 0, h => exact below_trans h hb
    | 1, h => exact below_trans h hb
    | (_ + 2), h =>
      obtain ⟨xa, xc, h1, h2, h3, h4⟩ := h
      exact ⟨xa, xc, (hb.block _ (lt_row h1)).trans h1, (hb.block _ (lt_row h2)).trans h2, h3.keep hb, below_trans h4 hb⟩
  · intro ph hph
    match ph, hph with
    | 0, _ =>
      refine ⟨?_, ?_, ?_, ?_, ?_, ?_, ?_, ?_, ?_, ?_, ?_, trivial⟩ <;> intro a1 w1' hv hf hd
      · exact ⟨wanted_none rfl, loc_build0F rfl hv.size fun v w' h => h⟩
      · exact ⟨wanted_none rfl, loc_fieldR rfl (hf.base 1 rfl) (by decide) rfl⟩
      · exact ⟨wanted_none rfl, loc_cell rfl (hd 1 rfl) (by rw [cell_of_row _ _ _ _ _ _ (ROW1.out w1' hv)]; rfl) (agg_fields _) rfl⟩
      · obtain ⟨⟨g, e1⟩, h2⟩ := hd 0 rfl
        exact ⟨wanted_none rfl, loc_append0F rfl e1 h2 (hd 2 rfl) (HX.out.keep (below_trans HB1.out hv)) (by have := HXL.out; omega) hv.size fun v w' h => h⟩
      · exact ⟨wanted_none rfl, loc_fieldR rfl (hf.base 1 rfl) (by decide) rfl⟩
      · exact ⟨wanted_none rfl, loc_cell rfl (hd 4 rfl) (by rw [cell_of_row _ _ _ _ _ _ (ROW1.out w1' hv)]; rfl) (agg_slcG _) rfl⟩
      · exact ⟨wanted_none rfl, loc_len rfl (hd 5 rfl) rfl⟩
      · refine ⟨wanted_none rfl, loc_call rfl (by kernel_rfl) ?_⟩
        show Calls _ _ #[a1.eval (.tmp 11)] w1' _
        rw [show a1.eval (.tmp 11) = _ from hd 6 rfl]
        refine (decW_any w1' d.length HDL.out).mono ?_
        rintro e w' ⟨rfl, hb'⟩
        exact ⟨_, rfl, hb', rfl⟩
      · exact ⟨wanted_none rfl, loc_buildF rfl rfl (hd 7 rfl) rfl⟩
      · exact ⟨wanted_none rfl, loc_sliceOneF rfl (f := (clWr, fmtS 10 (d.length : Int))) (hd 8 rfl) fun w' h0 h1 => ⟨_, rfl, ⟨fun j hj => by
          match j, hj with
          | 0, _ => exact ⟨_, rfl, by rw [Addr.add_lit]; exact h0, by rw [Addr.add_lit]; exact h1⟩, fun e => by cases e⟩⟩⟩
      · exact ⟨wanted_none rfl, loc_fieldR rfl (hf.base 1 rfl) (by decide) rfl⟩
    | 1, _ =>
      refine ⟨?_, trivial⟩
      intro a1 w1' hv hf hd
      exact ⟨wanted_none rfl, loc_fieldR rfl (hf.base 1 rfl) (by decide) rfl⟩
    | 2, _ => exact trivial
  · intro ph hph
    match ph, hph with
    | 0, _ =>
      intro a2 w2 hv hf hd
      obtain ⟨b, e1, h1⟩ := hd 9 rfl
      have ho3 : OwnF W1.heap.size w2 (a2.eval (.tmp 8)) x := hd 3 rfl
      refine ⟨wanted_none rfl, wp_append_ownFs rfl ho3 (r := [(clWr, fmtS 10 (d.length : Int))]) e1 h1 (by have := HXL.out; simp; omega) hv.size fun v' w' h2 h3 => ⟨v', rfl, ?_, by rw [← HLE.out] at h2; exact h2, ?_⟩⟩
      · exact hv.grown h3 hv.size (fun q e => (OwnF.lt ho3 e).1)
      · exact ⟨.inr fun _ _ _ => trivial, .inr fun _ _ _ => trivial, .inr fun _ _ _ => trivial, .inr fun _ _ _ => trivial, .inr fun _ _ _ => trivial, .inr fun _ _ _ => trivial, .inr fun _ _ _ => trivial, .inr fun _ _ _ => trivial, .inr fun _ _ _ => trivial, .inr fun _ _ _ => trivial, .inl rfl, .inr fun _ _ h => h, .inr fun _ _ _ => trivial, trivial⟩
    | 1, _ =>
      intro a2 w2 hv hf hd
      have e16 : a2.eval (.tmp 16) = .pointer (some ⟨w.heap.size, 3, none⟩) := hd 11 rfl
      have ho : OwnF W1.heap.size w2 (a2.eval (.tmp 15)) L := hd 10 rfl
      obtain ⟨xa, xc, e15, hxf, _⟩ := OwnF.shape ho
      rw [e15] at ho
      have hr := ROW1.out w2 hv
      refine ⟨wanted_none rfl, wp_store_slice (u := .slice fa x.length fc) rfl e16 e15 (by kernel_rfl) (by rw [cell_of_row _ _ _ _ _ _ hr]; rfl) (frozen_of_row w2 w.heap.size 3 _ _ hr) ?_⟩
      refine ⟨undef, rfl, ⟨xa, xc, ?_, ?_, ?_, ?_⟩, trivial, ⟨.inr fun _ _ _ => trivial, .inr fun _ _ _ => trivial, .inr fun _ _ _ => trivial, .inr fun _ _ _ => trivial, .inr fun _ _ _ => trivial, .inr fun _ _ _ => trivial, .inr fun _ _ _ => trivial, .inr fun _ _ _ => trivial, .inr fun _ _ _ => trivial, .inr fun _ _ _ => trivial, .inr fun _ _ _ => trivial, .inr fun _ _ _ => trivial, .inl rfl, trivial⟩⟩
      · exact heap_setCell_same w2 w.heap.size 3 _ _ _ hr
      · rw [heap_setCell_other _ _ _ _ (by show w.heap.size + 1 ≠ w.heap.size; omega)]; exact (hv.block _ (lt_row HR1.out)).trans HR1.out
      · exact OwnF.same ho fun k hk => heap_setCell_other _ _ _ _ (by have := (OwnF.lt ho hk).1; have := lt_row HQ1.out; show k ≠ w.heap.size; omega)
      · exact (below_trans HB1.out hv).setCell (Nat.le_refl _) _
  · intro a2 w2 hv hf hh
    obtain ⟨xa, xc, h1, h2, h3, h4⟩ := hv
    have HQ2 := Box.mk h1
    have HR2 := Box.mk h2
    have HO2 := Box.mk h3
    have HB2 := Box.mk (And.intro h4 (below_setRow h4 (by omega : w.heap.size ≤ w.heap.size + 1) #[.string m, .string t, .int .i64 z, .slice xa L.length xc, .bool true, .slice ba d.length bc]))
    clear hh h1 h2 h3 h4
    rw [fr_putAll hf]
    clear hf
    simp only [putAll]
    generalize a2.eval (.tmp 5) = u5
    generalize a2.eval (.tmp 6) = u6
    generalize a2.eval (.tmp 7) = u7
    generalize a2.eval (.tmp 8) = u8
    generalize a2.eval (.tmp 9) = u9
    generalize a2.eval (.tmp 10) = u10
    generalize a2.eval (.tmp 11) = u11
    generalize a2.eval (.tmp 12) = u12
    generalize a2.eval (.tmp 13) = u13
    generalize a2.eval (.tmp 14) = u14
    generalize a2.eval (.tmp 15) = u15
    generalize a2.eval (.tmp 16) = u16
    clear a2
    simp only [Act.put, List.setIfInBounds_toArray, List.set_cons_succ, List.set_cons_zero]
    refine hK _ _ ?_
    clear hK
    go_wp2_with (first | (refine wpList_load_row rfl 29 _ rfl w.heap.size rfl 29 #[.string m, .string t, .int .i64 z, .slice xa L.length xc, .bool true, .slice ba d.length bc] (0, 0) _ HQ2.out Tryz.underlying29 rfl sizeR ?_) | (refine wpList_store_row rfl 29 _ _ rfl (w.heap.size + 1) #[.string m, .string t, .int .i64 z, .slice xa L.length xc, .bool true, .slice ba d.length bc] rfl rfl 29 _ HR2.out sizeR rfl (by simp [Value.oneCell']) ?_))
    (try simp only [Exit.inBlock, Exit.then])
    refine bodyPost_ret (results_r rfl _ _ (w.heap.size + 1) 29 #[.string m, .string t, .int .i64 z, .slice xa L.length xc, .bool true, .slice ba d.length bc] (0, 0) _ rfl (setRow_heap _ _ _ _ _ _ HR2.out) Tryz.underlying29 rfl sizeR) rfl ?_
    have e : x ++ lenT true d = L := HLE.out.symm
    refine ⟨xa, xc, ?_, ?_, HB2.out.2⟩
    · rw [e]
    · rw [e]
      obtain ⟨xa2, xc2, e2, hxf, _⟩ := OwnF.shape (OwnF.same HO2.out (w' := w2.setRow (w.heap.size + 1) #[.string m, .string t, .int .i64 z, .slice xa L.length xc, .bool true, .slice ba d.length bc]) fun k hk => setRow_other _ _ _ _ (by have := (OwnF.lt HO2.out hk).1; have := lt_row HR1.out; omega))
      obtain ⟨rfl, _, _⟩ := Value.slice.inj e2
      exact hxf.1
theorem meas_any (m t : ByteArray) (z : Int) (x : List Fld) (fr : Bool) (d : List UInt8) (fa ba : Option Addr) (fc bc : Nat) (w : World) (hx : FldsC w fa x fc) (hxl : x.length ≤ 900) (hdl : d.length ≤ 30) :
    Calls Tryz.prog 29 #[.agg #[.string m, .string t, .int .i64 z, .slice fa x.length fc, .bool fr, .slice ba d.length bc]] w (RetMs w m t z x fr d ba bc) := by
  cases fr
  · exact measN_any m t z x d fa ba fc bc w hx
  · exact measY_any m t z x d fa ba fc bc w hx hxl hdl
end Go.Proofs.YteoadfckcilalaaGreatDoor
