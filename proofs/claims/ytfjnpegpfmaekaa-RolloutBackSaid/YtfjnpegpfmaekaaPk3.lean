/- The landed rollout: Command. Own slices of inputs and of numbers. The reference's Decode and SameChunk; Short and Cut of the laws' maker. The source of numbers of the laws, with its place: Next, Left, Bytes. The source of the laws: inputs of a rollout. The source of the laws: lists of inputs of a rollout; plans. The landed package plan: within, validWeights, validNumbers, Validate, Weight, Verdict. Windows in memory and their sum. -/
import Derived.Test.YtfjnpegpfmaekaaPk1
import Derived.Test.YtfjnpegpfmaekaaPk2
import Derived.Test.YtfjnpegpfmaekaaRows
import Derived.WalkKit
import Derived.WalkSpells
import Derived.WalkLawsBesides
import Derived.BigQuiet
import Derived.Deep.QuietTactic
import Derived.Lib.Bytealg
import Derived.Lib.IndexLaws
import Derived.Lib.Hide
import Derived.Laws.IdiomStrings
import Derived.Lib.SlTrimSet
import Derived.Lib.IndexBytes
import Derived.Lib.Split
import Derived.Deep.AppendLies
import Derived.Shelf.LaysM
import Derived.Test.YtfjnpegpfmaekaaProg
import Derived.Shelf.Strings.SlTrimAscii
import Derived.Lib.SplitLaws
import Derived.WalkSmall
import Derived.ProofKit
import Derived.OpenShut
import Derived.Lib.Strings
import Derived.SliceStrings
import Derived.Deep.Quiet
import Derived.Tactics
import Derived.KernelRfl
import Derived.Below
import Derived.Laws.Bits64
import Derived.Lib.SlBytesConst
import Derived.Maps.AppendAt
import Derived.Laws.AppendOwnNone
import Derived.Great.BuildSlice
import Derived.Laws.Rows
import Derived.Laws.BitsAllLaws
import Derived.Laws.Shifts
import Derived.Maps.OwnOps
import Derived.Maps.OwnSet
import Derived.Deep.SlicePairs
import Derived.Lib.AppendZerosOnto
import Derived.Lib.AppendStr
import Derived.Laws.CopyOwn
import Derived.OwnWalk
import Derived.Laws.Strings3
import Derived.Laws.Concat
import Derived.Lib.ItoaMem
import Derived.Deep.DeepCutAuto
import Derived.Deep.CutBlock
import Derived.Laws.Tables
import Derived.Deep.Matrix
import Derived.IntWalk
import Derived.Laws.RangeAny
import Derived.Sort.Grow
import Derived.Lib.LaidTab
import Derived.LaidSub
import Derived.Laws.Bits64b
import Derived.Deep.WholeRow
import Derived.StillTailTactics
import Derived.Lib.ConvBytes
import Derived.ArgAppend
namespace Go.Proofs.Ytfjnpegpfmaekaa
open Go.RowKit
set_option linter.unusedSimpArgs false
set_option linter.unusedVariables false

theorem cmdV_tr (r : Ro) (k : Int) : cmdV r k = match trnL.find? (fun t => k == t.k) with
    | none => (roS 0, 1)
    | some t => if possL t.S r.st = true then (if t.keeps = true then { r with st := t.dest } else roS t.dest, 0) else (roS 0, 7) := by
  unfold cmdV trnL
  by_cases h1 : k = 1
  · subst h1; simp [possL]
  by_cases h2 : k = 2
  · subst h2; simp [possL]
  by_cases h3 : k = 3
  · subst h3; simp [possL]
  by_cases h4 : k = 4
  · subst h4; simp [possL]
  by_cases h5 : k = 5
  · subst h5; simp [possL, or_assoc]
  by_cases h6 : k = 6
  · subst h6; simp [possL]
  simp [h1, h2, h3, h4, h5, h6, beq_i_no h1, beq_i_no h2, beq_i_no h3, beq_i_no h4, beq_i_no h5, beq_i_no h6]
theorem trnL_len {k : Int} {t : Trn} {l : List Int} (h : trnL.find? (fun t => k == t.k) = some t) (hl : t.S = some l) : l.length ≤ 1000 := by
  have := List.mem_of_find?_eq_some h
  simp [trnL] at this
  rcases this with rfl | rfl | rfl | rfl | rfl | rfl <;> simp at hl <;> subst hl <;> simp
theorem sizeTr : (Try.prog.info? 62).map (·.size) = some 3 := by kernel_rfl

set_option maxRecDepth 100000 in
set_option maxHeartbeats 4000000 in
theorem rCommand_any (r : Ro) (k : Int) (w : World) :
    Calls Try.prog 21 #[.agg r.cells, .int .i64 k] w fun e w' => e = .returned (.tuple #[.agg (cmdV r k).1.cells, .int .i64 (cmdV r k).2]) ∧ Below w.heap.size w w' := by
  obtain ⟨cs, hcs⟩ : ∃ x, x = (cmdV r k).1.cells := ⟨_, rfl⟩
  obtain ⟨er, her⟩ : ∃ x, x = (cmdV r k).2 := ⟨_, rfl⟩
  rw [← hcs, ← her]
  rw [cmdV_tr] at hcs her
  have HC := Box.mk hcs
  have HE := Box.mk her
  clear hcs her
  obtain ⟨st, stage, healthy, tot, err, age⟩ := r
  unfold Ro.cells
  simp only
  obtain ⟨W, hW⟩ : ∃ W, W = (w.alloc (.cells #[.int .i64 st, .int .i64 stage, .int .i64 healthy, .int .i64 tot, .int .i64 err, .int .i64 age] 28)).alloc (.cells #[.int .i64 0, .int .i64 0, .int .i64 0, .int .i64 0, .int .i64 0, .int .i64 0] 28) := ⟨_, rfl⟩
  have HB := Box.mk (show Below w.heap.size w W by rw [hW]; exact below_twoF (below_oneF w _) _)
  have HV := Box.mk (show VarA W w.heap.size #[.int .i64 st, .int .i64 stage, .int .i64 healthy, .int .i64 tot, .int .i64 err, .int .i64 age] 28 by rw [hW]; exact (VarA.new _ _ _).below _)
  have HU := Box.mk (show VarA W (w.heap.size + 1) #[.int .i64 0, .int .i64 0, .int .i64 0, .int .i64 0, .int .i64 0, .int .i64 0] 28 by rw [hW]; have := VarA.new (w.alloc (.cells #[.int .i64 st, .int .i64 stage, .int .i64 healthy, .int .i64 tot, .int .i64 err, .int .i64 age] 28)) #[.int .i64 0, .int .i64 0, .int .i64 0, .int .i64 0, .int .i64 0, .int .i64 0] 28; rw [World.size_alloc] at this; exact this)
  go_enter Try.func21, Try.ntmps21
  go_upto_region 1 with fail
  change Code.wp _ _ _ _ ((w.alloc (.cells #[.int .i64 st, .int .i64 stage, .int .i64 healthy, .int .i64 tot, .int .i64 err, .int .i64 age] 28)).alloc (.cells #[.int .i64 0, .int .i64 0, .int .i64 0, .int .i64 0, .int .i64 0, .int .i64 0] 28))
  rw [← hW]
  clear hW
  generalize hg : w.heap.size = g at HB HV HU ⊢
  have HG := Box.mk hg
  clear hg
  go_wp2_with fail
  refine (transitions_any _).mono ?_
  rintro e w1 ⟨b, rfl, ht, hb⟩
  have HV1 := Box.mk (HV.out.keep hb)
  have HU1 := Box.mk (HU.out.keep hb)
  have HB1 := Box.mk (HB.out.trans (hb.mono (Nat.le_of_lt HV.out.lt)))
  clear hb HV HU HB
  rcases ht.run k with ⟨hn, hrun⟩ | ⟨t, f, hn, hp, hrun⟩
  · have HX := Box.mk (show cs = #[.int .i64 0, .int .i64 0, .int .i64 0, .int .i64 0, .int .i64 0, .int .i64 0] ∧ er = 1 from ⟨by rw [HC.out, hn]; rfl, by rw [HE.out, hn]⟩)
    clear hn ht HC HE
    obtain ⟨W2, hW2⟩ : ∃ x, x = (w1.alloc (.cells #[.nilFunc, .int .i64 0, .bool false] 62)).setRow w1.heap.size #[.nilFunc, .int .i64 0, .bool false] := ⟨_, rfl⟩
    have HGT := Box.mk (show g + 1 < w1.heap.size from HU1.out.lt)
    have HV2 := Box.mk (show VarA W2 g #[.int .i64 st, .int .i64 stage, .int .i64 healthy, .int .i64 tot, .int .i64 err, .int .i64 age] 28 by rw [hW2]; exact (HV1.out.below _).row_other (by have := HGT.out; omega))
    have HU2 := Box.mk (show VarA W2 (g + 1) #[.int .i64 0, .int .i64 0, .int .i64 0, .int .i64 0, .int .i64 0, .int .i64 0] 28 by rw [hW2]; exact (HU1.out.below _).row_other (by have := HGT.out; omega))
    have HB2 := Box.mk (show Below g w W2 by rw [hW2]; exact below_setRow (HB1.out.trans ((below_oneF _ _).mono (Nat.le_of_lt HV1.out.lt))) (Nat.le_of_lt HV1.out.lt) _)
    have HT2 := Box.mk (show VarA W2 w1.heap.size #[.nilFunc, .int .i64 0, .bool false] 62 by rw [hW2]; exact setRow_heap _ _ _ _ _ _ (VarA.new _ _ _))
    go_upto_region 2 with (refine wpList_store_row rfl 62 _ _ rfl w1.heap.size #[.nilFunc, .int .i64 0, .bool false] rfl rfl 62 _ (VarA.new _ _ _) sizeTr rfl (by simp [Value.oneCell']) ?_)
    change Code.wp _ _ _ _ ((w1.alloc (.cells #[.nilFunc, .int .i64 0, .bool false] 62)).setRow w1.heap.size #[.nilFunc, .int .i64 0, .bool false])
    rw [← hW2]
    clear hW2 hrun
    go_wp2_with (refine wpList_store_row rfl 28 _ _ rfl (g + 1) #[.int .i64 0, .int .i64 0, .int .i64 0, .int .i64 0, .int .i64 0, .int .i64 0] rfl rfl 28 _ HU2.out sizeRo rfl (oneRo ..) ?_)
    (try simp only [Exit.inBlock, Exit.then])
    refine bodyPost_ret (results_row_tmpF rfl _ _ (g + 1) _ _ _ _ rfl (setRow_heap _ _ _ _ _ _ HU2.out) Try.underlying28 rfl sizeRo) rfl ?_
    exact ⟨by rw [HX.out.1, HX.out.2]; rfl, by rw [HG.out]; exact below_setRow HB2.out (by omega) _⟩
  · obtain ⟨tk, tS, dest, keeps⟩ := t
    simp only at hp hrun
    rcases hp with ⟨hS, rfl⟩ | ⟨l, q, a, hS, rfl, h3, h4, h5, h6⟩
    · subst hS
      have HX := Box.mk (show cs = (if possL none st = true then (if keeps = true then (⟨dest, stage, healthy, tot, err, age⟩ : Ro) else roS dest) else roS 0).cells ∧ er = (if possL none st = true then 0 else 7) from ⟨by rw [HC.out, hn]; simp only; split <;> rfl, by rw [HE.out, hn]; simp only; split <;> rfl⟩)
      clear hn ht HC HE
      obtain ⟨W2, hW2⟩ : ∃ x, x = (w1.alloc (.cells #[.nilFunc, .int .i64 0, .bool false] 62)).setRow w1.heap.size #[(.func (.func 48) #[] #[]), .int .i64 dest, .bool keeps] := ⟨_, rfl⟩
      have HGT := Box.mk (show g + 1 < w1.heap.size from HU1.out.lt)
      have HV2 := Box.mk (show VarA W2 g #[.int .i64 st, .int .i64 stage, .int .i64 healthy, .int .i64 tot, .int .i64 err, .int .i64 age] 28 by rw [hW2]; exact (HV1.out.below _).row_other (by have := HGT.out; omega))
      have HU2 := Box.mk (show VarA W2 (g + 1) #[.int .i64 0, .int .i64 0, .int .i64 0, .int .i64 0, .int .i64 0, .int .i64 0] 28 by rw [hW2]; exact (HU1.out.below _).row_other (by have := HGT.out; omega))
      have HB2 := Box.mk (show Below g w W2 by rw [hW2]; exact below_setRow (HB1.out.trans ((below_oneF _ _).mono (Nat.le_of_lt HV1.out.lt))) (Nat.le_of_lt HV1.out.lt) _)
      have HT2 := Box.mk (show VarA W2 w1.heap.size #[(.func (.func 48) #[] #[]), .int .i64 dest, .bool keeps] 62 by rw [hW2]; exact setRow_heap _ _ _ _ _ _ (VarA.new _ _ _))
      go_upto_region 2 with (refine wpList_store_row rfl 62 _ _ rfl w1.heap.size #[(.func (.func 48) #[] #[]), .int .i64 dest, .bool keeps] rfl rfl 62 _ (VarA.new _ _ _) sizeTr rfl (by simp [Value.oneCell']) ?_)
      change Code.wp _ _ _ _ ((w1.alloc (.cells #[.nilFunc, .int .i64 0, .bool false] 62)).setRow w1.heap.size #[(.func (.func 48) #[] #[]), .int .i64 dest, .bool keeps])
      rw [← hW2]
      clear hW2 hrun
      generalize htb : w1.heap.size = tb at HT2 HGT ⊢
      clear htb HV1 HU1 HB1
      have c0 := HV2.out.cell (i := 0) (v := .int .i64 st) rfl
      have t0 := HT2.out.cell (i := 0) (v := (.func (.func 48) #[] #[])) rfl
      go_wp2_with fail
      refine (always_any st _).mono ?_
      rintro e w3 ⟨he, hb⟩
      have HV3 := Box.mk (HV2.out.keep hb)
      have HU3 := Box.mk (HU2.out.keep hb)
      have HT3 := Box.mk (HT2.out.keep hb)
      have HB3 := Box.mk (HB2.out.trans (hb.mono (Nat.le_of_lt HV2.out.lt)))
      clear hb HV2 HU2 HT2 HB2 c0 t0
      have HP := Box.mk (show possL none st = true from rfl)
      subst he
      cases keeps
      · skip
        have HY := Box.mk (show cs = #[.int .i64 dest, .int .i64 0, .int .i64 0, .int .i64 0, .int .i64 0, .int .i64 0] ∧ er = 0 from ⟨by rw [HX.out.1, HP.out]; rfl, by rw [HX.out.2, HP.out]; rfl⟩)
        clear HX HP
        have t2 := HT3.out.cell (i := 2) (v := .bool false) rfl
        obtain ⟨W4, hW4⟩ : ∃ x, x = w3.setRow g #[.int .i64 0, .int .i64 0, .int .i64 0, .int .i64 0, .int .i64 0, .int .i64 0] := ⟨_, rfl⟩
        have HV4 := Box.mk (show VarA W4 g #[.int .i64 0, .int .i64 0, .int .i64 0, .int .i64 0, .int .i64 0, .int .i64 0] 28 by rw [hW4]; exact setRow_heap _ _ _ _ _ _ HV3.out)
        have HU4 := Box.mk (show VarA W4 (g + 1) #[.int .i64 0, .int .i64 0, .int .i64 0, .int .i64 0, .int .i64 0, .int .i64 0] 28 by rw [hW4]; exact HU3.out.row_other (by omega))
        have HT4 := Box.mk (show VarA W4 tb #[(.func (.func 48) #[] #[]), .int .i64 dest, .bool false] 62 by rw [hW4]; exact HT3.out.row_other (by have := HGT.out; omega))
        have HB4 := Box.mk (show Below g w W4 by rw [hW4]; exact below_setRow HB3.out (Nat.le_refl _) _)
        go_upto_region 8 with (refine wpList_store_row rfl 28 _ _ rfl g #[.int .i64 0, .int .i64 0, .int .i64 0, .int .i64 0, .int .i64 0, .int .i64 0] rfl rfl 28 _ HV3.out sizeRo rfl (oneRo ..) ?_)
        change Code.wp _ _ _ _ (w3.setRow g #[.int .i64 0, .int .i64 0, .int .i64 0, .int .i64 0, .int .i64 0, .int .i64 0])
        rw [← hW4]
        clear hW4 HV3 HU3 HT3 HB3 t2
        have t1 := HT4.out.cell (i := 1) (v := .int .i64 dest) rfl
        have hf := HV4.out.frozen (i := 0)
        have c0 := HV4.out.cell (i := 0) (v := .int .i64 0) rfl
        obtain ⟨W5, hW5⟩ : ∃ x, x = W4.setCell ⟨g, 0, none⟩ (.int .i64 dest) := ⟨_, rfl⟩
        have HV5 := Box.mk (show VarA W5 g #[.int .i64 dest, .int .i64 0, .int .i64 0, .int .i64 0, .int .i64 0, .int .i64 0] 28 by rw [hW5]; exact HV4.out.set)
        have HU5 := Box.mk (show VarA W5 (g + 1) #[.int .i64 0, .int .i64 0, .int .i64 0, .int .i64 0, .int .i64 0, .int .i64 0] 28 by rw [hW5]; exact HU4.out.other (by show g + 1 ≠ g; omega))
        have HB5 := Box.mk (show Below g w W5 by rw [hW5]; exact HB4.out.setCell (Nat.le_refl _) _)
        go_upto_region 9 with fail
        change Code.wp _ _ _ _ (W4.setCell ⟨g, 0, none⟩ (.int .i64 dest))
        rw [← hW5]
        clear hW5 hf c0 t1 HV4 HU4 HB4
        have d0 := HV5.out.cell (i := 0) (v := .int .i64 dest) rfl
        have d1 := HV5.out.cell (i := 1) (v := .int .i64 0) rfl
        have d2 := HV5.out.cell (i := 2) (v := .int .i64 0) rfl
        have d3 := HV5.out.cell (i := 3) (v := .int .i64 0) rfl
        have d4 := HV5.out.cell (i := 4) (v := .int .i64 0) rfl
        have d5 := HV5.out.cell (i := 5) (v := .int .i64 0) rfl
        go_wp2_with (refine wpList_store_row rfl 28 _ _ rfl (g + 1) #[.int .i64 dest, .int .i64 0, .int .i64 0, .int .i64 0, .int .i64 0, .int .i64 0] rfl rfl 28 _ HU5.out sizeRo rfl (oneRo ..) ?_)
        (try simp only [Exit.inBlock, Exit.then])
        refine bodyPost_ret (results_row_tmpF rfl _ _ (g + 1) _ _ _ _ rfl (setRow_heap _ _ _ _ _ _ HU5.out) Try.underlying28 rfl sizeRo) rfl ?_
        exact ⟨by rw [HY.out.1, HY.out.2]; rfl, by rw [HG.out]; exact below_setRow HB5.out (by omega) _⟩
      · skip
        have HY := Box.mk (show cs = #[.int .i64 dest, .int .i64 stage, .int .i64 healthy, .int .i64 tot, .int .i64 err, .int .i64 age] ∧ er = 0 from ⟨by rw [HX.out.1, HP.out]; rfl, by rw [HX.out.2, HP.out]; rfl⟩)
        clear HX HP
        have t2 := HT3.out.cell (i := 2) (v := .bool true) rfl
        have t1 := HT3.out.cell (i := 1) (v := .int .i64 dest) rfl
        have hf := HV3.out.frozen (i := 0)
        have c0 := HV3.out.cell (i := 0) (v := .int .i64 st) rfl
        obtain ⟨W5, hW5⟩ : ∃ x, x = w3.setCell ⟨g, 0, none⟩ (.int .i64 dest) := ⟨_, rfl⟩
        have HV5 := Box.mk (show VarA W5 g #[.int .i64 dest, .int .i64 stage, .int .i64 healthy, .int .i64 tot, .int .i64 err, .int .i64 age] 28 by rw [hW5]; exact HV3.out.set)
        have HU5 := Box.mk (show VarA W5 (g + 1) #[.int .i64 0, .int .i64 0, .int .i64 0, .int .i64 0, .int .i64 0, .int .i64 0] 28 by rw [hW5]; exact HU3.out.other (by show g + 1 ≠ g; omega))
        have HB5 := Box.mk (show Below g w W5 by rw [hW5]; exact HB3.out.setCell (Nat.le_refl _) _)
        go_upto_region 9 with fail
        change Code.wp _ _ _ _ (w3.setCell ⟨g, 0, none⟩ (.int .i64 dest))
        rw [← hW5]
        clear hW5 hf c0 t1 HV3 HU3 HB3 t2
        have d0 := HV5.out.cell (i := 0) (v := .int .i64 dest) rfl
        have d1 := HV5.out.cell (i := 1) (v := .int .i64 stage) rfl
        have d2 := HV5.out.cell (i := 2) (v := .int .i64 healthy) rfl
        have d3 := HV5.out.cell (i := 3) (v := .int .i64 tot) rfl
        have d4 := HV5.out.cell (i := 4) (v := .int .i64 err) rfl
        have d5 := HV5.out.cell (i := 5) (v := .int .i64 age) rfl
        go_wp2_with (refine wpList_store_row rfl 28 _ _ rfl (g + 1) #[.int .i64 dest, .int .i64 stage, .int .i64 healthy, .int .i64 tot, .int .i64 err, .int .i64 age] rfl rfl 28 _ HU5.out sizeRo rfl (oneRo ..) ?_)
        (try simp only [Exit.inBlock, Exit.then])
        refine bodyPost_ret (results_row_tmpF rfl _ _ (g + 1) _ _ _ _ rfl (setRow_heap _ _ _ _ _ _ HU5.out) Try.underlying28 rfl sizeRo) rfl ?_
        exact ⟨by rw [HY.out.1, HY.out.2]; rfl, by rw [HG.out]; exact below_setRow HB5.out (by omega) _⟩
    · subst hS
      have HX := Box.mk (show cs = (if possL (some l) st = true then (if keeps = true then (⟨dest, stage, healthy, tot, err, age⟩ : Ro) else roS dest) else roS 0).cells ∧ er = (if possL (some l) st = true then 0 else 7) from ⟨by rw [HC.out, hn]; simp only; split <;> rfl, by rw [HE.out, hn]; simp only; split <;> rfl⟩)
      have HLL := Box.mk (trnL_len hn rfl)
      clear hn ht HC HE
      obtain ⟨W2, hW2⟩ : ∃ x, x = (w1.alloc (.cells #[.nilFunc, .int .i64 0, .bool false] 62)).setRow w1.heap.size #[(.func (.func 53) #[] #[.pointer (some ⟨q, 0, none⟩)]), .int .i64 dest, .bool keeps] := ⟨_, rfl⟩
      have HGT := Box.mk (show g + 1 < w1.heap.size from HU1.out.lt)
      have HV2 := Box.mk (show VarA W2 g #[.int .i64 st, .int .i64 stage, .int .i64 healthy, .int .i64 tot, .int .i64 err, .int .i64 age] 28 by rw [hW2]; exact (HV1.out.below _).row_other (by have := HGT.out; omega))
      have HU2 := Box.mk (show VarA W2 (g + 1) #[.int .i64 0, .int .i64 0, .int .i64 0, .int .i64 0, .int .i64 0, .int .i64 0] 28 by rw [hW2]; exact (HU1.out.below _).row_other (by have := HGT.out; omega))
      have HB2 := Box.mk (show Below g w W2 by rw [hW2]; exact below_setRow (HB1.out.trans ((below_oneF _ _).mono (Nat.le_of_lt HV1.out.lt))) (Nat.le_of_lt HV1.out.lt) _)
      have HT2 := Box.mk (show VarA W2 w1.heap.size #[(.func (.func 53) #[] #[.pointer (some ⟨q, 0, none⟩)]), .int .i64 dest, .bool keeps] 62 by rw [hW2]; exact setRow_heap _ _ _ _ _ _ (VarA.new _ _ _))
      have H5 := Box.mk (below_cell (show Below w1.heap.size w1 W2 by rw [hW2]; exact below_setRow (below_oneF _ _) (Nat.le_refl _) _) h5)
      have H6 := Box.mk (h6.keepP (show Below w1.heap.size w1 W2 by rw [hW2]; exact below_setRow (below_oneF _ _) (Nat.le_refl _) _))
      clear h3 h4 h5 h6
      go_upto_region 2 with (refine wpList_store_row rfl 62 _ _ rfl w1.heap.size #[(.func (.func 53) #[] #[.pointer (some ⟨q, 0, none⟩)]), .int .i64 dest, .bool keeps] rfl rfl 62 _ (VarA.new _ _ _) sizeTr rfl (by simp [Value.oneCell']) ?_)
      change Code.wp _ _ _ _ ((w1.alloc (.cells #[.nilFunc, .int .i64 0, .bool false] 62)).setRow w1.heap.size #[(.func (.func 53) #[] #[.pointer (some ⟨q, 0, none⟩)]), .int .i64 dest, .bool keeps])
      rw [← hW2]
      clear hW2 hrun
      generalize htb : w1.heap.size = tb at HT2 HGT ⊢
      clear htb HV1 HU1 HB1
      have c0 := HV2.out.cell (i := 0) (v := .int .i64 st) rfl
      have t0 := HT2.out.cell (i := 0) (v := (.func (.func 53) #[] #[.pointer (some ⟨q, 0, none⟩)])) rfl
      go_wp2_with fail
      refine (inClosure_any l st q a _ _ H5.out H6.out HLL.out).mono ?_
      rintro e w3 ⟨he, hb⟩
      have HV3 := Box.mk (HV2.out.keep hb)
      have HU3 := Box.mk (HU2.out.keep hb)
      have HT3 := Box.mk (HT2.out.keep hb)
      have HB3 := Box.mk (HB2.out.trans (hb.mono (Nat.le_of_lt HV2.out.lt)))
      clear hb HV2 HU2 HT2 HB2 c0 t0 H5 H6 HLL
      obtain ⟨p, hp⟩ : ∃ p, possL (some l) st = p := ⟨_, rfl⟩
      have HP := Box.mk hp
      rw [show (l.any fun x => st == x) = p from hp] at he
      clear hp
      subst he
      cases p
      · skip
        have HY := Box.mk (show cs = #[.int .i64 0, .int .i64 0, .int .i64 0, .int .i64 0, .int .i64 0, .int .i64 0] ∧ er = 7 from ⟨by rw [HX.out.1, HP.out]; rfl, by rw [HX.out.2, HP.out]; rfl⟩)
        clear HX HP
        go_wp2_with (refine wpList_store_row rfl 28 _ _ rfl (g + 1) #[.int .i64 0, .int .i64 0, .int .i64 0, .int .i64 0, .int .i64 0, .int .i64 0] rfl rfl 28 _ HU3.out sizeRo rfl (oneRo ..) ?_)
        (try simp only [Exit.inBlock, Exit.then])
        refine bodyPost_ret (results_row_tmpF rfl _ _ (g + 1) _ _ _ _ rfl (setRow_heap _ _ _ _ _ _ HU3.out) Try.underlying28 rfl sizeRo) rfl ?_
        exact ⟨by rw [HY.out.1, HY.out.2]; rfl, by rw [HG.out]; exact below_setRow HB3.out (by omega) _⟩
      · skip
        cases keeps
        · skip
          have HY := Box.mk (show cs = #[.int .i64 dest, .int .i64 0, .int .i64 0, .int .i64 0, .int .i64 0, .int .i64 0] ∧ er = 0 from ⟨by rw [HX.out.1, HP.out]; rfl, by rw [HX.out.2, HP.out]; rfl⟩)
          clear HX HP
          have t2 := HT3.out.cell (i := 2) (v := .bool false) rfl
          obtain ⟨W4, hW4⟩ : ∃ x, x = w3.setRow g #[.int .i64 0, .int .i64 0, .int .i64 0, .int .i64 0, .int .i64 0, .int .i64 0] := ⟨_, rfl⟩
          have HV4 := Box.mk (show VarA W4 g #[.int .i64 0, .int .i64 0, .int .i64 0, .int .i64 0, .int .i64 0, .int .i64 0] 28 by rw [hW4]; exact setRow_heap _ _ _ _ _ _ HV3.out)
          have HU4 := Box.mk (show VarA W4 (g + 1) #[.int .i64 0, .int .i64 0, .int .i64 0, .int .i64 0, .int .i64 0, .int .i64 0] 28 by rw [hW4]; exact HU3.out.row_other (by omega))
          have HT4 := Box.mk (show VarA W4 tb #[(.func (.func 53) #[] #[.pointer (some ⟨q, 0, none⟩)]), .int .i64 dest, .bool false] 62 by rw [hW4]; exact HT3.out.row_other (by have := HGT.out; omega))
          have HB4 := Box.mk (show Below g w W4 by rw [hW4]; exact below_setRow HB3.out (Nat.le_refl _) _)
          go_upto_region 8 with (refine wpList_store_row rfl 28 _ _ rfl g #[.int .i64 0, .int .i64 0, .int .i64 0, .int .i64 0, .int .i64 0, .int .i64 0] rfl rfl 28 _ HV3.out sizeRo rfl (oneRo ..) ?_)
          change Code.wp _ _ _ _ (w3.setRow g #[.int .i64 0, .int .i64 0, .int .i64 0, .int .i64 0, .int .i64 0, .int .i64 0])
          rw [← hW4]
          clear hW4 HV3 HU3 HT3 HB3 t2
          have t1 := HT4.out.cell (i := 1) (v := .int .i64 dest) rfl
          have hf := HV4.out.frozen (i := 0)
          have c0 := HV4.out.cell (i := 0) (v := .int .i64 0) rfl
          obtain ⟨W5, hW5⟩ : ∃ x, x = W4.setCell ⟨g, 0, none⟩ (.int .i64 dest) := ⟨_, rfl⟩
          have HV5 := Box.mk (show VarA W5 g #[.int .i64 dest, .int .i64 0, .int .i64 0, .int .i64 0, .int .i64 0, .int .i64 0] 28 by rw [hW5]; exact HV4.out.set)
          have HU5 := Box.mk (show VarA W5 (g + 1) #[.int .i64 0, .int .i64 0, .int .i64 0, .int .i64 0, .int .i64 0, .int .i64 0] 28 by rw [hW5]; exact HU4.out.other (by show g + 1 ≠ g; omega))
          have HB5 := Box.mk (show Below g w W5 by rw [hW5]; exact HB4.out.setCell (Nat.le_refl _) _)
          go_upto_region 9 with fail
          change Code.wp _ _ _ _ (W4.setCell ⟨g, 0, none⟩ (.int .i64 dest))
          rw [← hW5]
          clear hW5 hf c0 t1 HV4 HU4 HB4
          have d0 := HV5.out.cell (i := 0) (v := .int .i64 dest) rfl
          have d1 := HV5.out.cell (i := 1) (v := .int .i64 0) rfl
          have d2 := HV5.out.cell (i := 2) (v := .int .i64 0) rfl
          have d3 := HV5.out.cell (i := 3) (v := .int .i64 0) rfl
          have d4 := HV5.out.cell (i := 4) (v := .int .i64 0) rfl
          have d5 := HV5.out.cell (i := 5) (v := .int .i64 0) rfl
          go_wp2_with (refine wpList_store_row rfl 28 _ _ rfl (g + 1) #[.int .i64 dest, .int .i64 0, .int .i64 0, .int .i64 0, .int .i64 0, .int .i64 0] rfl rfl 28 _ HU5.out sizeRo rfl (oneRo ..) ?_)
          (try simp only [Exit.inBlock, Exit.then])
          refine bodyPost_ret (results_row_tmpF rfl _ _ (g + 1) _ _ _ _ rfl (setRow_heap _ _ _ _ _ _ HU5.out) Try.underlying28 rfl sizeRo) rfl ?_
          exact ⟨by rw [HY.out.1, HY.out.2]; rfl, by rw [HG.out]; exact below_setRow HB5.out (by omega) _⟩
        · skip
          have HY := Box.mk (show cs = #[.int .i64 dest, .int .i64 stage, .int .i64 healthy, .int .i64 tot, .int .i64 err, .int .i64 age] ∧ er = 0 from ⟨by rw [HX.out.1, HP.out]; rfl, by rw [HX.out.2, HP.out]; rfl⟩)
          clear HX HP
          have t2 := HT3.out.cell (i := 2) (v := .bool true) rfl
          have t1 := HT3.out.cell (i := 1) (v := .int .i64 dest) rfl
          have hf := HV3.out.frozen (i := 0)
          have c0 := HV3.out.cell (i := 0) (v := .int .i64 st) rfl
          obtain ⟨W5, hW5⟩ : ∃ x, x = w3.setCell ⟨g, 0, none⟩ (.int .i64 dest) := ⟨_, rfl⟩
          have HV5 := Box.mk (show VarA W5 g #[.int .i64 dest, .int .i64 stage, .int .i64 healthy, .int .i64 tot, .int .i64 err, .int .i64 age] 28 by rw [hW5]; exact HV3.out.set)
          have HU5 := Box.mk (show VarA W5 (g + 1) #[.int .i64 0, .int .i64 0, .int .i64 0, .int .i64 0, .int .i64 0, .int .i64 0] 28 by rw [hW5]; exact HU3.out.other (by show g + 1 ≠ g; omega))
          have HB5 := Box.mk (show Below g w W5 by rw [hW5]; exact HB3.out.setCell (Nat.le_refl _) _)
          go_upto_region 9 with fail
          change Code.wp _ _ _ _ (w3.setCell ⟨g, 0, none⟩ (.int .i64 dest))
          rw [← hW5]
          clear hW5 hf c0 t1 HV3 HU3 HB3 t2
          have d0 := HV5.out.cell (i := 0) (v := .int .i64 dest) rfl
          have d1 := HV5.out.cell (i := 1) (v := .int .i64 stage) rfl
          have d2 := HV5.out.cell (i := 2) (v := .int .i64 healthy) rfl
          have d3 := HV5.out.cell (i := 3) (v := .int .i64 tot) rfl
          have d4 := HV5.out.cell (i := 4) (v := .int .i64 err) rfl
          have d5 := HV5.out.cell (i := 5) (v := .int .i64 age) rfl
          go_wp2_with (refine wpList_store_row rfl 28 _ _ rfl (g + 1) #[.int .i64 dest, .int .i64 stage, .int .i64 healthy, .int .i64 tot, .int .i64 err, .int .i64 age] rfl rfl 28 _ HU5.out sizeRo rfl (oneRo ..) ?_)
          (try simp only [Exit.inBlock, Exit.then])
          refine bodyPost_ret (results_row_tmpF rfl _ _ (g + 1) _ _ _ _ rfl (setRow_heap _ _ _ _ _ _ HU5.out) Try.underlying28 rfl sizeRo) rfl ?_
          exact ⟨by rw [HY.out.1, HY.out.2]; rfl, by rw [HG.out]; exact below_setRow HB5.out (by omega) _⟩
end Go.Proofs.Ytfjnpegpfmaekaa
namespace Go.Proofs.Ytfjnpegpfmaekaa
open Go.RowKit

/-- v is a slice with the fields l in a block of its own, at B or beyond. -/
def OwnX (B : Nat) (w : World) (v : Value) (l : List Inp) : Prop := w.ownsRow B 24 2 v l.length (cellsI l)
theorem OwnX.start (B : Nat) (w : World) : OwnX B w (.slice none 0 0) [] := World.ownsRow_nil _ _ _ _
theorem OwnX.lt {B : Nat} {w : World} {v : Value} {l : List Inp} (h : OwnX B w v l) {k : Nat} (hk : v.ownBlock = some k) : B ≤ k ∧ k < w.heap.size := World.ownsRow.lt h k hk
theorem OwnX.same {B : Nat} {w w' : World} {v : Value} {l : List Inp} (h : OwnX B w v l) (hs : ∀ k, v.ownBlock = some k → w'.heap[k]? = w.heap[k]?) : OwnX B w' v l := by
  obtain ⟨h1, h2⟩ := h
  refine ⟨h1, ?_⟩
  rcases h2 with h2 | ⟨g, cap, cur, hv, hg, hc, r⟩
  · exact .inl h2
  · exact .inr ⟨g, cap, cur, hv, hg, by rw [hs g (by rw [hv]; rfl)]; exact hc, r⟩
theorem OwnX.keep {B : Nat} {w w' : World} {v : Value} {l : List Inp} (h : OwnX B w v l) (hb : Below w.heap.size w w') : OwnX B w' v l :=
  h.same fun k hk => hb.block k (h.lt hk).2
theorem OwnX.grown {B : Nat} {w w' : World} {v : Value} {l : List Inp} {row : Option Nat} (h : OwnX B w v l) (hg : w.grownBy w' row) (hne : ∀ k, v.ownBlock = some k → some k ≠ row) : OwnX B w' v l :=
  h.same fun k hk => hg.block k (h.lt hk).2 (hne k hk)
theorem OwnX.shape {B : Nat} {w : World} {v : Value} {l : List Inp} (h : OwnX B w v l) : ∃ a cap, v = .slice a l.length cap ∧ InpsIn w a l ∧ l.length ≤ cap ∧ ∀ x, a = some x → B ≤ x.block := by
  obtain ⟨h1, h2⟩ := h
  rcases h2 with ⟨rfl, h2⟩ | ⟨g, cap, cur, rfl, hg, hc, hcap, hm, hsz, ht⟩
  · have : l = [] := List.eq_nil_of_length_eq_zero h2
    subst this
    exact ⟨none, 0, rfl, InpsIn.nil _ _, Nat.le_refl _, fun x e => by cases e⟩
  · refine ⟨_, cap, rfl, InpsIn.of_cells fun j u hj => ?_, hcap, fun x e => by obtain rfl := Option.some.inj e; exact hg⟩
    have e := congrArg (fun x => x[j]?) ht
    have hlt : j < l.length * 2 := by rw [← cellsI_len]; exact (List.getElem?_eq_some_iff.1 hj).1
    rw [hj, List.getElem?_take_of_lt hlt] at e
    rw [Addr.add_lit]
    simp only [World.cell?, hc, Nat.zero_add]
    simpa using e
section
variable {ops : Array Oper} {rest : List Oper} {o : Oper} {act : Act} {Q : Exit → Act → World → Prop}
theorem wpList_append_ownx (w : World) (hgd : o.guard = none) (s x : Operand) (ho : o.op = .call { callee := .builtin .append, args := #[s, x], argTypes := #[31, 31] })
    {B : Nat} {v : Value} {l : List Inp} (hs : act.eval s = v) (h : OwnX B w v l) {b c : Nat} (hx : act.eval x = .slice (some ⟨b, 0, none⟩) 1 c) {y : Inp} (hy : w.cell? ⟨b, 0, none⟩ = some (.int .i64 y.1)) (hy2 : w.cell? ⟨b, 1, none⟩ = some (.int .i64 y.2))
    (hn : l.length + 1 ≤ 4398046511104) (hB : B ≤ w.heap.size)
    (K : ∀ v' w', OwnX B w' v' (l ++ [y]) → w.grownBy w' v.ownBlock → wpList Try.prog ops Q rest (act.put o.dst v') w') : wpList Try.prog ops Q (o :: rest) act w := by
  obtain ⟨i0, hi, hz0, hz1, hz2⟩ := info_parts Try.info24
  refine wpList_append_lies w hgd s x 31 ho B 24 i0 _ 2 16 Try.underlying31 hi hz0 hz1 hz2 rfl (by decide) v l.length (cellsI l) hs h ⟨b, 0, none⟩ 1 c [.int .i64 y.1, .int .i64 y.2] hx rfl ?_ ?_ (by decide) (by unfold maxLen; omega) (by omega) hB w.heap.size rfl ?_
  · intro j u hj
    match j, hj with
    | 0, hj => simp at hj; subst hj; rw [Addr.add_lit]; exact hy
    | 1, hj => simp at hj; subst hj; rw [Addr.add_lit]; exact hy2
    | j + 2, hj => simp at hj
  · intro u hu; simp at hu; rcases hu with rfl | rfl <;> rfl
  · intro g cap w' hown hgrow hg hlt
    refine K _ w' ?_ hgrow
    unfold OwnX
    rw [List.length_append, cellsI_app]; exact hown
end

def intsZ (l : List Int) : List Value := l.map (.int .i64 ·)
theorem intsZ_len (l : List Int) : (intsZ l).length = l.length := by unfold intsZ; simp
theorem intsZ_app (a b : List Int) : intsZ (a ++ b) = intsZ a ++ intsZ b := by unfold intsZ; simp
theorem Try.info3Z : (Try.prog.info? 3).map (fun i => (i.zero, i.size, i.bytes)) = some (some (.int .i64 0), 1, 8) := by kernel_rfl
/-- v is a slice with the numbers l in a block of its own, at B or beyond. -/
def OwnZ (B : Nat) (w : World) (v : Value) (l : List Int) : Prop := w.ownsRow B 3 1 v l.length (intsZ l)
theorem OwnZ.start (B : Nat) (w : World) : OwnZ B w (.slice none 0 0) [] := World.ownsRow_nil _ _ _ _
theorem OwnZ.lt {B : Nat} {w : World} {v : Value} {l : List Int} (h : OwnZ B w v l) {k : Nat} (hk : v.ownBlock = some k) : B ≤ k ∧ k < w.heap.size := World.ownsRow.lt h k hk
theorem OwnZ.same {B : Nat} {w w' : World} {v : Value} {l : List Int} (h : OwnZ B w v l) (hs : ∀ k, v.ownBlock = some k → w'.heap[k]? = w.heap[k]?) : OwnZ B w' v l := by
  obtain ⟨h1, h2⟩ := h
  refine ⟨h1, ?_⟩
  rcases h2 with h2 | ⟨g, cap, cur, hv, hg, hc, r⟩
  · exact .inl h2
  · exact .inr ⟨g, cap, cur, hv, hg, by rw [hs g (by rw [hv]; rfl)]; exact hc, r⟩
theorem OwnZ.keep {B : Nat} {w w' : World} {v : Value} {l : List Int} (h : OwnZ B w v l) (hb : Below w.heap.size w w') : OwnZ B w' v l :=
  h.same fun k hk => hb.block k (h.lt hk).2
theorem OwnZ.grown {B : Nat} {w w' : World} {v : Value} {l : List Int} {row : Option Nat} (h : OwnZ B w v l) (hg : w.grownBy w' row) (hne : ∀ k, v.ownBlock = some k → some k ≠ row) : OwnZ B w' v l :=
  h.same fun k hk => hg.block k (h.lt hk).2 (hne k hk)
theorem OwnZ.shape {B : Nat} {w : World} {v : Value} {l : List Int} (h : OwnZ B w v l) (hr : ∀ z ∈ l, -9223372036854775808 ≤ z ∧ z ≤ 9223372036854775807) : ∃ a cap, v = .slice a l.length cap ∧ IsInts w a l cap ∧ ∀ x, a = some x → B ≤ x.block := by
  obtain ⟨h1, h2⟩ := h
  rcases h2 with ⟨rfl, h2⟩ | ⟨g, cap, cur, rfl, hg, hc, hcap, hm, hsz, ht⟩
  · have : l = [] := List.eq_nil_of_length_eq_zero h2
    subst this
    exact ⟨none, 0, rfl, .inl ⟨rfl, rfl, rfl⟩, fun x e => by cases e⟩
  · refine ⟨_, cap, rfl, .inr ⟨_, rfl, hcap, hm, fun j hj => ⟨?_, hr _ (List.getElem_mem hj)⟩⟩, fun x e => by rw [← Option.some.inj e]; exact hg⟩
    have hu : (intsZ l)[j]? = some (.int .i64 l[j]) := by unfold intsZ; simp [hj]
    have e := congrArg (fun x => x[j]?) ht
    have hlt : j < l.length * 1 := by omega
    rw [hu, List.getElem?_take_of_lt hlt] at e
    rw [Addr.add_lit]
    simp only [World.cell?, hc, Nat.zero_add]
    simpa using e
section
variable {ops : Array Oper} {rest : List Oper} {o : Oper} {act : Act} {Q : Exit → Act → World → Prop}
theorem wpList_append_ownz (w : World) (hgd : o.guard = none) (s x : Operand) (ho : o.op = .call { callee := .builtin .append, args := #[s, x], argTypes := #[22, 22] })
    {B : Nat} {v : Value} {l : List Int} (hs : act.eval s = v) (h : OwnZ B w v l) {b c : Nat} (hx : act.eval x = .slice (some ⟨b, 0, none⟩) 1 c) {y : Int} (hy : w.cell? ⟨b, 0, none⟩ = some (.int .i64 y))
    (hn : l.length + 1 ≤ 4398046511104) (hB : B ≤ w.heap.size)
    (K : ∀ v' w', OwnZ B w' v' (l ++ [y]) → w.grownBy w' v.ownBlock → (v'.ownBlock = v.ownBlock ∨ v'.ownBlock = some w.heap.size) → wpList Try.prog ops Q rest (act.put o.dst v') w') : wpList Try.prog ops Q (o :: rest) act w := by
  obtain ⟨i0, hi, hz0, hz1, hz2⟩ := info_parts Try.info3Z
  refine wpList_append_lies w hgd s x 22 ho B 3 i0 _ 1 8 Try.underlying22 hi hz0 hz1 hz2 rfl (by decide) v l.length (intsZ l) hs h ⟨b, 0, none⟩ 1 c [.int .i64 y] hx rfl ?_ ?_ (by decide) (by unfold maxLen; omega) (by omega) hB w.heap.size rfl ?_
  · intro j u hj
    match j, hj with
    | 0, hj => simp at hj; subst hj; rw [Addr.add_lit]; exact hy
    | j + 1, hj => simp at hj
  · intro u hu; simp at hu; rcases hu with rfl; rfl
  · intro g cap w' hown hgrow hg hlt
    refine K _ w' ?_ hgrow (hg.elim (fun e => .inl (by rw [e]; rfl)) fun e => .inr (by rw [e]; rfl))
    unfold OwnZ
    rw [List.length_append, intsZ_app]; exact hown
end
end Go.Proofs.Ytfjnpegpfmaekaa
namespace Go.Proofs.Ytfjnpegpfmaekaa
open Go.RowKit

set_option maxRecDepth 100000 in
set_option maxHeartbeats 1000000 in
theorem cut_any (a : Option Addr) (n c k : Nat) (w : World) (h : IntsF w a n) (hn : n ≤ maxLen) (hc : n ≤ c) (_hk : k ≤ 1000) (ha : 0 < n → ∃ ad, a = some ad) :
    Calls Try.prog 36 #[.slice a n c, .int .i64 k] w fun e w' => ∃ m, m ≤ k ∧ m ≤ n ∧ e = .returned (.slice a m c) ∧ IntsF w' a m ∧ w = w' := by
  have HB := Box.mk h
  unfold maxLen at hn
  clear h
  by_cases hlt : k < n
  · obtain ⟨ad, rfl⟩ := ha (by omega)
    clear ha
    go_enter Try.func36, Try.ntmps36
    go_wp2_with fail
    go_ret
    exact ⟨k, Nat.le_refl _, by omega, rfl, fun j hj => HB.out j (by omega), rfl⟩
  · clear ha
    go_enter Try.func36, Try.ntmps36
    go_wp2_with fail
    go_ret
    exact ⟨n, by omega, Nat.le_refl _, rfl, HB.out, rfl⟩
end Go.Proofs.Ytfjnpegpfmaekaa
namespace Go.Proofs.Ytfjnpegpfmaekaa
open Go.RowKit

/-- The source stands at its number i. -/
def SrcI (w : World) (g : Nat) (a : Option Addr) (n c i : Nat) : Prop :=
  i ≤ n ∧ w.heap[g]? = some (.cells #[.slice a n c, .int .i64 i] 51 (0, 0)) ∧ n ≤ maxLen ∧ IntsF w a n ∧ ∀ x, a = some x → 0 < n → x.block ≠ g
theorem SrcI.src {w : World} {g : Nat} {a : Option Addr} {n c i : Nat} (h : SrcI w g a n c i) : Src w g a n c := ⟨⟨i, h.1, h.2.1⟩, h.2.2.1, h.2.2.2.1, h.2.2.2.2⟩
theorem SrcI.keep {w w' : World} {g : Nat} {a : Option Addr} {n c i : Nat} (h : SrcI w g a n c i) (hb : Below w.heap.size w w') : SrcI w' g a n c i :=
  ⟨h.1, by rw [hb.block g (Array.getElem?_eq_some_iff.1 h.2.1).1]; exact h.2.1, h.2.2.1, h.2.2.2.1.keep hb, h.2.2.2.2⟩
theorem SrcI.grown2 {w w' : World} {g : Nat} {a : Option Addr} {n c i : Nat} {row : Option Nat} (h : SrcI w g a n c i) (hg : w.grownBy w' row) (hne : some g ≠ row) (hne2 : ∀ x, a = some x → 0 < n → some x.block ≠ row) : SrcI w' g a n c i :=
  ⟨h.1, by rw [hg.block g (Array.getElem?_eq_some_iff.1 h.2.1).1 hne]; exact h.2.1, h.2.2.1, h.2.2.2.1.grown hg hne2, h.2.2.2.2⟩

set_option maxRecDepth 100000 in
set_option maxHeartbeats 2000000 in
theorem nextI_any (g m : Nat) (a : Option Addr) (n c i : Nat) (w : World) (h : SrcI w g a n c i) (h0 : 0 < m) (hm : m ≤ 1000000000) :
    Calls Try.prog 39 #[.pointer (some ⟨g, 0, none⟩), .int .i64 m] w fun e w' => ∃ k : Nat, k < m ∧ e = .returned (.int .i64 k) ∧ (∃ i2, SrcI w' g a n c i2 ∧ i ≤ i2 ∧ (i < n → i < i2)) ∧ w.grownBy w' (some g) := by
  have H0 := Box.mk h
  obtain ⟨hi, hr, hn, h2, h3⟩ := h
  have HR := Box.mk hr
  have HI := Box.mk h2
  have HA := Box.mk h3
  have HN := Box.mk hn
  have hc0 : w.cell? ⟨g, 0, none⟩ = some (.slice a n c) := by rw [cell_of_row _ _ _ _ _ _ hr]; rfl
  have hc1 : w.cell? ⟨g, 1, none⟩ = some (.int .i64 i) := by rw [cell_of_row _ _ _ _ _ _ hr]; rfl
  unfold maxLen at hn
  clear hr h2 h3
  go_enter Try.func39, Try.ntmps39
  by_cases hlt : i < n
  · obtain ⟨x, z, rfl, hz, z0, z1⟩ := HI.out i hlt
    have hne := HA.out x rfl (by omega)
    have HNE := Box.mk hne
    clear hne
    have hd : decide (n ≤ i) = false := by simp; omega
    have HZ := Box.mk hz
    clear hz
    go_wp2_with fail
    go_quiet (fail)
    clear hd
    obtain ⟨W, hW⟩ : ∃ W, W = w.drewN nq := ⟨_, rfl⟩
    have HRW := Box.mk (show W.heap[g]? = some (.cells #[.slice (some x) n c, .int .i64 i] 51 (0, 0)) by rw [hW]; exact HR.out)
    rw [← hW]
    have hf := frozen_of_row W g 1 _ _ HRW.out
    have hc0 : W.cell? ⟨g, 0, none⟩ = some (.slice (some x) n c) := by rw [cell_of_row _ _ _ _ _ _ HRW.out]; rfl
    have hc1 : W.cell? ⟨g, 1, none⟩ = some (.int .i64 i) := by rw [cell_of_row _ _ _ _ _ _ HRW.out]; rfl
    have HGW := Box.mk (show w.grownBy W (some g) by rw [hW]; exact ⟨rfl, rfl, rfl, Nat.le_refl _, fun _ _ _ => rfl⟩)
    clear hW
    go_wp2_with fail
    obtain ⟨W2, hW2⟩ : ∃ W2, W2 = W.setCell ⟨g, 1, none⟩ (.int .i64 ((i : Int) + 1)) := ⟨_, rfl⟩
    have HR2 := Box.mk (show W2.heap[g]? = some (.cells #[.slice (some x) n c, .int .i64 ((i : Int) + 1)] 51 (0, 0)) by rw [hW2, heap_setCell_same _ _ _ _ _ _ HRW.out]; simp)
    have HG2 := Box.mk (show w.grownBy W2 (some g) from grownBy_trans HGW.out (by
      rw [hW2]
      exact ⟨rfl, rfl, rfl, by simp [World.setCell], fun k _ hne => heap_setCell_other W ⟨g, 1, none⟩ k _ (fun e => hne (by rw [e]))⟩))
    change Code.wp _ _ _ _ (W.setCell ⟨g, 1, none⟩ (.int .i64 ((i : Int) + 1)))
    rw [← hW2]
    clear hW2 hf hc0 hc1 HGW HRW
    have hc0 : W2.cell? ⟨g, 0, none⟩ = some (.slice (some x) n c) := by rw [cell_of_row _ _ _ _ _ _ HR2.out]; rfl
    have hc1 : W2.cell? ⟨g, 1, none⟩ = some (.int .i64 ((i : Int) + 1)) := by rw [cell_of_row _ _ _ _ _ _ HR2.out]; rfl
    have hz2 : W2.cell? (x.add i) = some (.int .i64 z) := by
      rw [World.cell?_of_block (HG2.out.block _ (lt_cell HZ.out) (by rw [add_blockF]; exact fun e => HNE.out (Option.some.inj e)))]
      exact HZ.out
    have HS := Box.mk (show SrcI W2 g (some x) n c (i + 1) from ⟨hlt, HR2.out, HN.out, HI.out.grown HG2.out (fun y e h e2 => HA.out y e h (Option.some.inj e2)), HA.out⟩)
    obtain ⟨k, hk, hwk⟩ := withI_range z m h0 hm
    have HWK := Box.mk hwk
    clear hwk
    go_quiet ((go_at_call 11; exact Calls.quiet_of_same (withinF _ _ _ h0 hm)))
    go_wp2
    go_ret
    exact ⟨k, hk, ret_int HWK.out, ⟨i + 1, HS.out.keep (below_drewN (Below.refl _ _) _), by omega, fun _ => by omega⟩, grownBy_trans HG2.out ⟨rfl, rfl, rfl, Nat.le_refl _, fun _ _ _ => rfl⟩⟩
  · have hd : decide (n ≤ i) = true := by simp; omega
    go_wp2_with fail
    go_quiet (fail)
    go_wp2
    go_ret
    exact ⟨0, h0, rfl, ⟨i, H0.out.keep (below_drewN (Below.refl _ _) _), Nat.le_refl _, fun e => absurd e hlt⟩, ⟨rfl, rfl, rfl, Nat.le_refl _, fun _ _ _ => rfl⟩⟩

set_option maxRecDepth 100000 in
set_option maxHeartbeats 2000000 in
theorem leftI_any (g : Nat) (a : Option Addr) (n c i : Nat) (w : World) (h : SrcI w g a n c i) :
    Calls Try.prog 37 #[.pointer (some ⟨g, 0, none⟩)] w fun e w' => e = .returned (.bool (decide (i < n))) ∧ Below w.heap.size w w' := by
  have hc0 : w.cell? ⟨g, 0, none⟩ = some (.slice a n c) := by rw [cell_of_row _ _ _ _ _ _ h.2.1]; rfl
  have hc1 : w.cell? ⟨g, 1, none⟩ = some (.int .i64 i) := by rw [cell_of_row _ _ _ _ _ _ h.2.1]; rfl
  have hn := h.2.2.1
  have hi := h.1
  unfold maxLen at hn
  clear h
  go_enter Try.func37, Try.ntmps37
  by_cases hlt : i < n
  · have HD := Box.mk (show decide (i < n) = true from decide_eq_true hlt)
    go_wp2_with fail
    go_quiet (fail)
    go_wp2
    go_ret
    exact ⟨ret_bool (by rw [HD.out]), below_drewN (Below.refl _ _) _⟩
  · have HD := Box.mk (show decide (i < n) = false from decide_eq_false hlt)
    go_wp2_with fail
    go_quiet (fail)
    go_wp2
    go_ret
    exact ⟨ret_bool (by rw [HD.out]), below_drewN (Below.refl _ _) _⟩
end Go.Proofs.Ytfjnpegpfmaekaa
namespace Go.Proofs.Ytfjnpegpfmaekaa
open Go.RowKit
set_option linter.unusedSimpArgs false

theorem grownBy_setRow (w : World) (g : Nat) (cs : Array Value) : w.grownBy (w.setRow g cs) (some g) :=
  ⟨rfl, rfl, rfl, by simp [World.setRow], fun i _ hne => setRow_other w g i cs (fun e => hne (by rw [e]))⟩
theorem grownBy_cellP (w : World) (p : Addr) (v : Value) : w.grownBy (w.setCell p v) (some p.block) :=
  ⟨rfl, rfl, rfl, by simp [World.setCell], fun i _ hne => heap_setCell_other w p i v (fun e => hne (by rw [e]))⟩
theorem VarA.grown {w w' : World} {g : Nat} {cs : Array Value} {t : TypeId} {row : Option Nat} (h : VarA w g cs t) (hg : w.grownBy w' row) (hne : some g ≠ row) : VarA w' g cs t := by
  have := h.lt
  unfold VarA at *
  rw [hg.block g this hne]; exact h

def InpOk (x : Inp) : Prop := (1 ≤ x.1 ∧ x.1 ≤ 4) ∧ 0 ≤ x.2 ∧ x.2 ≤ 6
def kindsC : Array Value := #[.int .i64 1, .int .i64 1, .int .i64 2, .int .i64 2, .int .i64 3, .int .i64 4]
def cmdsC : Array Value := #[.int .i64 1, .int .i64 1, .int .i64 1, .int .i64 2, .int .i64 3, .int .i64 4, .int .i64 5, .int .i64 6]
theorem kinds_at : ∀ k, k < 6 → ∃ z : Int, kindsC[k]? = some (.int .i64 z) ∧ 1 ≤ z ∧ z ≤ 4
  | 0, _ => ⟨1, rfl, by decide, by decide⟩
  | 1, _ => ⟨1, rfl, by decide, by decide⟩
  | 2, _ => ⟨2, rfl, by decide, by decide⟩
  | 3, _ => ⟨2, rfl, by decide, by decide⟩
  | 4, _ => ⟨3, rfl, by decide, by decide⟩
  | 5, _ => ⟨4, rfl, by decide, by decide⟩
theorem cmds_at : ∀ k, k < 8 → ∃ z : Int, cmdsC[k]? = some (.int .i64 z) ∧ 1 ≤ z ∧ z ≤ 6
  | 0, _ => ⟨1, rfl, by decide, by decide⟩
  | 1, _ => ⟨1, rfl, by decide, by decide⟩
  | 2, _ => ⟨1, rfl, by decide, by decide⟩
  | 3, _ => ⟨2, rfl, by decide, by decide⟩
  | 4, _ => ⟨3, rfl, by decide, by decide⟩
  | 5, _ => ⟨4, rfl, by decide, by decide⟩
  | 6, _ => ⟨5, rfl, by decide, by decide⟩
  | 7, _ => ⟨6, rfl, by decide, by decide⟩
theorem oneIn (a b : Int) : (#[.int .i64 a, .int .i64 b] : Array Value).all (·.oneCell') = true := by simp [Value.oneCell']
theorem sizeInp : (Try.prog.info? 24).map (·.size) = some 2 := by kernel_rfl
/-- A row of cells that is new, read whole. -/
theorem VarA.newRow (w : World) (cs : Array Value) (t : TypeId) (fr : Nat × Nat) {i : Nat} {v : Value} (h : cs[i]? = some v) : (w.alloc (.cells cs t fr)).cell? ⟨w.heap.size, i, none⟩ = some v := by
  rw [cell_of_row _ _ _ _ _ _ (heap_alloc_new _ _)]; exact h

set_option maxRecDepth 10000 in
set_option maxHeartbeats 4000000 in
theorem srcInput_any (g : Nat) (a : Option Addr) (n c i : Nat) (w : World) (h : SrcI w g a n c i) :
    Calls Try.prog 38 #[.pointer (some ⟨g, 0, none⟩)] w fun e w' => ∃ x : Inp, e = .returned (.agg #[.int .i64 x.1, .int .i64 x.2]) ∧ InpOk x ∧ (∃ i2, SrcI w' g a n c i2 ∧ i ≤ i2 ∧ (i < n → i < i2)) ∧ w.grownBy w' (some g) := by
  have hgl := h.src.lt
  have HLOW := Box.mk h.src.low
  obtain ⟨W, hW⟩ : ∃ W, W = (w.alloc (.cells #[.int .i64 0, .int .i64 0] 24)).alloc (.cells kindsC 3) := ⟨_, rfl⟩
  have HB := Box.mk (show Below w.heap.size w W by rw [hW]; exact below_twoF (below_oneF w _) _)
  have HU := Box.mk (show VarA W w.heap.size #[.int .i64 0, .int .i64 0] 24 by rw [hW]; exact (VarA.new _ _ _).below _)
  have HK := Box.mk (show VarA W (w.heap.size + 1) kindsC 3 by rw [hW]; have := VarA.new (w.alloc (.cells #[.int .i64 0, .int .i64 0] 24)) kindsC 3; rw [World.size_alloc] at this; exact this)
  have HS := Box.mk (h.keep HB.out)
  clear h
  go_enter Try.func38, Try.ntmps38
  go_wp2_with fail
  change Calls _ _ _ ((w.alloc (.cells #[.int .i64 0, .int .i64 0] 24)).alloc (.cells kindsC 3)) _
  rw [← hW]
  clear hW
  refine (nextI_any g 6 a n c i W HS.out (by decide) (by decide)).mono ?_
  rintro e w1 ⟨k, hk, rfl, ⟨i2, hs2, hi2, hi3⟩, hg⟩
  have HI2 := Box.mk (And.intro hi2 hi3)
  have HS1 := Box.mk hs2
  have HG1 := Box.mk (grownBy_trans (grownBy_below (row := some g) HB.out) hg)
  have HU1 := Box.mk (HU.out.grown hg (fun e => by have := Option.some.inj e; omega))
  have HK1 := Box.mk (HK.out.grown hg (fun e => by have := Option.some.inj e; omega))
  obtain ⟨kd, hkd, hk1, hk4⟩ := kinds_at k hk
  have ck := HK1.out.cell hkd
  clear hs2 hi2 hi3 hg hkd HS HB HU HK HK1
  obtain ⟨W2, hW2⟩ : ∃ W2, W2 = w1.alloc (.cells #[.int .i64 kd, .int .i64 0] 24) := ⟨_, rfl⟩
  have HG2 := Box.mk (show w.grownBy W2 (some g) by rw [hW2]; exact grownBy_trans HG1.out (grownBy_below (below_oneF w1 _)))
  have HU2 := Box.mk (show VarA W2 w.heap.size #[.int .i64 0, .int .i64 0] 24 by rw [hW2]; exact HU1.out.below _)
  have HX2 := Box.mk (show VarA W2 w1.heap.size #[.int .i64 kd, .int .i64 0] 24 by rw [hW2]; exact VarA.new _ _ _)
  have HS2 := Box.mk (show SrcI W2 g a n c i2 by rw [hW2]; exact HS1.out.keep (below_oneF w1 _))
  have hlt : w.heap.size < w1.heap.size := HU1.out.lt
  have hlg : w.heap.size ≤ w1.heap.size := by omega
  clear HU1 HS1 HG1
  go_upto_region 2 with fail
  change Code.wp _ _ _ _ (w1.alloc (.cells #[.int .i64 kd, .int .i64 0] 24))
  rw [← hW2]
  clear hW2 ck
  have x0 := HX2.out.cell (i := 0) (v := .int .i64 kd) rfl
  by_cases h4 : kd = 4
  · have d4 := beq_i_yes h4
    clear h4
    obtain ⟨W3, hW3⟩ : ∃ W3, W3 = W2.alloc (.cells cmdsC 3) := ⟨_, rfl⟩
    have HG3 := Box.mk (show w.grownBy W3 (some g) by rw [hW3]; exact grownBy_trans HG2.out (grownBy_below (below_oneF W2 _)))
    have HU3 := Box.mk (show VarA W3 w.heap.size #[.int .i64 0, .int .i64 0] 24 by rw [hW3]; exact HU2.out.below _)
    have HX3 := Box.mk (show VarA W3 w1.heap.size #[.int .i64 kd, .int .i64 0] 24 by rw [hW3]; exact HX2.out.below _)
    have HK3 := Box.mk (show VarA W3 W2.heap.size cmdsC 3 by rw [hW3]; exact VarA.new _ _ _)
    have HS3 := Box.mk (show SrcI W3 g a n c i2 by rw [hW3]; exact HS2.out.keep (below_oneF W2 _))
    have hl2 : w1.heap.size < W2.heap.size := HX2.out.lt
    go_wp2_with fail
    change Calls _ _ _ (W2.alloc (.cells cmdsC 3)) _
    rw [← hW3]
    clear hW3 HG2 HU2 HX2 HS2 x0
    refine (nextI_any g 8 a n c i2 W3 HS3.out (by decide) (by decide)).mono ?_
    rintro e w4 ⟨k2, hkk, rfl, ⟨i3, hs3, hi4, hi5⟩, hg⟩
    have HI3 := Box.mk (show i ≤ i3 ∧ (i < n → i < i3) from ⟨by have := HI2.out.1; omega, fun h => by have := HI2.out.2 h; omega⟩)
    have HS4 := Box.mk hs3
    have HG4 := Box.mk (grownBy_trans HG3.out hg)
    have HU4 := Box.mk (HU3.out.grown hg (fun e => by have := Option.some.inj e; omega))
    have HX4 := Box.mk (HX3.out.grown hg (fun e => by have := Option.some.inj e; omega))
    have HK4 := Box.mk (HK3.out.grown hg (fun e => by have := Option.some.inj e; omega))
    obtain ⟨cm, hcm, hm1, hm6⟩ := cmds_at k2 hkk
    have ck := HK4.out.cell hcm
    have x1 := HX4.out.cell (i := 1) (v := .int .i64 0) rfl
    have hf := HX4.out.frozen (i := 1)
    clear hs3 hi4 hi5 hg hcm HS3 HU3 HX3 HK3 HK4 HG3 HI2
    obtain ⟨W5, hW5⟩ : ∃ W5, W5 = w4.setCell ⟨w1.heap.size, 1, none⟩ (.int .i64 cm) := ⟨_, rfl⟩
    have HG5 := Box.mk (show w.grownBy W5 (some g) by rw [hW5]; exact grownBy_new HG4.out (grownBy_cellP w4 ⟨w1.heap.size, 1, none⟩ _) (fun i e => by have := Option.some.inj e; simp only at this; omega))
    have HU5 := Box.mk (show VarA W5 w.heap.size #[.int .i64 0, .int .i64 0] 24 by rw [hW5]; exact HU4.out.other (by show w.heap.size ≠ w1.heap.size; omega))
    have HX5 := Box.mk (show VarA W5 w1.heap.size #[.int .i64 kd, .int .i64 cm] 24 by rw [hW5]; exact HX4.out.set)
    have HS5 := Box.mk (show SrcI W5 g a n c i3 by rw [hW5]; exact HS4.out.grown2 (grownBy_cellP w4 ⟨w1.heap.size, 1, none⟩ _) (fun e => by have := Option.some.inj e; simp only at this; omega) (fun x e h0 e2 => by have := HLOW.out x e h0; have := Option.some.inj e2; simp only at this; omega))
    clear HU4 HX4 HS4 HG4
    go_upto_region 4 with fail
    change Code.wp _ _ _ _ (w4.setCell ⟨w1.heap.size, 1, none⟩ (.int .i64 cm))
    rw [← hW5]
    clear hW5 ck x1 hf
    have x0 := HX5.out.cell (i := 0) (v := .int .i64 kd) rfl
    have x1 := HX5.out.cell (i := 1) (v := .int .i64 cm) rfl
    go_wp2_with (refine wpList_store_row rfl 24 _ _ rfl w.heap.size #[.int .i64 kd, .int .i64 cm] rfl rfl 24 _ HU5.out sizeInp rfl (oneIn ..) ?_)
    (try simp only [Exit.inBlock, Exit.then])
    refine ret_rowQ (cs := #[.int .i64 kd, .int .i64 cm]) rfl rfl rfl (setRow_heap _ _ _ _ _ _ HU5.out) Try.underlying24 rfl sizeInp ⟨(kd, cm), rfl, ⟨⟨hk1, hk4⟩, by show 0 ≤ cm; omega, hm6⟩, ⟨i3, HS5.out.grown2 (grownBy_setRow _ _ _) (fun e => by have := Option.some.inj e; omega) (fun x e h0 e2 => by have := HLOW.out x e h0; have := Option.some.inj e2; omega), HI3.out⟩, grownBy_new HG5.out (grownBy_setRow _ _ _) (fun i e => by have := Option.some.inj e; omega)⟩
  · have d4 := beq_i_no h4
    have x1 := HX2.out.cell (i := 1) (v := .int .i64 0) rfl
    clear h4
    go_wp2_with (refine wpList_store_row rfl 24 _ _ rfl w.heap.size #[.int .i64 kd, .int .i64 0] rfl rfl 24 _ HU2.out sizeInp rfl (oneIn ..) ?_)
    (try simp only [Exit.inBlock, Exit.then])
    refine ret_rowQ (cs := #[.int .i64 kd, .int .i64 0]) rfl rfl rfl (setRow_heap _ _ _ _ _ _ HU2.out) Try.underlying24 rfl sizeInp ⟨(kd, 0), rfl, ⟨⟨hk1, hk4⟩, Int.le_refl _, by show (0 : Int) ≤ 6; decide⟩, ⟨i2, HS2.out.grown2 (grownBy_setRow _ _ _) (fun e => by have := Option.some.inj e; omega) (fun x e h0 e2 => by have := HLOW.out x e h0; have := Option.some.inj e2; omega), HI2.out⟩, grownBy_new HG2.out (grownBy_setRow _ _ _) (fun i e => by have := Option.some.inj e; omega)⟩
end Go.Proofs.Ytfjnpegpfmaekaa
namespace Go.Proofs.Ytfjnpegpfmaekaa
open Go.RowKit
set_option linter.unusedSimpArgs false

theorem SrcI.atP {w : World} {g : Nat} {a : Option Addr} {n c i : Nat} (h : SrcI w g a n c i) : (intOf ((w.cell? ⟨g, 1, none⟩).getD undef)).toNat = i := by
  rw [cell_of_row _ _ _ _ _ _ h.2.1]; rfl
theorem srcI_box {w : World} {a : Option Addr} {n c : Nat} (h : IntsF w a n) (hn : n ≤ maxLen) : SrcI (w.alloc (.cells #[.slice a n c, .int .i64 0] 51)) w.heap.size a n c 0 := by
  refine ⟨Nat.zero_le _, heap_alloc_new _ _, hn, h.alloc _, fun x e h0 => ?_⟩
  obtain ⟨y, z, e2, hc, _⟩ := h 0 h0
  rw [e] at e2
  obtain rfl := Option.some.inj e2
  have := lt_cell hc
  rw [add_blockF] at this
  omega
theorem IntsF.less {w : World} {a : Option Addr} {n m : Nat} (h : IntsF w a n) (hm : m ≤ n) : IntsF w a m := fun j hj => h j (by omega)

set_option maxRecDepth 100000 in
set_option maxHeartbeats 4000000 in
theorem madeInputs_any (a : Option Addr) (n c : Nat) (w : World) (h : IntsF w a n) (hn : n ≤ maxLen) (hc : n ≤ c) (ha : 0 < n → ∃ ad, a = some ad) :
    Calls Try.prog 22 #[.slice a n c] w fun e w' => ∃ (l : List Inp) (a' : Option Addr) (c' : Nat), e = .returned (.slice a' l.length c') ∧ InpsIn w' a' l ∧ l.length ≤ 160 ∧ l.length ≤ c' ∧ (∀ x ∈ l, InpOk x) ∧ (∀ x, a' = some x → w.heap.size ≤ x.block) ∧ Below w.heap.size w w' := by
  have HA := Box.mk ha
  have HI := Box.mk h
  clear h ha
  go_enter Try.func22, Try.ntmps22
  go_wp2_with fail
  refine (cut_any a n c 160 w HI.out hn hc (by decide) HA.out).mono ?_
  rintro e w0 ⟨m, hm, hmn, rfl, -, rfl⟩
  obtain ⟨W, hW⟩ : ∃ W, W = w.alloc (.cells #[.slice a m c, .int .i64 0] 51) := ⟨_, rfl⟩
  have HS := Box.mk (show SrcI W w.heap.size a m c 0 by rw [hW]; exact srcI_box (HI.out.less hmn) (Nat.le_trans hmn hn))
  have HB := Box.mk (show Below w.heap.size w W by rw [hW]; exact below_oneF w _)
  have HLOW := Box.mk (show ∀ x, a = some x → 0 < m → x.block < w.heap.size from fun x e h0 => by
    obtain ⟨y, z, e2, hcc, _⟩ := HI.out 0 (by omega)
    rw [e] at e2
    obtain rfl := Option.some.inj e2
    have := lt_cell hcc
    rw [add_blockF] at this
    exact this)
  clear HA HI
  go_upto_region 2 with fail
  change Code.wp _ _ _ _ (w.alloc (.cells #[.slice a m c, .int .i64 0] 51))
  rw [← hW]
  clear hW
  go_wp2_with fail
  go_loopw [4] (fun v wr => ∃ (i : Nat) (l : List Inp), l.length ≤ i ∧ i ≤ m ∧ Box (SrcI wr w.heap.size a m c i ∧ OwnX (w.heap.size + 1) wr v l ∧ (∀ x ∈ l, InpOk x) ∧ Below w.heap.size w wr)) (fun _ wr => m - (intOf ((wr.cell? ⟨w.heap.size, 1, none⟩).getD undef)).toNat)
  case atStart => exact ⟨0, [], Nat.le_refl _, Nat.zero_le _, ⟨HS.out, OwnX.start _ _, by simp, HB.out⟩⟩
  case round =>
    clear HS HB
    obtain ⟨i, l, hl, hi, HM⟩ := hrel
    have HAT := Box.mk HM.out.1.atP
    have hsw := Box.mk (And.intro HM.out.2.2.2.size HM.out.1.src.lt)
    go_wp2_with fail
    refine (leftI_any w.heap.size a m c i wr HM.out.1).mono ?_
    rintro e w2 ⟨he, hb2⟩
    have HS2 := Box.mk (HM.out.1.keep hb2)
    have HO2 := Box.mk (HM.out.2.1.keep hb2)
    have HB2 := Box.mk (below_trans HM.out.2.2.2 hb2)
    have HALL := Box.mk HM.out.2.2.1
    clear hb2 HM
    by_cases hgo : i < m
    · rw [decide_eq_true hgo] at he
      subst he
      go_wp2_with fail
      refine (srcInput_any w.heap.size a m c i w2 HS2.out).mono ?_
      rintro e w3 ⟨x, rfl, hx, ⟨i2, hs3, hi2, hi3⟩, hg3⟩
      have hi4 := hi3 hgo
      have HS3 := Box.mk hs3
      have him := hs3.1
      have hlt3 := hs3.src.lt
      have HO3 := Box.mk (HO2.out.grown hg3 (fun q e e2 => by have := (HO2.out.lt e).1; have := Option.some.inj e2; omega))
      have HB3 := Box.mk (HB2.out.grown hg3 HB2.out.size (fun q e => by have := Option.some.inj e; omega))
      have HALL3 := Box.mk (show ∀ y ∈ l ++ [x], InpOk y from fun y hy => by
        rcases List.mem_append.1 hy with h1 | h1
        · exact HALL.out y h1
        · simp at h1; rw [h1]; exact hx)
      clear hs3 hi2 hi3 hg3 HS2 HO2 HB2 HALL hx
      go_wp2_with (at_builtin; refine wpList_append_ownx _ rfl _ _ rfl rfl (HO3.out.keep ((Below.refl _ _).alloc (Nat.le_refl _) _)) rfl (y := x) ?c1 ?c2 (by omega) (by simp; omega) ?c3)
      case c1 => simp
      case c2 => simp
      case c3 =>
        intro v' w4 hown hgrow
        have HO4 := Box.mk hown
        have hgrow2 : w3.grownBy w4 u4.ownBlock := ⟨hgrow.os, hgrow.tape, hgrow.output, Nat.le_trans (by simp) hgrow.size, fun k hk hne => by
          rw [hgrow.block k (by simp; omega) hne]
          exact (below_oneF w3 _).block k hk⟩
        have HS4 := Box.mk (HS3.out.grown2 hgrow2 (fun e => by have := (HO3.out.lt e.symm).1; omega) (fun y e h0 e2 => by have := (HO3.out.lt e2.symm).1; have := HLOW.out y e h0; omega))
        have HB4 := Box.mk (HB3.out.grown hgrow2 HB3.out.size (fun q e => by have := (HO3.out.lt e).1; omega))
        clear hown hgrow hgrow2 HO3 HS3 HB3
        go_wp2_with fail
        go_roundw
        case rel => exact ⟨i2, l ++ [x], by rw [List.length_append]; show l.length + 1 ≤ i2; omega, him, ⟨HS4.out, HO4.out, HALL3.out, HB4.out⟩⟩
        case measure =>
          rw [HS4.out.atP, HAT.out]
          omega
    · rw [decide_eq_false hgo] at he
      subst he
      obtain ⟨a', c', rfl, hin, hc', hbk⟩ := HO2.out.shape
      have HF := Box.mk (And.intro hin (And.intro hc' (show ∀ x, a' = some x → w.heap.size ≤ x.block from fun x e => by have := hbk x e; omega)))
      clear hin hc' hbk
      go_wp2_with fail
      go_ret
      exact ⟨l, a', c', rfl, HF.out.1, by omega, HF.out.2.1, HALL.out, HF.out.2.2, HB2.out⟩

theorem ascK_app (l : List Int) (x : Int) : ∀ k, k ≤ l.length → ascK (l ++ [x]) k = ascK l k
  | 0, _ => rfl
  | k + 1, h => by
    rw [ascK_succ, ascK_succ, ascK_app l x k (by omega)]
    have e1 : (l ++ [x]).getD k 0 = l.getD k 0 := by
      rw [List.getD_eq_getElem?_getD, List.getD_eq_getElem?_getD, List.getElem?_append_left (by omega)]
    have e2 : (l ++ [x]).getD (k - 1) 0 = l.getD (k - 1) 0 := by
      rw [List.getD_eq_getElem?_getD, List.getD_eq_getElem?_getD, List.getElem?_append_left (by omega)]
    rw [e1, e2]
def lastW (l : List Int) : Int := l.getD (l.length - 1) 0
theorem lastW_snoc (l : List Int) (x : Int) : lastW (l ++ [x]) = x := by
  unfold lastW
  rw [List.length_append, List.getD_eq_getElem?_getD]
  simp
theorem asc_snoc {l : List Int} {x : Int} (h : ascK l l.length = true) (h1 : lastW l < x) (h2 : 1 ≤ x) (h3 : x ≤ 10000) : ascK (l ++ [x]) (l ++ [x]).length = true := by
  rw [List.length_append, List.length_singleton, ascK_succ, ascK_app l x l.length (Nat.le_refl _), h]
  have e1 : (l ++ [x]).getD l.length 0 = x := by rw [List.getD_eq_getElem?_getD]; simp
  rw [e1, decide_eq_true h2, decide_eq_true h3]
  by_cases h0 : l.length = 0
  · rw [decide_eq_true h0]; rfl
  · have e2 : (l ++ [x]).getD (l.length - 1) 0 = lastW l := by
      unfold lastW
      rw [List.getD_eq_getElem?_getD, List.getD_eq_getElem?_getD, List.getElem?_append_left (by omega)]
    rw [e2, decide_eq_true h1, Bool.or_true]; rfl
/-- Small numbers. -/
def Pl.small (p : Pl) : Prop := p.ws.length ≤ 3 ∧ (1 ≤ p.ms ∧ p.ms ≤ 3) ∧ (0 ≤ p.num ∧ p.num ≤ 2) ∧ (1 ≤ p.den ∧ p.den ≤ 4) ∧ (1 ≤ p.hold ∧ p.hold ≤ 3) ∧ (1 ≤ p.win ∧ p.win ≤ 4)
theorem sizePlan : (Try.prog.info? 30).map (·.size) = some 6 := by kernel_rfl
theorem onePl (a : Option Addr) (n c : Nat) (x y z u v : Int) : (#[.slice a n c, .int .i64 x, .int .i64 y, .int .i64 z, .int .i64 u, .int .i64 v] : Array Value).all (·.oneCell') = true := by simp [Value.oneCell']

set_option maxRecDepth 100000 in
set_option maxHeartbeats 8000000 in
theorem srcPlan_any (g : Nat) (a : Option Addr) (n c : Nat) (w : World) (h : Src w g a n c) :
    Calls Try.prog 23 #[.pointer (some ⟨g, 0, none⟩)] w fun e w' => ∃ (p : Pl) (a' : Option Addr) (c' : Nat), e = .returned (PlV a' c' p) ∧ p.ok = true ∧ p.small ∧ IsInts w' a' p.ws c' ∧ (∀ x, a' = some x → w.heap.size ≤ x.block) ∧ Src w' g a n c ∧ w.grownBy w' (some g) := by
  have hgl := h.lt
  have HLOW := Box.mk h.low
  obtain ⟨W, hW⟩ : ∃ W, W = w.alloc (.cells #[.slice none 0 0, .int .i64 0, .int .i64 0, .int .i64 0, .int .i64 0, .int .i64 0] 30) := ⟨_, rfl⟩
  have HG := Box.mk (show w.grownBy W (some g) by rw [hW]; exact grownBy_below (below_oneF w _))
  have HU := Box.mk (show VarA W w.heap.size #[.slice none 0 0, .int .i64 0, .int .i64 0, .int .i64 0, .int .i64 0, .int .i64 0] 30 by rw [hW]; exact VarA.new _ _ _)
  have HS := Box.mk (show Src W g a n c by rw [hW]; exact h.keep (below_oneF w _))
  clear h
  go_enter Try.func23, Try.ntmps23
  go_wp2_with fail
  change Calls _ _ _ (w.alloc (.cells #[.slice none 0 0, .int .i64 0, .int .i64 0, .int .i64 0, .int .i64 0, .int .i64 0] 30)) _
  rw [← hW]
  clear hW
  refine (next_any g 3 a n c W HS.out (by decide) (by decide)).mono ?_
  rintro e w1 ⟨k1, hk1, rfl, hs1, hg1⟩
  have HG1 := Box.mk (grownBy_trans HG.out hg1)
  have HS1 := Box.mk hs1
  have HU1 := Box.mk (HU.out.grown hg1 (fun e => by have := Option.some.inj e; omega))
  clear hs1 hg1 HG HS HU
  go_wp2_with fail
  refine (next_any g 3 a n c w1 HS1.out (by decide) (by decide)).mono ?_
  rintro e w2 ⟨k2, hk2, rfl, hs2, hg2⟩
  have HG2 := Box.mk (grownBy_trans HG1.out hg2)
  have HS2 := Box.mk hs2
  have HU2 := Box.mk (HU1.out.grown hg2 (fun e => by have := Option.some.inj e; omega))
  clear hs2 hg2 HG1 HS1 HU1
  go_wp2_with fail
  refine (next_any g 4 a n c w2 HS2.out (by decide) (by decide)).mono ?_
  rintro e w3 ⟨k3, hk3, rfl, hs3, hg3⟩
  have HG3 := Box.mk (grownBy_trans HG2.out hg3)
  have HS3 := Box.mk hs3
  have HU3 := Box.mk (HU2.out.grown hg3 (fun e => by have := Option.some.inj e; omega))
  clear hs3 hg3 HG2 HS2 HU2
  go_wp2_with fail
  refine (next_any g 3 a n c w3 HS3.out (by decide) (by decide)).mono ?_
  rintro e w4 ⟨k4, hk4, rfl, hs4, hg4⟩
  have HG4 := Box.mk (grownBy_trans HG3.out hg4)
  have HS4 := Box.mk hs4
  have HU4 := Box.mk (HU3.out.grown hg4 (fun e => by have := Option.some.inj e; omega))
  clear hs4 hg4 HG3 HS3 HU3
  go_wp2_with fail
  refine (next_any g 4 a n c w4 HS4.out (by decide) (by decide)).mono ?_
  rintro e w5 ⟨k5, hk5, rfl, hs5, hg5⟩
  have HG5 := Box.mk (grownBy_trans HG4.out hg5)
  have HS5 := Box.mk hs5
  have HU5 := Box.mk (HU4.out.grown hg5 (fun e => by have := Option.some.inj e; omega))
  clear hs5 hg5 HG4 HS4 HU4
  obtain ⟨ms, hms⟩ : ∃ x : Int, 1 + (k1 : Int) = x := ⟨_, rfl⟩
  obtain ⟨den, hden⟩ : ∃ x : Int, 1 + (k3 : Int) = x := ⟨_, rfl⟩
  obtain ⟨hold, hhold⟩ : ∃ x : Int, 1 + (k4 : Int) = x := ⟨_, rfl⟩
  obtain ⟨win, hwin⟩ : ∃ x : Int, 1 + (k5 : Int) = x := ⟨_, rfl⟩
  obtain ⟨num, hnum⟩ : ∃ x : Int, (k2 : Int) = x := ⟨_, rfl⟩
  have HN := Box.mk (show (1 ≤ ms ∧ ms ≤ 3) ∧ (0 ≤ num ∧ num ≤ 2) ∧ (1 ≤ den ∧ den ≤ 4) ∧ (1 ≤ hold ∧ hold ≤ 3) ∧ (1 ≤ win ∧ win ≤ 4) by omega)
  go_upto_region 2 with fail
  clear hms hden hhold hwin hnum
  obtain ⟨W6, hW6⟩ : ∃ W6, W6 = w5.alloc (.cells #[.slice none 0 0, .int .i64 ms, .int .i64 num, .int .i64 den, .int .i64 hold, .int .i64 win] 30) := ⟨_, rfl⟩
  have HB6 := Box.mk (show Below w5.heap.size w5 W6 by rw [hW6]; exact below_oneF w5 _)
  have HV6 := Box.mk (show VarA W6 w5.heap.size #[.slice none 0 0, .int .i64 ms, .int .i64 num, .int .i64 den, .int .i64 hold, .int .i64 win] 30 by rw [hW6]; exact VarA.new _ _ _)
  have HU6 := Box.mk (HU5.out.keep HB6.out)
  have HS6 := Box.mk (HS5.out.keep HB6.out)
  have HG6 := Box.mk (grownBy_trans HG5.out (grownBy_below HB6.out))
  have hsz : w.heap.size < w5.heap.size := HU5.out.lt
  change Code.wp _ _ _ _ (w5.alloc (.cells #[.slice none 0 0, .int .i64 ms, .int .i64 num, .int .i64 den, .int .i64 hold, .int .i64 win] 30))
  rw [← hW6]
  clear hW6 HB6 HU5 HS5 HG5
  generalize hgp : w5.heap.size = gp at *
  clear hgp
  go_wp2_with fail
  refine (next_any g 3 a n c W6 HS6.out (by decide) (by decide)).mono ?_
  rintro e w7 ⟨k6, hk6, rfl, hs7, hg7⟩
  have HG7 := Box.mk (grownBy_trans HG6.out hg7)
  have HS7 := Box.mk hs7
  have HU7 := Box.mk (HU6.out.grown hg7 (fun e => by have := Option.some.inj e; omega))
  have HV7 := Box.mk (HV6.out.grown hg7 (fun e => by have := Option.some.inj e; omega))
  clear hs7 hg7 HG6 HS6 HU6 HV6
  go_wp2_with fail
  go_loopw [4, 5] (fun wv iv wr => ∃ (j : Nat) (ws : List Int) (v : Value) (z : Int), j ≤ 3 ∧ (j = 0 → 1 ≤ ws.length) ∧ iv = .int .i64 j ∧ wv = .int .i64 z ∧ ws.length + j ≤ 3 ∧ 0 ≤ z ∧ z ≤ 3300 * (ws.length : Int) ∧ Box (z = lastW ws ∧ VarA wr gp #[v, .int .i64 ms, .int .i64 num, .int .i64 den, .int .i64 hold, .int .i64 win] 30 ∧ OwnZ (gp + 1) wr v ws ∧ ascK ws ws.length = true ∧ (∀ x ∈ ws, 1 ≤ x ∧ x ≤ 10000) ∧ Src wr g a n c ∧ VarA wr w.heap.size #[.slice none 0 0, .int .i64 0, .int .i64 0, .int .i64 0, .int .i64 0, .int .i64 0] 30 ∧ w.grownBy wr (some g))) (fun _ iv _ => (intOf iv).toNat)
  case atStart => exact ⟨k6 + 1, [], .slice none 0 0, 0, by omega, by omega, by go_num, rfl, by simp; omega, by decide, by decide, ⟨rfl, HV7.out, OwnZ.start _ _, rfl, by simp, HS7.out, HU7.out, HG7.out⟩⟩
  case round =>
    clear HG7 HS7 HU7 HV7
    obtain ⟨j, ws, v, z, hj, hj0, rfl, rfl, hwl, hz0, hz1, HM⟩ := hrel
    by_cases hpos : 0 < j
    · go_wp2_with fail
      refine (next_any g 3300 a n c wr HM.out.2.2.2.2.2.1 (by decide) (by decide)).mono ?_
      rintro e w2 ⟨k, hk, rfl, hs2, hg2⟩
      have HS2 := Box.mk hs2
      have hlg := HM.out.2.2.2.2.2.2.1.lt
      have hlp := HM.out.2.1.lt
      have HV2 := Box.mk (HM.out.2.1.grown hg2 (fun e => by have := Option.some.inj e; omega))
      have HO2 := Box.mk (HM.out.2.2.1.grown hg2 (fun q e e2 => by have := (HM.out.2.2.1.lt e).1; have := Option.some.inj e2; omega))
      have HU2 := Box.mk (HM.out.2.2.2.2.2.2.1.grown hg2 (fun e => by have := Option.some.inj e; omega))
      have HG2 := Box.mk (grownBy_trans HM.out.2.2.2.2.2.2.2 hg2)
      obtain ⟨y, hy⟩ : ∃ y : Int, z + 1 + (k : Int) = y := ⟨_, rfl⟩
      have hy1 : z < y ∧ 1 ≤ y ∧ y ≤ 3300 * ((ws.length : Int) + 1) ∧ y ≤ 9900 := by omega
      have HASC := Box.mk (show ascK (ws ++ [y]) (ws ++ [y]).length = true ∧ (∀ x ∈ ws ++ [y], 1 ≤ x ∧ x ≤ 10000) from ⟨asc_snoc HM.out.2.2.2.1 (by rw [← HM.out.1]; exact hy1.1) hy1.2.1 (by omega), fun x hx => by
        rcases List.mem_append.1 hx with h1 | h1
        · exact HM.out.2.2.2.2.1 x h1
        · simp at h1; rw [h1]; omega⟩)
      have hsz2 : gp < w2.heap.size := HV2.out.lt
      have v0 := HV2.out.cell (i := 0) (v := v) rfl
      clear hs2 hg2 HM
      go_wp2_with (at_builtin; refine wpList_append_ownz _ rfl _ _ rfl rfl (HO2.out.keep ((Below.refl _ _).alloc (Nat.le_refl _) _)) rfl (y := y) ?c1 (by omega) (by simp; omega) ?c3)
      case c1 => simp
      case c3 =>
        intro v' w4 hown hgrow hob
        obtain ⟨ws', hws⟩ : ∃ x, x = ws ++ [y] := ⟨_, rfl⟩
        have hl' : ws'.length = ws.length + 1 := by rw [hws]; simp
        have hl3 : ws'.length + (j - 1) ≤ 3 ∧ 1 ≤ ws'.length := by omega
        have hy2 : y ≤ 3300 * (ws'.length : Int) := by have := hy1.2.2.1; rw [hl']; push_cast; omega
        have HL' := Box.mk (show y = lastW ws' ∧ ascK ws' ws'.length = true ∧ (∀ x ∈ ws', 1 ≤ x ∧ x ≤ 10000) from ⟨by rw [hws, lastW_snoc], by rw [hws]; exact HASC.out.1, by rw [hws]; exact HASC.out.2⟩)
        rw [← hws] at hown
        have HO4 := Box.mk hown
        obtain ⟨ad, cp, hv', -, -⟩ := hown.shape (fun x hx => by have := HL'.out.2.2 x hx; omega)
        subst hv'
        clear hws hl'
        have hgrow2 : w2.grownBy w4 v.ownBlock := ⟨hgrow.os, hgrow.tape, hgrow.output, Nat.le_trans (by simp) hgrow.size, fun k hk hne => by
          rw [hgrow.block k (by simp; omega) hne]
          exact (below_oneF w2 _).block k hk⟩
        have HS4 := Box.mk (HS2.out.grown hgrow2 (fun e => by have := (HO2.out.lt e.symm).1; omega) (fun x e h0 e2 => by have := (HO2.out.lt e2.symm).1; have := HLOW.out x e h0; omega))
        have HV4 := Box.mk (HV2.out.grown hgrow2 (fun e => by have := (HO2.out.lt e.symm).1; omega))
        have HU4 := Box.mk (HU2.out.grown hgrow2 (fun e => by have := (HO2.out.lt e.symm).1; omega))
        have HG4 := Box.mk (grownBy_new HG2.out hgrow2 (fun i e => by have := (HO2.out.lt e).1; omega))
        have e0 := HV4.out.cell (i := 0) (v := v) rfl
        have hf := HV4.out.frozen (i := 0)
        clear hown hgrow hgrow2 hob HO2 HS2 HU2 HG2 HV2 v0
        have HV5 := Box.mk (show VarA (w4.setCell ⟨gp, 0, none⟩ (.slice ad ws'.length cp)) gp #[.slice ad ws'.length cp, .int .i64 ms, .int .i64 num, .int .i64 den, .int .i64 hold, .int .i64 win] 30 from HV4.out.set)
        have HO5 := Box.mk (show OwnZ (gp + 1) (w4.setCell ⟨gp, 0, none⟩ (.slice ad ws'.length cp)) (.slice ad ws'.length cp) ws' from HO4.out.grown (grownBy_cellP w4 ⟨gp, 0, none⟩ _) (fun q e e2 => by have := (HO4.out.lt e).1; have := Option.some.inj e2; simp only at this; omega))
        have HS5 := Box.mk (show Src (w4.setCell ⟨gp, 0, none⟩ (.slice ad ws'.length cp)) g a n c from HS4.out.grown (grownBy_cellP w4 ⟨gp, 0, none⟩ _) (fun e => by have := Option.some.inj e; simp only at this; omega) (fun x e h0 e2 => by have := HLOW.out x e h0; have := Option.some.inj e2; simp only at this; omega))
        have HU5 := Box.mk (show VarA (w4.setCell ⟨gp, 0, none⟩ (.slice ad ws'.length cp)) w.heap.size #[.slice none 0 0, .int .i64 0, .int .i64 0, .int .i64 0, .int .i64 0, .int .i64 0] 30 from HU4.out.other (by show w.heap.size ≠ gp; omega))
        have HG5 := Box.mk (show w.grownBy (w4.setCell ⟨gp, 0, none⟩ (.slice ad ws'.length cp)) (some g) from grownBy_new HG4.out (grownBy_cellP w4 ⟨gp, 0, none⟩ _) (fun i e => by have := Option.some.inj e; simp only at this; omega))
        clear HV4 HO4 HS4 HU4 HG4 HASC
        go_wp2_with fail
        go_roundw
        case rel => exact ⟨j - 1, ws', _, y, by omega, fun _ => hl3.2, by go_num, rfl, hl3.1, by omega, hy2, ⟨HL'.out.1, HV5.out, HO5.out, HL'.out.2.1, HL'.out.2.2, HS5.out, HU5.out, HG5.out⟩⟩
        case measure => simp [intOf]; omega
    · obtain rfl : j = 0 := by omega
      have hw1 := hj0 rfl
      obtain ⟨ad, cp, hv, hin, had⟩ := HM.out.2.2.1.shape (fun x hx => by have := HM.out.2.2.2.2.1 x hx; omega)
      subst hv
      have HIN := Box.mk (And.intro hin had)
      clear hin had
      have e0 := HM.out.2.1.cell (i := 0) (v := .slice ad ws.length cp) rfl
      have e1 := HM.out.2.1.cell (i := 1) (v := .int .i64 ms) rfl
      have e2 := HM.out.2.1.cell (i := 2) (v := .int .i64 num) rfl
      have e3 := HM.out.2.1.cell (i := 3) (v := .int .i64 den) rfl
      have e4 := HM.out.2.1.cell (i := 4) (v := .int .i64 hold) rfl
      have e5 := HM.out.2.1.cell (i := 5) (v := .int .i64 win) rfl
      have hsr := HM.out.2.2.2.2.2.2.1.lt
      go_wp2_with (refine wpList_store_row rfl 30 _ _ rfl w.heap.size #[.slice ad ws.length cp, .int .i64 ms, .int .i64 num, .int .i64 den, .int .i64 hold, .int .i64 win] rfl rfl 30 _ HM.out.2.2.2.2.2.2.1 sizePlan rfl (onePl ..) ?_)
      (try simp only [Exit.inBlock, Exit.then])
      have hfin : IsInts (wr.setRow w.heap.size #[.slice ad ws.length cp, .int .i64 ms, .int .i64 num, .int .i64 den, .int .i64 hold, .int .i64 win]) ad ws cp := by
        rcases HIN.out.1 with h | ⟨x, h1, h2, h3, h4⟩
        · exact .inl h
        · exact .inr ⟨x, h1, h2, h3, fun i hi => ⟨by rw [cell_setRow_other _ _ _ _ (by rw [add_blockF]; have := HIN.out.2 x h1; omega)]; exact (h4 i hi).1, (h4 i hi).2⟩⟩
      refine ret_rowQ (cs := #[.slice ad ws.length cp, .int .i64 ms, .int .i64 num, .int .i64 den, .int .i64 hold, .int .i64 win]) rfl rfl rfl (setRow_heap _ _ _ _ _ _ HM.out.2.2.2.2.2.2.1) Try.underlying30 rfl sizePlan ⟨⟨ws, ms, num, den, hold, win⟩, ad, cp, rfl, ?_, ?_, hfin, fun x e => by have := HIN.out.2 x e; omega, ?_, ?_⟩
      · unfold Pl.ok
        rw [HM.out.2.2.2.1, Bool.and_true]
        refine decide_eq_true ?_
        have := HN.out
        unfold Pl.nums
        simp only
        omega
      · have := HN.out
        unfold Pl.small
        simp only
        omega
      · exact HM.out.2.2.2.2.2.1.grown (grownBy_setRow _ _ _) (fun e => by have := Option.some.inj e; omega) (fun x e h0 e2 => by have := HLOW.out x e h0; have := Option.some.inj e2; omega)
      · exact grownBy_new HM.out.2.2.2.2.2.2.2 (grownBy_setRow _ _ _) (fun i e => by have := Option.some.inj e; omega)
end Go.Proofs.Ytfjnpegpfmaekaa
namespace Go.Proofs.Ytfjnpegpfmaekaa
open Go.RowKit
set_option linter.unusedVariables false

def Pl.rng (p : Pl) : Prop := i64P p.ms ∧ i64P p.num ∧ i64P p.den ∧ i64P p.hold ∧ i64P p.win

/-- Mathematics of the weights: each is above the one before it, and all are below the number behind them. -/
def lastK (l : List Int) : Nat → Int
  | 0 => 0
  | k + 1 => l.getD k 0
def upK (l : List Int) : Nat → Bool
  | 0 => true
  | k + 1 => upK l k && decide (lastK l k < l.getD k 0)
theorem upK_nn (l : List Int) : ∀ k, upK l k = true → 0 ≤ lastK l k
  | 0, _ => Int.le_refl _
  | k + 1, h => by
    unfold upK at h
    rw [Bool.and_eq_true, decide_eq_true_eq] at h
    have := upK_nn l k h.1
    show 0 ≤ l.getD k 0
    omega
theorem upK_asc (l : List Int) : ∀ k, upK l k = true → lastK l k ≤ 10000 → ascK l k = true
  | 0, _, _ => rfl
  | k + 1, h, hl => by
    unfold upK at h
    rw [Bool.and_eq_true, decide_eq_true_eq] at h
    have h0 := upK_nn l k h.1
    have hl : l.getD k 0 ≤ 10000 := hl
    have := upK_asc l k h.1 (by omega)
    rw [ascK_succ, this, decide_eq_true (show 1 ≤ l.getD k 0 by omega), decide_eq_true hl]
    cases k with
    | zero => rfl
    | succ j =>
      have h3 : l.getD j 0 < l.getD (j + 1) 0 := h.2
      simp only [Nat.add_sub_cancel, Bool.true_and, decide_eq_true h3, Bool.or_true]
theorem asc_upK (l : List Int) : ∀ k, ascK l k = true → upK l k = true ∧ lastK l k ≤ 10000
  | 0, _ => ⟨rfl, show (0 : Int) ≤ 10000 by omega⟩
  | k + 1, h => by
    rw [ascK_succ] at h
    simp only [Bool.and_eq_true, decide_eq_true_eq, Bool.or_eq_true] at h
    obtain ⟨h1, ⟨h2, h3⟩, h4⟩ := h
    obtain ⟨i1, i2⟩ := asc_upK l k h1
    refine ⟨?_, h3⟩
    unfold upK
    rw [i1, Bool.true_and, decide_eq_true_eq]
    cases k with
    | zero => show (0 : Int) < l.getD 0 0; omega
    | succ j =>
      rcases h4 with h4 | h4
      · omega
      · exact h4
theorem getD_snocL (l : List Int) (y : Int) (k : Nat) (h : k < l.length) : (l ++ [y]).getD k 0 = l.getD k 0 := by
  simp [List.getD_eq_getElem?_getD, List.getElem?_append_left h]
theorem getD_snocE (l : List Int) (y : Int) : (l ++ [y]).getD l.length 0 = y := by
  simp [List.getD_eq_getElem?_getD]
theorem lastK_snoc (l : List Int) (y : Int) : ∀ k, k ≤ l.length → lastK (l ++ [y]) k = lastK l k
  | 0, _ => rfl
  | k + 1, h => getD_snocL l y k (by omega)
theorem upK_snoc (l : List Int) (y : Int) : ∀ k, k ≤ l.length → upK (l ++ [y]) k = upK l k
  | 0, _ => rfl
  | k + 1, h => by
    unfold upK
    rw [upK_snoc l y k (by omega), lastK_snoc l y k (by omega), getD_snocL l y k (by omega)]
theorem upK_all (l : List Int) : upK (l ++ [10001]) (l.length + 1) = ascK l l.length := by
  unfold upK
  rw [upK_snoc l _ _ (Nat.le_refl _), lastK_snoc l _ _ (Nat.le_refl _), getD_snocE]
  cases h : ascK l l.length
  · cases hu : upK l l.length
    · rfl
    · rw [Bool.true_and, decide_eq_false_iff_not]
      intro hlt
      rw [upK_asc l _ hu (by omega)] at h
      exact absurd h (by simp)
  · obtain ⟨h1, h2⟩ := asc_upK l _ h
    rw [h1, Bool.true_and, decide_eq_true_eq]
    omega
theorem upK_cut (l : List Int) (k : Nat) (h : upK l k = false) : ∀ m, k ≤ m → upK l m = false := by
  intro m hm
  obtain ⟨d, rfl⟩ : ∃ d, m = k + d := ⟨m - k, by omega⟩
  clear hm
  induction d with
  | zero => exact h
  | succ d ih => show (upK l (k + d) && _) = false; rw [ih]; rfl

def inR (n a b : Int) : Bool := decide (a ≤ n) && decide (n ≤ b)
theorem inR_t {n a b : Int} (h1 : a ≤ n) (h2 : n ≤ b) : inR n a b = true := by unfold inR; rw [decide_eq_true h1, decide_eq_true h2]; rfl
theorem inR_f {n a b : Int} (h : ¬ (a ≤ n ∧ n ≤ b)) : inR n a b = false := by
  unfold inR
  by_cases h1 : a ≤ n
  · rw [decide_eq_false (show ¬ n ≤ b from fun h2 => h ⟨h1, h2⟩), Bool.and_false]
  · rw [decide_eq_false h1]; rfl
theorem inR_cases (n a b : Int) : inR n a b = true ∧ Box (a ≤ n ∧ n ≤ b) ∨ inR n a b = false ∧ Box (¬ (a ≤ n ∧ n ≤ b)) := by
  by_cases h : a ≤ n ∧ n ≤ b
  · exact .inl ⟨inR_t h.1 h.2, ⟨h⟩⟩
  · exact .inr ⟨inR_f h, ⟨h⟩⟩
theorem ret_boolP {x y : Bool} (h : x = y) : Ending.returned (.bool x) = Ending.returned (.bool y) := by rw [h]

set_option maxHeartbeats 1000000 in
theorem pWithin_any (n a b : Int) (w : World) :
    Calls Try.prog 34 #[.int .i64 n, .int .i64 a, .int .i64 b] w fun e w' => e = .returned (.bool (inR n a b)) ∧ w = w' := by
  by_cases h1 : a ≤ n
  · by_cases h2 : n ≤ b
    · have HX := Box.mk (inR_t h1 h2).symm
      have d1 := decide_eq_true h1
      have d2 := decide_eq_true h2
      go_enter Try.func34, Try.ntmps34
      go_wp2_with fail
      go_ret
      exact ⟨ret_boolP HX.out, rfl⟩
    · have HX := Box.mk (inR_f (n := n) (a := a) (b := b) (fun h => h2 h.2)).symm
      have d1 := decide_eq_true h1
      have d2 := decide_eq_false h2
      go_enter Try.func34, Try.ntmps34
      go_wp2_with fail
      go_ret
      exact ⟨ret_boolP HX.out, rfl⟩
  · have HX := Box.mk (inR_f (n := n) (a := a) (b := b) (fun h => h1 h.1)).symm
    have d1 := decide_eq_false h1
    go_enter Try.func34, Try.ntmps34
    go_wp2_with fail
    go_ret
    exact ⟨ret_boolP HX.out, rfl⟩
theorem pWithin_eq {n a b : Int} {r : Bool} (w : World) (hr : inR n a b = r) :
    Calls Try.prog 34 #[.int .i64 n, .int .i64 a, .int .i64 b] w fun e w' => e = .returned (.bool r) ∧ w = w' := by subst hr; exact pWithin_any n a b w

section
variable {ops : Array Oper} {rest : List Oper} {o : Oper} {act : Act} {Q : Exit → Act → World → Prop}
/-- APPEND of one number to a slice that came in and has no room. -/
theorem wpList_append_fullz (w : World) (hgd : o.guard = none) (s x : Operand) (ho : o.op = .call { callee := .builtin .append, args := #[s, x], argTypes := #[22, 22] })
    {ad : Addr} {l : List Int} (hs : act.eval s = .slice (some ad) l.length l.length) (hl : ∀ j, j < l.length → w.cell? (ad.add j) = some (.int .i64 (l.getD j 0))) {b c : Nat} (hx : act.eval x = .slice (some ⟨b, 0, none⟩) 1 c) {y : Int} (hy : w.cell? ⟨b, 0, none⟩ = some (.int .i64 y))
    (hn : l.length ≤ 8)
    (K : ∀ v' w', OwnZ w.heap.size w' v' (l ++ [y]) → w.grownBy w' none → wpList Try.prog ops Q rest (act.put o.dst v') w') : wpList Try.prog ops Q (o :: rest) act w := by
  obtain ⟨i0, hi, hz0, hz1, hz2⟩ := info_parts Try.info3Z
  refine wpList_append_grows w hgd s x 22 ho 3 i0 _ 1 8 Try.underlying22 hi hz0 hz1 hz2 rfl (by decide) (some ad) l.length l.length (intsZ l) hs (fun e => by cases e) (by rw [intsZ_len, Nat.mul_one]) ?_ ⟨b, 0, none⟩ 1 c [.int .i64 y] hx rfl ?_ ?_ (by omega) (by unfold maxLen; omega) (by omega) ?_
  · intro b' e j u hj
    obtain rfl := Option.some.inj e
    unfold intsZ at hj
    rw [List.getElem?_map] at hj
    cases hlj : l[j]? with
    | none => rw [hlj] at hj; cases hj
    | some z =>
      rw [hlj] at hj
      obtain rfl := Option.some.inj hj
      have hlt := (List.getElem?_eq_some_iff.1 hlj).1
      rw [hl j hlt, List.getD_eq_getElem?_getD, hlj]; rfl
  · intro j u hj
    match j, hj with
    | 0, hj => simp at hj; subst hj; rw [Addr.add_lit]; exact hy
    | j + 1, hj => simp at hj
  · intro u hu; simp at hu; rcases hu with rfl; rfl
  · intro v' w' hown hgrow
    refine K v' w' ?_ hgrow
    unfold OwnZ
    rw [List.length_append, intsZ_app]; exact hown
end

def wOk (l : List Int) : Bool := inR l.length 1 8 && ascK l l.length

set_option maxRecDepth 10000 in
set_option maxHeartbeats 4000000 in
theorem pWeights_any (l : List Int) (a : Option Addr) (c : Nat) (w : World) (h : IsInts w a l c) :
    Calls Try.prog 45 #[.slice a l.length c] w fun e w' => e = .returned (.bool (wOk l)) ∧ Below w.heap.size w w' := by
  have hlen : l.length ≤ 9223372036854775807 := by
    rcases h with ⟨_, e, _⟩ | ⟨x, _, h1, h2, _⟩
    · rw [e]; simp
    · unfold maxLen at h2; omega
  have HS := Box.mk (show wOk l = (inR l.length 1 8 && ascK l l.length) from rfl)
  generalize wOk l = r at *
  rcases inR_cases l.length 1 8 with ⟨hr, HN⟩ | ⟨hr, HN⟩
  · have HX := Box.mk (show upK (l ++ [10001]) (l.length + 1) = r by rw [HS.out, hr, Bool.true_and, upK_all])
    have h1 : 1 ≤ l.length := by have := HN.out; omega
    have h8 : l.length ≤ 8 := by have := HN.out; omega
    have hcl : l.length ≤ c := by
      rcases h with ⟨_, e, _⟩ | ⟨x, _, h1, h2, _⟩
      · rw [e]; simp
      · exact h1
    have hcm : c ≤ 9223372036854775807 := by
      rcases h with ⟨_, _, e⟩ | ⟨x, _, h1, h2, _⟩
      · omega
      · unfold maxLen at h2; omega
    obtain ⟨x, rfl, hc⟩ := h.at (k := 0) (by omega)
    have HC := Box.mk hc
    have HRG := Box.mk (show ∀ z ∈ l ++ [10001], -9223372036854775808 ≤ z ∧ z ≤ 9223372036854775807 by
      intro z hz
      rcases List.mem_append.1 hz with hz | hz
      · obtain ⟨j, hj, rfl⟩ := List.getElem_of_mem hz
        rcases h with ⟨e, _⟩ | ⟨x, _, _, _, hh⟩
        · cases e
        · exact (hh j hj).2
      · simp at hz; omega)
    clear h hc HN HS
    have g1 : (1 : Int) ≤ l.length := by omega
    go_enter Try.func45, Try.ntmps45
    go_wp2_with fail
    refine (pWithin_eq w hr).mono ?_
    rintro e w1 ⟨rfl, rfl⟩
    clear hr
    go_wp2_with (at_builtin; refine wpList_append_fullz _ rfl _ _ rfl (l := l) (y := 10001) rfl ?c1 rfl ?c2 h8 ?c3)
    case c1 => intro j hj; exact below_cell (below_oneF _ _) (HC.out j hj)
    case c2 => rw [World.cell?_alloc_new]; rfl
    case c3 =>
      intro v' w2 hown hgrow
      obtain ⟨a', cap', rfl, hi, _⟩ := hown.shape HRG.out
      have HB := Box.mk (show Below w.heap.size w w2 from (below_oneF w _).grown hgrow (by rw [World.size_alloc]; omega) (fun k e => by cases e))
      have HI := Box.mk hi
      clear hown hgrow hi HC HRG
      have hL : ((l ++ [(10001 : Int)]).length) = l.length + 1 := by simp
      rw [hL]
      generalize hq : l ++ [(10001 : Int)] = q at *
      have HLQ := Box.mk hL
      clear hq hL
      go_wp2_with fail
      go_loopw [4, 19] (fun lv iv wr => ∃ k : Nat, k ≤ l.length + 1 ∧ lv = .int .i64 (lastK q k) ∧ iv = .int .i64 k ∧ Box (upK q k = true) ∧ wr = w2) (fun _ iv _ => l.length + 1 - (intOf iv).toNat)
      case atStart => exact ⟨0, Nat.zero_le _, rfl, rfl, ⟨rfl⟩, rfl⟩
      case round =>
        obtain ⟨k, hk, rfl, rfl, HU, rfl⟩ := hrel
        by_cases hlt : k < l.length + 1
        · obtain ⟨x', rfl, hc⟩ := HI.out.at (k := k) (by rw [HLQ.out]; exact hlt)
          have hck := hc k (by rw [HLQ.out]; exact hlt)
          have HG := Box.mk (show lastK q (k + 1) = q.getD k 0 from rfl)
          have HU1 := Box.mk (show upK q (k + 1) = (upK q k && decide (lastK q k < q.getD k 0)) from rfl)
          generalize q.getD k 0 = v at *
          have HCUT := Box.mk (show upK q (k + 1) = false → false = r from fun h => by rw [← HX.out]; exact (upK_cut q _ h _ (by omega)).symm)
          generalize hla : lastK q k = la at *
          clear hc HI HX hla
          by_cases hv : la < v
          · have d1 : decide (v ≤ la) = false := decide_eq_false (by omega)
            have HU2 := Box.mk (show upK q (k + 1) = true by rw [HU1.out, HU.out, decide_eq_true hv]; rfl)
            clear HU1 HU HCUT
            go_wp2_with fail
            go_roundw
            case rel => exact ⟨k + 1, by omega, by rw [HG.out], by go_num, HU2, trivial⟩
            case measure => simp [intOf]; omega
          · have d1 : decide (v ≤ la) = true := decide_eq_true (by omega)
            have HF := Box.mk (HCUT.out (by rw [HU1.out, decide_eq_false hv, Bool.and_false]))
            clear HU1 HU HCUT
            go_wp2_with fail
            go_ret
            exact ⟨ret_boolP HF.out, HB.out⟩
        · have hke : k = l.length + 1 := by omega
          have HF := Box.mk (show true = r by rw [← HX.out, ← hke, HU.out])
          clear HX HU hke
          go_wp2_with fail
          go_ret
          exact ⟨ret_boolP HF.out, HB.out⟩
  · have HX := Box.mk (show false = r by rw [HS.out, hr]; rfl)
    clear h HN HS
    go_enter Try.func45, Try.ntmps45
    go_wp2_with fail
    refine (pWithin_eq w hr).mono ?_
    rintro e w1 ⟨rfl, rfl⟩
    go_wp2_with fail
    go_ret
    exact ⟨ret_boolP HX.out, Below.refl _ _⟩

theorem pWeights_eq {l : List Int} {a : Option Addr} {c : Nat} {r : Bool} (w : World) (h : IsInts w a l c) (hr : wOk l = r) :
    Calls Try.prog 45 #[.slice a l.length c] w fun e w' => e = .returned (.bool r) ∧ Below w.heap.size w w' := by subst hr; exact pWeights_any l a c w h

def nOk (p : Pl) : Bool := inR p.ms 1 1000000 && (inR p.num 0 1000000 && (inR p.den 1 1000000 && (inR p.hold 1 100 && inR p.win 1 1000000)))
theorem ok_parts (p : Pl) : p.ok = (wOk p.ws && nOk p) := by
  have hn : decide p.nums = (inR p.ws.length 1 8 && nOk p) := by
    unfold nOk inR Pl.nums
    simp only [← Bool.decide_and]
    congr 1
    apply propext
    constructor
    · rintro ⟨h1, h2, h⟩; refine ⟨?_, ?_⟩ <;> omega
    · rintro ⟨h1, h⟩; omega
  unfold Pl.ok wOk
  rw [hn, Bool.and_assoc, Bool.and_assoc, Bool.and_comm (nOk p)]

set_option maxRecDepth 10000 in
set_option maxHeartbeats 4000000 in
theorem pNumbers_any (p : Pl) (a : Option Addr) (c : Nat) (w : World) :
    Calls Try.prog 46 #[PlV a c p] w fun e w' => e = .returned (.bool (nOk p)) ∧ Below w.heap.size w w' := by
  have HS := Box.mk (show nOk p = (inR p.ms 1 1000000 && (inR p.num 0 1000000 && (inR p.den 1 1000000 && (inR p.hold 1 100 && inR p.win 1 1000000)))) from rfl)
  generalize nOk p = r at *
  obtain ⟨W, hW⟩ : ∃ W, W = w.alloc (.cells (PlC a c p) 30) := ⟨_, rfl⟩
  have HB := Box.mk (show Below w.heap.size w W by rw [hW]; exact below_oneF w _)
  have HV := Box.mk (show VarA W w.heap.size (PlC a c p) 30 by rw [hW]; exact VarA.new _ _ _)
  go_enter Try.func46, Try.ntmps46
  go_upto_region 1 with fail
  change Code.wp _ _ _ _ (w.alloc (.cells (PlC a c p) 30))
  rw [← hW]
  clear hW
  have c1 := HV.out.cell (i := 1) (v := .int .i64 p.ms) rfl
  have c2 := HV.out.cell (i := 2) (v := .int .i64 p.num) rfl
  have c3 := HV.out.cell (i := 3) (v := .int .i64 p.den) rfl
  have c4 := HV.out.cell (i := 4) (v := .int .i64 p.hold) rfl
  have c5 := HV.out.cell (i := 5) (v := .int .i64 p.win) rfl
  clear HV
  rcases inR_cases p.ms 1 1000000 with ⟨e0, _⟩ | ⟨e0, _⟩
  · skip
    rcases inR_cases p.num 0 1000000 with ⟨e1, _⟩ | ⟨e1, _⟩
    · skip
      rcases inR_cases p.den 1 1000000 with ⟨e2, _⟩ | ⟨e2, _⟩
      · skip
        rcases inR_cases p.hold 1 100 with ⟨e3, _⟩ | ⟨e3, _⟩
        · skip
          rcases inR_cases p.win 1 1000000 with ⟨e4, _⟩ | ⟨e4, _⟩
          · skip
            have HX := Box.mk (show true = r by rw [HS.out, e0, e1, e2, e3, e4]; rfl)
            clear HS
            go_wp2_with fail
            refine (pWithin_eq W e0).mono ?_
            rintro e w1 ⟨rfl, rfl⟩
            go_wp2_with fail
            refine (pWithin_eq W e1).mono ?_
            rintro e w1 ⟨rfl, rfl⟩
            go_wp2_with fail
            refine (pWithin_eq W e2).mono ?_
            rintro e w1 ⟨rfl, rfl⟩
            go_wp2_with fail
            refine (pWithin_eq W e3).mono ?_
            rintro e w1 ⟨rfl, rfl⟩
            go_wp2_with fail
            refine (pWithin_eq W e4).mono ?_
            rintro e w1 ⟨rfl, rfl⟩
            go_wp2_with fail
            go_ret
            exact ⟨ret_boolP HX.out, HB.out⟩
          · skip
            have HX := Box.mk (show false = r by rw [HS.out, e0, e1, e2, e3, e4]; rfl)
            clear HS
            go_wp2_with fail
            refine (pWithin_eq W e0).mono ?_
            rintro e w1 ⟨rfl, rfl⟩
            go_wp2_with fail
            refine (pWithin_eq W e1).mono ?_
            rintro e w1 ⟨rfl, rfl⟩
            go_wp2_with fail
            refine (pWithin_eq W e2).mono ?_
            rintro e w1 ⟨rfl, rfl⟩
            go_wp2_with fail
            refine (pWithin_eq W e3).mono ?_
            rintro e w1 ⟨rfl, rfl⟩
            go_wp2_with fail
            refine (pWithin_eq W e4).mono ?_
            rintro e w1 ⟨rfl, rfl⟩
            go_wp2_with fail
            go_ret
            exact ⟨ret_boolP HX.out, HB.out⟩
        · skip
          have HX := Box.mk (show false = r by rw [HS.out, e0, e1, e2, e3]; rfl)
          clear HS
          go_wp2_with fail
          refine (pWithin_eq W e0).mono ?_
          rintro e w1 ⟨rfl, rfl⟩
          go_wp2_with fail
          refine (pWithin_eq W e1).mono ?_
          rintro e w1 ⟨rfl, rfl⟩
          go_wp2_with fail
          refine (pWithin_eq W e2).mono ?_
          rintro e w1 ⟨rfl, rfl⟩
          go_wp2_with fail
          refine (pWithin_eq W e3).mono ?_
          rintro e w1 ⟨rfl, rfl⟩
          go_wp2_with fail
          go_ret
          exact ⟨ret_boolP HX.out, HB.out⟩
      · skip
        have HX := Box.mk (show false = r by rw [HS.out, e0, e1, e2]; rfl)
        clear HS
        go_wp2_with fail
        refine (pWithin_eq W e0).mono ?_
        rintro e w1 ⟨rfl, rfl⟩
        go_wp2_with fail
        refine (pWithin_eq W e1).mono ?_
        rintro e w1 ⟨rfl, rfl⟩
        go_wp2_with fail
        refine (pWithin_eq W e2).mono ?_
        rintro e w1 ⟨rfl, rfl⟩
        go_wp2_with fail
        go_ret
        exact ⟨ret_boolP HX.out, HB.out⟩
    · skip
      have HX := Box.mk (show false = r by rw [HS.out, e0, e1]; rfl)
      clear HS
      go_wp2_with fail
      refine (pWithin_eq W e0).mono ?_
      rintro e w1 ⟨rfl, rfl⟩
      go_wp2_with fail
      refine (pWithin_eq W e1).mono ?_
      rintro e w1 ⟨rfl, rfl⟩
      go_wp2_with fail
      go_ret
      exact ⟨ret_boolP HX.out, HB.out⟩
  · skip
    have HX := Box.mk (show false = r by rw [HS.out, e0]; rfl)
    clear HS
    go_wp2_with fail
    refine (pWithin_eq W e0).mono ?_
    rintro e w1 ⟨rfl, rfl⟩
    go_wp2_with fail
    go_ret
    exact ⟨ret_boolP HX.out, HB.out⟩
theorem pNumbers_eq {p : Pl} {a : Option Addr} {c : Nat} {r : Bool} (w : World) (hr : nOk p = r) :
    Calls Try.prog 46 #[PlV a c p] w fun e w' => e = .returned (.bool r) ∧ Below w.heap.size w w' := by subst hr; exact pNumbers_any p a c w

set_option maxRecDepth 10000 in
set_option maxHeartbeats 2000000 in
theorem pValidate_all (p : Pl) (a : Option Addr) (c : Nat) (w : World) (h : IsInts w a p.ws c) :
    Calls Try.prog 33 #[PlV a c p] w fun e w' => e = .returned (.int .i64 (planE p)) ∧ Below w.heap.size w w' := by
  have HK := Box.mk (ok_parts p)
  have HE := Box.mk (show planE p = if p.ok = true then 0 else 8 from rfl)
  generalize planE p = r at *
  obtain ⟨W, hW⟩ : ∃ W, W = w.alloc (.cells (PlC a c p) 30) := ⟨_, rfl⟩
  have HB := Box.mk (show Below w.heap.size w W by rw [hW]; exact below_oneF w _)
  have HV := Box.mk (show VarA W w.heap.size (PlC a c p) 30 by rw [hW]; exact VarA.new _ _ _)
  have HI := Box.mk (h.keepP HB.out)
  clear h
  unfold PlV
  go_enter Try.func33, Try.ntmps33
  go_upto_region 1 with fail
  change Code.wp _ _ _ _ (w.alloc (.cells (PlC a c p) 30))
  rw [← hW]
  clear hW
  have c0 := HV.out.cell (i := 0) (v := .slice a p.ws.length c) rfl
  cases hw : wOk p.ws
  · have HX := Box.mk (show (8 : Int) = r by rw [HE.out, HK.out, hw]; rfl)
    clear HE HK HV
    go_wp2_with fail
    refine (pWeights_eq W HI.out hw).mono ?_
    rintro e w1 ⟨rfl, hb⟩
    have HB1 := Box.mk (below_trans HB.out hb)
    clear hb HI hw HB
    go_wp2_with fail
    go_ret
    exact ⟨ret_int HX.out, HB1.out⟩
  · have HX := Box.mk (show (if nOk p = true then (0 : Int) else 8) = r by rw [HE.out, HK.out, hw, Bool.true_and])
    clear HE HK
    go_wp2_with fail
    refine (pWeights_eq W HI.out hw).mono ?_
    rintro e w1 ⟨rfl, hb⟩
    have HB1 := Box.mk (below_trans HB.out hb)
    have HV1 := Box.mk (HV.out.keep hb)
    clear hb HI hw HB HV c0
    have c0 := HV1.out.cell (i := 0) (v := .slice a p.ws.length c) rfl
    have c1 := HV1.out.cell (i := 1) (v := .int .i64 p.ms) rfl
    have c2 := HV1.out.cell (i := 2) (v := .int .i64 p.num) rfl
    have c3 := HV1.out.cell (i := 3) (v := .int .i64 p.den) rfl
    have c4 := HV1.out.cell (i := 4) (v := .int .i64 p.hold) rfl
    have c5 := HV1.out.cell (i := 5) (v := .int .i64 p.win) rfl
    clear HV1
    cases hn : nOk p
    · have HX := Box.mk (show (8 : Int) = r by rw [← HX.out, hn]; rfl)
      go_wp2_with fail
      refine (pNumbers_eq w1 hn).mono ?_
      rintro e w2 ⟨rfl, hb⟩
      have HB2 := Box.mk (below_trans HB1.out hb)
      clear hb HB1 hn c0 c1 c2 c3 c4 c5
      go_wp2_with fail
      go_ret
      exact ⟨ret_int HX.out, HB2.out⟩
    · have HX := Box.mk (show (0 : Int) = r by rw [← HX.out, hn]; rfl)
      go_wp2_with fail
      refine (pNumbers_eq w1 hn).mono ?_
      rintro e w2 ⟨rfl, hb⟩
      have HB2 := Box.mk (below_trans HB1.out hb)
      clear hb HB1 hn c0 c1 c2 c3 c4 c5
      go_wp2_with fail
      go_ret
      exact ⟨ret_int HX.out, HB2.out⟩
theorem pValidate_eq0 {p : Pl} {a : Option Addr} {c : Nat} {r : Int} (w : World) (h : IsInts w a p.ws c) (hr : planE p = r) :
    Calls Try.prog 33 #[PlV a c p] w fun e w' => e = .returned (.int .i64 r) ∧ Below w.heap.size w w' := by subst hr; exact pValidate_all p a c w h

set_option maxHeartbeats 2000000 in
theorem pWeight_all (p : Pl) (a : Option Addr) (c : Nat) (s : Int) (w : World) (h : IsInts w a p.ws c) :
    Calls Try.prog 28 #[PlV a c p, .int .i64 s] w fun e w' => e = .returned (.int .i64 (stageW p s)) ∧ Below w.heap.size w w' := by
  obtain ⟨r, hr⟩ : ∃ r, r = stageW p s := ⟨_, rfl⟩
  have HR := Box.mk hr
  rw [← hr]
  clear hr
  obtain ⟨W, hW⟩ : ∃ W, W = w.alloc (.cells (PlC a c p) 30) := ⟨_, rfl⟩
  have HB := Box.mk (show Below w.heap.size w W by rw [hW]; exact below_oneF w _)
  have HV := Box.mk (show VarA W w.heap.size (PlC a c p) 30 by rw [hW]; exact VarA.new _ _ _)
  have HI := Box.mk (h.keepP HB.out)
  clear h
  unfold PlV
  go_enter Try.func28, Try.ntmps28
  go_wp2_with fail
  change Calls _ _ #[PlV a c p] (w.alloc (.cells (PlC a c p) 30)) _
  rw [← hW]
  clear hW
  cases hk : p.ok
  · have HX := Box.mk (show (0 : Int) = r by rw [HR.out, stageW_no s (by rw [hk]; simp)])
    refine (pValidate_eq0 W HI.out (planE_no hk)).mono ?_
    rintro e w1 ⟨rfl, hb⟩
    have HB1 := Box.mk (below_trans HB.out hb)
    clear hb HR hk
    go_wp2_with fail
    go_ret
    exact ⟨ret_int HX.out, HB1.out⟩
  · have HNUM := Box.mk (Pl.ok_nums hk)
    refine (pValidate_eq0 W HI.out (planE_ok hk)).mono ?_
    rintro e w1 ⟨rfl, hb⟩
    have HB1 := Box.mk (below_trans HB.out hb)
    have HV1 := Box.mk (HV.out.keep hb)
    have HI1 := Box.mk (HI.out.keepP hb)
    have c0 := HV1.out.cell (i := 0) (v := .slice a p.ws.length c) rfl
    have hn1 : 1 ≤ p.ws.length := by have := HNUM.out; unfold Pl.nums at this; omega
    have hn8 : p.ws.length ≤ 8 := by have := HNUM.out; unfold Pl.nums at this; omega
    clear hb HV HI HB HNUM
    rcases inR_cases s 0 ((p.ws.length : Int) - 1) with ⟨hin, HN⟩ | ⟨hin, HN⟩
    · obtain ⟨k, rfl⟩ : ∃ k : Nat, s = k := ⟨s.toNat, by have := HN.out.1; omega⟩
      have hk' : k < p.ws.length := by have := HN.out.2; omega
      obtain ⟨x, rfl, hc⟩ := HI1.out.at hk'
      have hck := hc k hk'
      have HX := Box.mk (show p.ws.getD k 0 = r by rw [HR.out]; unfold stageW; rw [if_pos ⟨hk, by omega, by omega⟩]; rfl)
      generalize p.ws.getD k 0 = v at *
      clear HR hc hk HN
      go_wp2_with fail
      refine (pWithin_eq w1 hin).mono ?_
      rintro e w2 ⟨rfl, rfl⟩
      clear hin
      go_wp2_with fail
      go_ret
      exact ⟨ret_int HX.out, HB1.out⟩
    · have HX := Box.mk (show (0 : Int) = r by rw [HR.out, stageW_no s (fun h => HN.out ⟨h.2.1, by have := h.2.2; omega⟩)])
      clear HR hk HN
      go_wp2_with fail
      refine (pWithin_eq w1 hin).mono ?_
      rintro e w2 ⟨rfl, rfl⟩
      clear hin
      go_wp2_with fail
      go_ret
      exact ⟨ret_int HX.out, HB1.out⟩

set_option maxHeartbeats 4000000 in
theorem pVerdict_all (p : Pl) (a : Option Addr) (c : Nat) (v : Wn) (w : World) (h : IsInts w a p.ws c) :
    Calls Try.prog 20 #[PlV a c p, .agg v.cells] w fun e w' => e = .returned (.int .i64 (verdV p v)) ∧ Below w.heap.size w w' := by
  obtain ⟨r, hr⟩ : ∃ r, r = verdV p v := ⟨_, rfl⟩
  have HR := Box.mk hr
  rw [← hr]
  clear hr
  obtain ⟨tot, err, age⟩ := v
  unfold Wn.cells
  obtain ⟨W, hW⟩ : ∃ W, W = (w.alloc (.cells (PlC a c p) 30)).alloc (.cells #[.int .i64 tot, .int .i64 err, .int .i64 age] 26) := ⟨_, rfl⟩
  have HB := Box.mk (show Below w.heap.size w W by rw [hW]; exact below_twoF (below_oneF w _) _)
  have HV := Box.mk (show VarA W w.heap.size (PlC a c p) 30 by rw [hW]; exact (VarA.new _ _ _).below _)
  have HU := Box.mk (show VarA W (w.heap.size + 1) #[.int .i64 tot, .int .i64 err, .int .i64 age] 26 by rw [hW]; have := VarA.new (w.alloc (.cells (PlC a c p) 30)) #[.int .i64 tot, .int .i64 err, .int .i64 age] 26; rw [World.size_alloc] at this; exact this)
  have HI := Box.mk (h.keepP HB.out)
  clear h
  unfold PlV
  go_enter Try.func20, Try.ntmps20
  go_wp2_with fail
  change Calls _ _ #[PlV a c p] ((w.alloc (.cells (PlC a c p) 30)).alloc (.cells #[.int .i64 tot, .int .i64 err, .int .i64 age] 26)) _
  rw [← hW]
  clear hW
  cases hk : p.ok
  · have HX := Box.mk (show (0 : Int) = r by rw [HR.out, verdV_no (by rw [hk]; simp)])
    refine (pValidate_eq0 W HI.out (planE_no hk)).mono ?_
    rintro e w1 ⟨rfl, hb⟩
    have HB1 := Box.mk (below_trans HB.out hb)
    clear hb HR hk
    go_wp2_with fail
    go_ret
    exact ⟨ret_int HX.out, HB1.out⟩
  · refine (pValidate_eq0 W HI.out (planE_ok hk)).mono ?_
    rintro e w1 ⟨rfl, hb⟩
    have HB1 := Box.mk (below_trans HB.out hb)
    have HV1 := Box.mk (HV.out.keep hb)
    have HU1 := Box.mk (HU.out.keep hb)
    have c1 := HV1.out.cell (i := 1) (v := .int .i64 p.ms) rfl
    have c2 := HV1.out.cell (i := 2) (v := .int .i64 p.num) rfl
    have c3 := HV1.out.cell (i := 3) (v := .int .i64 p.den) rfl
    have u0 := HU1.out.cell (i := 0) (v := .int .i64 tot) rfl
    have u1 := HU1.out.cell (i := 1) (v := .int .i64 err) rfl
    have HNUM := Box.mk (Pl.ok_nums hk)
    have HK := Box.mk hk
    clear hb HV HI HB HU hk HV1 HU1
    rcases inR_cases tot 0 1000000000 with ⟨ht, HT⟩ | ⟨ht, HT⟩
    · rcases inR_cases err 0 1000000000 with ⟨he, HE⟩ | ⟨he, HE⟩
      · have HF := Box.mk (show Wn.fits ⟨tot, err, age⟩ by unfold Wn.fits; have h1 := HT.out; have h2 := HE.out; simp only; omega)
        have HE := Box.mk (HR.out.trans (verdV_yes HK.out HF.out))
        have HM1 := Box.mk (mul_small HF.out.2.2.1 HF.out.2.2.2 (show 0 ≤ p.den from by have := HNUM.out; unfold Pl.nums at this; omega) (show p.den ≤ 1000000 from by have := HNUM.out; unfold Pl.nums at this; omega))
        have HM2 := Box.mk (mul_small HF.out.1 HF.out.2.1 (show 0 ≤ p.num from by have := HNUM.out; unfold Pl.nums at this; omega) (show p.num ≤ 1000000 from by have := HNUM.out; unfold Pl.nums at this; omega))
        clear HR HF HK HT HNUM
        by_cases h5 : tot < p.ms
        · have HX := Box.mk (show (1 : Int) = r by rw [HE.out, if_pos h5])
          clear HE HM1 HM2
          go_wp2_with fail
          refine (pWithin_eq w1 ht).mono ?_
          rintro e w2 ⟨rfl, rfl⟩
          clear ht
          go_wp2_with fail
          refine (pWithin_eq w1 he).mono ?_
          rintro e w2 ⟨rfl, rfl⟩
          clear he
          go_wp2_with fail
          go_ret
          exact ⟨ret_int HX.out, HB1.out⟩
        · have w1e : wrap64 (err * p.den) = err * p.den := by have := HM1.out; simp only at this; simp only [wrap64]; omega
          have w2e : wrap64 (p.num * tot) = p.num * tot := by have := HM2.out; simp only at this; rw [Int.mul_comm] at this; simp only [wrap64]; omega
          have HX := Box.mk (show (if p.num * tot < err * p.den then (3 : Int) else 2) = r by rw [HE.out, if_neg h5])
          clear HE HM1 HM2
          go_wp2_with fail
          refine (pWithin_eq w1 ht).mono ?_
          rintro e w2 ⟨rfl, rfl⟩
          clear ht
          go_wp2_with fail
          refine (pWithin_eq w1 he).mono ?_
          rintro e w2 ⟨rfl, rfl⟩
          clear he
          by_cases h6 : p.num * tot < err * p.den
          · have HX := Box.mk (show (3 : Int) = r by rw [← HX.out, if_pos h6])
            have d6 := decide_eq_true h6
            go_wp2_with fail
            go_ret
            exact ⟨ret_int HX.out, HB1.out⟩
          · have HX := Box.mk (show (2 : Int) = r by rw [← HX.out, if_neg h6])
            have d6 := decide_eq_false h6
            go_wp2_with fail
            go_ret
            exact ⟨ret_int HX.out, HB1.out⟩
      · have HX := Box.mk (show (0 : Int) = r by rw [HR.out, verdV_no (fun h => HE.out (by have := h.2; unfold Wn.fits at this; simp only at this; omega))])
        clear HR HE HK HT HNUM c1 c2 c3
        go_wp2_with fail
        refine (pWithin_eq w1 ht).mono ?_
        rintro e w2 ⟨rfl, rfl⟩
        clear ht
        go_wp2_with fail
        refine (pWithin_eq w1 he).mono ?_
        rintro e w2 ⟨rfl, rfl⟩
        clear he
        go_wp2_with fail
        go_ret
        exact ⟨ret_int HX.out, HB1.out⟩
    · have HX := Box.mk (show (0 : Int) = r by rw [HR.out, verdV_no (fun h => HT.out (by have := h.2; unfold Wn.fits at this; simp only at this; omega))])
      clear HR HK HT HNUM c1 c2 c3
      go_wp2_with fail
      refine (pWithin_eq w1 ht).mono ?_
      rintro e w2 ⟨rfl, rfl⟩
      clear ht
      go_wp2_with fail
      go_ret
      exact ⟨ret_int HX.out, HB1.out⟩
theorem pVerdict_any (p : Pl) (a : Option Addr) (c : Nat) (v : Wn) (w : World) (h : IsInts w a p.ws c) (hp : p.rng) (hv : v.rng) :
    Calls Try.prog 20 #[PlV a c p, .agg v.cells] w fun e w' => e = .returned (.int .i64 (verdV p v)) ∧ Below w.heap.size w w' := pVerdict_all p a c v w h
end Go.Proofs.Ytfjnpegpfmaekaa
namespace Go.Proofs.Ytfjnpegpfmaekaa
open Go.RowKit
set_option linter.unusedSimpArgs false

def addMx (x y : Int) : Int := addS 1000000000 [x, y]
theorem addMx_rng (x y : Int) : 0 ≤ addMx x y ∧ addMx x y ≤ 1000000000 := by
  unfold addMx; rw [addS_eq, if_neg (by omega)]; simp only [sumX]; omega
def joinV (o x : Wn) : Wn := ⟨addMx o.tot x.tot, addMx o.err x.err, 0⟩
def mergeV (l : List Wn) : Wn := l.foldl joinV ⟨0, 0, 0⟩
theorem mergeV_snoc (l : List Wn) (k : Nat) (hk : k < l.length) : mergeV (l.take (k + 1)) = joinV (mergeV (l.take k)) l[k] := by
  unfold mergeV
  rw [List.take_succ_eq_append_getElem hk, List.foldl_append, List.foldl_cons, List.foldl_nil]
theorem mergeV_inv (l : List Wn) : ∀ k, k ≤ l.length → (0 ≤ (mergeV (l.take k)).tot ∧ (mergeV (l.take k)).tot ≤ 1000000000) ∧ (0 ≤ (mergeV (l.take k)).err ∧ (mergeV (l.take k)).err ≤ 1000000000) ∧ (mergeV (l.take k)).age = 0
  | 0, _ => by rw [List.take_zero]; exact ⟨⟨by decide, by decide⟩, ⟨by decide, by decide⟩, rfl⟩
  | k + 1, h => by rw [mergeV_snoc l k h]; exact ⟨addMx_rng _ _, addMx_rng _ _, rfl⟩

/-- The slice at a holds the windows l. -/
def WinsIn (w : World) (a : Option Addr) (l : List Wn) : Prop :=
  ∀ j (hj : j < l.length), ∃ x, a = some x ∧ w.cell? (x.add (j * 3)) = some (.int .i64 l[j].tot) ∧ w.cell? (x.add (j * 3 + 1)) = some (.int .i64 l[j].err) ∧ w.cell? (x.add (j * 3 + 2)) = some (.int .i64 l[j].age) ∧ l[j].rng
theorem WinsIn.keep {w w' : World} {a : Option Addr} {l : List Wn} (h : WinsIn w a l) (hb : Below w.heap.size w w') : WinsIn w' a l := fun j hj => by
  obtain ⟨x, e, h1, h2, h3, h4⟩ := h j hj
  exact ⟨x, e, below_cell hb h1, below_cell hb h2, below_cell hb h3, h4⟩
theorem WinsIn.take {w : World} {a : Option Addr} {l : List Wn} (h : WinsIn w a l) (k : Nat) : WinsIn w a (l.take k) := fun j hj => by
  have hj' : j < l.length := by rw [List.length_take] at hj; omega
  obtain ⟨x, e, h1, h2, h3, h4⟩ := h j hj'
  exact ⟨x, e, by rw [List.getElem_take]; exact h1, by rw [List.getElem_take]; exact h2, by rw [List.getElem_take]; exact h3, by rw [List.getElem_take]; exact h4⟩
end Go.Proofs.Ytfjnpegpfmaekaa
