/- Rollouts: the reference's Command, Observe, Weight. The table of a rollout's transitions: a map whose values hold closures. Rollouts: the reference's Observe, Tick, Weight. The landed rollout: the functions in its table, the table, Command. Rollouts: the reference's Weight and Tick. Single operations of a region that draws its order, for structs of any type: load, index, field, store. Rollouts: the reference's Step and Run. Slices of inputs of a rollout in memory: read, appended to. Rollouts: what stays true of one; the reference's Run. -/
import Derived.Test.YtfjnpegpfmaekaaPk1
import Derived.Test.YtfjnpegpfmaekaaRows
import Derived.WalkKit
import Derived.WalkSpells
import Derived.WalkLawsBesides
import Derived.BigQuiet
import Derived.Deep.QuietTactic
import Derived.Lib.Bytealg
import Derived.Lib.IndexLaws
import Derived.Lib.Hide
import Derived.Laws.IdiomStrings
import Derived.Lib.SlTrimSet
import Derived.Lib.IndexBytes
import Derived.Lib.Split
import Derived.Deep.AppendLies
import Derived.Shelf.LaysM
import Derived.Test.YtfjnpegpfmaekaaProg
import Derived.Shelf.Strings.SlTrimAscii
import Derived.Lib.SplitLaws
import Derived.WalkSmall
import Derived.ProofKit
import Derived.OpenShut
import Derived.Lib.Strings
import Derived.SliceStrings
import Derived.Deep.Quiet
import Derived.Tactics
import Derived.KernelRfl
import Derived.Below
import Derived.Laws.Bits64
import Derived.Lib.SlBytesConst
import Derived.Maps.AppendAt
import Derived.Laws.AppendOwnNone
import Derived.Great.BuildSlice
import Derived.Laws.Rows
import Derived.Laws.BitsAllLaws
import Derived.Laws.Shifts
import Derived.Maps.OwnOps
import Derived.Maps.OwnSet
import Derived.Deep.SlicePairs
import Derived.Lib.AppendZerosOnto
import Derived.Lib.AppendStr
import Derived.Laws.CopyOwn
import Derived.OwnWalk
import Derived.Laws.Strings3
import Derived.Laws.Concat
import Derived.Lib.ItoaMem
import Derived.Deep.DeepCutAuto
import Derived.Deep.CutBlock
import Derived.Laws.Tables
import Derived.Deep.Matrix
import Derived.IntWalk
import Derived.Laws.RangeAny
import Derived.Sort.Grow
import Derived.Lib.LaidTab
import Derived.LaidSub
import Derived.Laws.Bits64b
import Derived.Deep.WholeRow
import Derived.StillTailTactics
namespace Go.Proofs.Ytfjnpegpfmaekaa
open Go.RowKit
set_option linter.unusedSimpArgs false

/-- A rollout. -/
structure Ro where
  st : Int
  stage : Int
  healthy : Int
  w : Wn
def Ro.cells (r : Ro) : Array Value := #[.int .i64 r.st, .int .i64 r.stage, .int .i64 r.healthy, .int .i64 r.w.tot, .int .i64 r.w.err, .int .i64 r.w.age]
def Ro.rng (r : Ro) : Prop := i64P r.st ∧ i64P r.stage ∧ i64P r.healthy ∧ r.w.rng
/-- Nothing but a state. -/
def roS (s : Int) : Ro := ⟨s, 0, 0, ⟨0, 0, 0⟩⟩
theorem sizeRo : (Try.prog.info? 28).map (·.size) = some 6 := by kernel_rfl
theorem oneRo (a b c d e f : Int) : (#[.int .i64 a, .int .i64 b, .int .i64 c, .int .i64 d, .int .i64 e, .int .i64 f] : Array Value).all (·.oneCell') = true := by simp [Value.oneCell']
def cmdV (r : Ro) (c : Int) : Ro × Int :=
  if c = 1 then (if r.st = 0 then (roS 1, 0) else (roS 0, 7))
  else if c = 2 then (if r.st = 1 then ({ r with st := 4 }, 0) else (roS 0, 7))
  else if c = 3 then (if r.st = 4 then ({ r with st := 1 }, 0) else (roS 0, 7))
  else if c = 4 then (if r.st = 1 ∨ r.st = 4 then (roS 2, 0) else (roS 0, 7))
  else if c = 5 then (if (r.st = 1 ∨ r.st = 4) ∨ r.st = 2 then (roS 3, 0) else (roS 0, 7))
  else if c = 6 then (roS 0, 0)
  else (roS 0, 1)
theorem beq_i_yes {a b : Int} (h : a = b) : (a == b) = true := by rw [beq_iff_eq]; exact h
theorem beq_i_no {a b : Int} (h : ¬ a = b) : (a == b) = false := by rw [beq_eq_false_iff_ne]; exact h
theorem bne_i_yes {a b : Int} (h : ¬ a = b) : (a != b) = true := by rw [bne_iff_ne]; exact h
theorem bne_i_no {a b : Int} (h : a = b) : (a != b) = false := by rw [h]; simp

set_option maxRecDepth 10000 in
set_option maxHeartbeats 4000000 in
theorem refCommand_any (r : Ro) (c : Int) (w : World) :
    Calls Try.prog 32 #[.agg r.cells, .int .i64 c] w fun e w' => e = .returned (.tuple #[.agg (cmdV r c).1.cells, .int .i64 (cmdV r c).2]) ∧ Below w.heap.size w w' := by
  obtain ⟨cs, hcs⟩ : ∃ x, x = (cmdV r c).1.cells := ⟨_, rfl⟩
  obtain ⟨er, her⟩ : ∃ x, x = (cmdV r c).2 := ⟨_, rfl⟩
  rw [← hcs, ← her]
  obtain ⟨st, stage, healthy, tot, err, age⟩ := r
  unfold cmdV at hcs her
  simp only at hcs her
  have HC := Box.mk hcs
  have HE := Box.mk her
  clear hcs her
  unfold Ro.cells
  simp only
  obtain ⟨W, hW⟩ : ∃ W, W = (w.alloc (.cells #[.int .i64 st, .int .i64 stage, .int .i64 healthy, .int .i64 tot, .int .i64 err, .int .i64 age] 28)).alloc (.cells #[.int .i64 0, .int .i64 0, .int .i64 0, .int .i64 0, .int .i64 0, .int .i64 0] 28) := ⟨_, rfl⟩
  have HB := Box.mk (show Below w.heap.size w W by rw [hW]; exact below_twoF (below_oneF w _) _)
  have HV := Box.mk (show VarA W w.heap.size #[.int .i64 st, .int .i64 stage, .int .i64 healthy, .int .i64 tot, .int .i64 err, .int .i64 age] 28 by rw [hW]; exact (VarA.new _ _ _).below _)
  have HU := Box.mk (show VarA W (w.heap.size + 1) #[.int .i64 0, .int .i64 0, .int .i64 0, .int .i64 0, .int .i64 0, .int .i64 0] 28 by rw [hW]; have := VarA.new (w.alloc (.cells #[.int .i64 st, .int .i64 stage, .int .i64 healthy, .int .i64 tot, .int .i64 err, .int .i64 age] 28)) #[.int .i64 0, .int .i64 0, .int .i64 0, .int .i64 0, .int .i64 0, .int .i64 0] 28; rw [World.size_alloc] at this; exact this)
  have c0 := HV.out.cell (i := 0) (v := .int .i64 st) rfl
  obtain ⟨lv, hlv⟩ : ∃ b, b = decide (st = 1 ∨ st = 4) := ⟨_, rfl⟩
  have HL := Box.mk hlv
  clear hlv
  go_enter Try.func32, Try.ntmps32
  go_upto_region 1 with fail
  change Code.wp _ _ _ _ ((w.alloc (.cells #[.int .i64 st, .int .i64 stage, .int .i64 healthy, .int .i64 tot, .int .i64 err, .int .i64 age] 28)).alloc (.cells #[.int .i64 0, .int .i64 0, .int .i64 0, .int .i64 0, .int .i64 0, .int .i64 0] 28))
  rw [← hW]
  clear hW
  go_cut [6] (fun v wx => v = .bool lv ∧ wx = W)
  case first =>
    by_cases h1 : st = 1
    · have HX := Box.mk (show true = lv by rw [HL.out, decide_eq_true (show st = 1 ∨ st = 4 from .inl h1)])
      have d1 := beq_i_yes h1
      clear HC HE HL h1
      go_wp2_with fail
      go_meet
      exact ⟨by rw [HX.out], rfl⟩
    · have d1 := beq_i_no h1
      by_cases h4 : st = 4
      · have HX := Box.mk (show true = lv by rw [HL.out, decide_eq_true (show st = 1 ∨ st = 4 from .inr h4)])
        have d4 := beq_i_yes h4
        clear HC HE HL h1 h4
        go_wp2_with fail
        go_meet
        exact ⟨by rw [HX.out], rfl⟩
      · have HX := Box.mk (show false = lv by rw [HL.out, decide_eq_false (show ¬ (st = 1 ∨ st = 4) from fun h => h.elim h1 h4)])
        have d4 := beq_i_no h4
        clear HC HE HL h1 h4
        go_wp2_with fail
        go_meet
        exact ⟨by rw [HX.out], rfl⟩
  case rest =>
    obtain ⟨rfl, rfl⟩ := hcut
    by_cases k1 : c = 1
    · subst k1
      by_cases hs : st = 0
      · have ds := beq_i_yes hs
        have HX := Box.mk (show cs = #[.int .i64 1, .int .i64 0, .int .i64 0, .int .i64 0, .int .i64 0, .int .i64 0] ∧ er = 0 from ⟨by rw [HC.out]; simp [hs, roS, Ro.cells], by rw [HE.out]; simp [hs, roS, Ro.cells]⟩)
        clear HC HE HL  hs
        go_wp2_with (refine wpList_store_row rfl 28 _ _ rfl (w.heap.size + 1) #[.int .i64 1, .int .i64 0, .int .i64 0, .int .i64 0, .int .i64 0, .int .i64 0] rfl rfl 28 _ HU.out sizeRo rfl (oneRo ..) ?_)
        (try simp only [Exit.inBlock, Exit.then])
        refine bodyPost_ret (results_row_tmpF rfl _ _ (w.heap.size + 1) _ _ _ _ rfl (setRow_heap _ _ _ _ _ _ HU.out) Try.underlying28 rfl sizeRo) rfl ?_
        exact ⟨by rw [HX.out.1, HX.out.2]; rfl, below_setRow HB.out (by omega) _⟩
      · have ds := beq_i_no hs
        have HX := Box.mk (show cs = #[.int .i64 0, .int .i64 0, .int .i64 0, .int .i64 0, .int .i64 0, .int .i64 0] ∧ er = 7 from ⟨by rw [HC.out]; simp [hs, roS, Ro.cells], by rw [HE.out]; simp [hs, roS, Ro.cells]⟩)
        clear HC HE HL  hs
        go_wp2_with (refine wpList_store_row rfl 28 _ _ rfl (w.heap.size + 1) #[.int .i64 0, .int .i64 0, .int .i64 0, .int .i64 0, .int .i64 0, .int .i64 0] rfl rfl 28 _ HU.out sizeRo rfl (oneRo ..) ?_)
        (try simp only [Exit.inBlock, Exit.then])
        refine bodyPost_ret (results_row_tmpF rfl _ _ (w.heap.size + 1) _ _ _ _ rfl (setRow_heap _ _ _ _ _ _ HU.out) Try.underlying28 rfl sizeRo) rfl ?_
        exact ⟨by rw [HX.out.1, HX.out.2]; rfl, below_setRow HB.out (by omega) _⟩
    · have e1 := beq_i_no k1
      by_cases k2 : c = 2
      · subst k2
        by_cases hs : st = 1
        · have ds := beq_i_yes hs
          have HX := Box.mk (show cs = #[.int .i64 4, .int .i64 stage, .int .i64 healthy, .int .i64 tot, .int .i64 err, .int .i64 age] ∧ er = 0 from ⟨by rw [HC.out]; simp [hs, Ro.cells], by rw [HE.out]; simp [hs, Ro.cells]⟩)
          clear HC HE HL  k1 hs
          have hf := HV.out.frozen (i := 0)
          obtain ⟨W2, hW2⟩ : ∃ W2, W2 = wc.setCell ⟨w.heap.size, 0, none⟩ (.int .i64 4) := ⟨_, rfl⟩
          have HB2 := Box.mk (show Below w.heap.size w W2 by rw [hW2]; exact HB.out.setCell (Nat.le_refl _) _)
          have HV2 := Box.mk (show VarA W2 w.heap.size #[.int .i64 4, .int .i64 stage, .int .i64 healthy, .int .i64 tot, .int .i64 err, .int .i64 age] 28 by rw [hW2]; exact HV.out.set)
          have HU2 := Box.mk (show VarA W2 (w.heap.size + 1) #[.int .i64 0, .int .i64 0, .int .i64 0, .int .i64 0, .int .i64 0, .int .i64 0] 28 by rw [hW2]; exact HU.out.other (by show w.heap.size + 1 ≠ w.heap.size; omega))
          go_upto_region 11 with fail
          change Code.wp _ _ _ _ (wc.setCell ⟨w.heap.size, 0, none⟩ (.int .i64 4))
          rw [← hW2]
          clear hW2 hf c0
          have c0 := HV2.out.cell (i := 0) (v := .int .i64 4) rfl
          have c1 := HV2.out.cell (i := 1) (v := .int .i64 stage) rfl
          have c2 := HV2.out.cell (i := 2) (v := .int .i64 healthy) rfl
          have c3 := HV2.out.cell (i := 3) (v := .int .i64 tot) rfl
          have c4 := HV2.out.cell (i := 4) (v := .int .i64 err) rfl
          have c5 := HV2.out.cell (i := 5) (v := .int .i64 age) rfl
          go_wp2_with (refine wpList_store_row rfl 28 _ _ rfl (w.heap.size + 1) #[.int .i64 4, .int .i64 stage, .int .i64 healthy, .int .i64 tot, .int .i64 err, .int .i64 age] rfl rfl 28 _ HU2.out sizeRo rfl (oneRo ..) ?_)
          (try simp only [Exit.inBlock, Exit.then])
          refine bodyPost_ret (results_row_tmpF rfl _ _ (w.heap.size + 1) _ _ _ _ rfl (setRow_heap _ _ _ _ _ _ HU2.out) Try.underlying28 rfl sizeRo) rfl ?_
          exact ⟨by rw [HX.out.1, HX.out.2]; rfl, below_setRow HB2.out (by omega) _⟩
        · have ds := beq_i_no hs
          have HX := Box.mk (show cs = #[.int .i64 0, .int .i64 0, .int .i64 0, .int .i64 0, .int .i64 0, .int .i64 0] ∧ er = 7 from ⟨by rw [HC.out]; simp [hs, roS, Ro.cells], by rw [HE.out]; simp [hs, roS, Ro.cells]⟩)
          clear HC HE HL  k1 hs
          go_wp2_with (refine wpList_store_row rfl 28 _ _ rfl (w.heap.size + 1) #[.int .i64 0, .int .i64 0, .int .i64 0, .int .i64 0, .int .i64 0, .int .i64 0] rfl rfl 28 _ HU.out sizeRo rfl (oneRo ..) ?_)
          (try simp only [Exit.inBlock, Exit.then])
          refine bodyPost_ret (results_row_tmpF rfl _ _ (w.heap.size + 1) _ _ _ _ rfl (setRow_heap _ _ _ _ _ _ HU.out) Try.underlying28 rfl sizeRo) rfl ?_
          exact ⟨by rw [HX.out.1, HX.out.2]; rfl, below_setRow HB.out (by omega) _⟩
      · have e2 := beq_i_no k2
        by_cases k3 : c = 3
        · subst k3
          by_cases hs : st = 4
          · have ds := beq_i_yes hs
            have HX := Box.mk (show cs = #[.int .i64 1, .int .i64 stage, .int .i64 healthy, .int .i64 tot, .int .i64 err, .int .i64 age] ∧ er = 0 from ⟨by rw [HC.out]; simp [hs, Ro.cells], by rw [HE.out]; simp [hs, Ro.cells]⟩)
            clear HC HE HL  k1 k2 hs
            have hf := HV.out.frozen (i := 0)
            obtain ⟨W2, hW2⟩ : ∃ W2, W2 = wc.setCell ⟨w.heap.size, 0, none⟩ (.int .i64 1) := ⟨_, rfl⟩
            have HB2 := Box.mk (show Below w.heap.size w W2 by rw [hW2]; exact HB.out.setCell (Nat.le_refl _) _)
            have HV2 := Box.mk (show VarA W2 w.heap.size #[.int .i64 1, .int .i64 stage, .int .i64 healthy, .int .i64 tot, .int .i64 err, .int .i64 age] 28 by rw [hW2]; exact HV.out.set)
            have HU2 := Box.mk (show VarA W2 (w.heap.size + 1) #[.int .i64 0, .int .i64 0, .int .i64 0, .int .i64 0, .int .i64 0, .int .i64 0] 28 by rw [hW2]; exact HU.out.other (by show w.heap.size + 1 ≠ w.heap.size; omega))
            go_upto_region 15 with fail
            change Code.wp _ _ _ _ (wc.setCell ⟨w.heap.size, 0, none⟩ (.int .i64 1))
            rw [← hW2]
            clear hW2 hf c0
            have c0 := HV2.out.cell (i := 0) (v := .int .i64 1) rfl
            have c1 := HV2.out.cell (i := 1) (v := .int .i64 stage) rfl
            have c2 := HV2.out.cell (i := 2) (v := .int .i64 healthy) rfl
            have c3 := HV2.out.cell (i := 3) (v := .int .i64 tot) rfl
            have c4 := HV2.out.cell (i := 4) (v := .int .i64 err) rfl
            have c5 := HV2.out.cell (i := 5) (v := .int .i64 age) rfl
            go_wp2_with (refine wpList_store_row rfl 28 _ _ rfl (w.heap.size + 1) #[.int .i64 1, .int .i64 stage, .int .i64 healthy, .int .i64 tot, .int .i64 err, .int .i64 age] rfl rfl 28 _ HU2.out sizeRo rfl (oneRo ..) ?_)
            (try simp only [Exit.inBlock, Exit.then])
            refine bodyPost_ret (results_row_tmpF rfl _ _ (w.heap.size + 1) _ _ _ _ rfl (setRow_heap _ _ _ _ _ _ HU2.out) Try.underlying28 rfl sizeRo) rfl ?_
            exact ⟨by rw [HX.out.1, HX.out.2]; rfl, below_setRow HB2.out (by omega) _⟩
          · have ds := beq_i_no hs
            have HX := Box.mk (show cs = #[.int .i64 0, .int .i64 0, .int .i64 0, .int .i64 0, .int .i64 0, .int .i64 0] ∧ er = 7 from ⟨by rw [HC.out]; simp [hs, roS, Ro.cells], by rw [HE.out]; simp [hs, roS, Ro.cells]⟩)
            clear HC HE HL  k1 k2 hs
            go_wp2_with (refine wpList_store_row rfl 28 _ _ rfl (w.heap.size + 1) #[.int .i64 0, .int .i64 0, .int .i64 0, .int .i64 0, .int .i64 0, .int .i64 0] rfl rfl 28 _ HU.out sizeRo rfl (oneRo ..) ?_)
            (try simp only [Exit.inBlock, Exit.then])
            refine bodyPost_ret (results_row_tmpF rfl _ _ (w.heap.size + 1) _ _ _ _ rfl (setRow_heap _ _ _ _ _ _ HU.out) Try.underlying28 rfl sizeRo) rfl ?_
            exact ⟨by rw [HX.out.1, HX.out.2]; rfl, below_setRow HB.out (by omega) _⟩
        · have e3 := beq_i_no k3
          by_cases k4 : c = 4
          · subst k4
            by_cases hs : st = 1 ∨ st = 4
            · have hl : lv = true := by rw [HL.out, decide_eq_true hs]
              subst hl
              have HX := Box.mk (show cs = #[.int .i64 2, .int .i64 0, .int .i64 0, .int .i64 0, .int .i64 0, .int .i64 0] ∧ er = 0 from ⟨by rw [HC.out]; simp [hs, roS, Ro.cells], by rw [HE.out]; simp [hs, roS, Ro.cells]⟩)
              clear HC HE HL  k1 k2 k3 hs
              go_wp2_with (refine wpList_store_row rfl 28 _ _ rfl (w.heap.size + 1) #[.int .i64 2, .int .i64 0, .int .i64 0, .int .i64 0, .int .i64 0, .int .i64 0] rfl rfl 28 _ HU.out sizeRo rfl (oneRo ..) ?_)
              (try simp only [Exit.inBlock, Exit.then])
              refine bodyPost_ret (results_row_tmpF rfl _ _ (w.heap.size + 1) _ _ _ _ rfl (setRow_heap _ _ _ _ _ _ HU.out) Try.underlying28 rfl sizeRo) rfl ?_
              exact ⟨by rw [HX.out.1, HX.out.2]; rfl, below_setRow HB.out (by omega) _⟩
            · have hl : lv = false := by rw [HL.out, decide_eq_false hs]
              subst hl
              have HX := Box.mk (show cs = #[.int .i64 0, .int .i64 0, .int .i64 0, .int .i64 0, .int .i64 0, .int .i64 0] ∧ er = 7 from ⟨by rw [HC.out]; simp [hs, roS, Ro.cells], by rw [HE.out]; simp [hs, roS, Ro.cells]⟩)
              clear HC HE HL  k1 k2 k3 hs
              go_wp2_with (refine wpList_store_row rfl 28 _ _ rfl (w.heap.size + 1) #[.int .i64 0, .int .i64 0, .int .i64 0, .int .i64 0, .int .i64 0, .int .i64 0] rfl rfl 28 _ HU.out sizeRo rfl (oneRo ..) ?_)
              (try simp only [Exit.inBlock, Exit.then])
              refine bodyPost_ret (results_row_tmpF rfl _ _ (w.heap.size + 1) _ _ _ _ rfl (setRow_heap _ _ _ _ _ _ HU.out) Try.underlying28 rfl sizeRo) rfl ?_
              exact ⟨by rw [HX.out.1, HX.out.2]; rfl, below_setRow HB.out (by omega) _⟩
          · have e4 := beq_i_no k4
            by_cases k5 : c = 5
            · subst k5
              by_cases hs : st = 1 ∨ st = 4
              · have hl : lv = true := by rw [HL.out, decide_eq_true hs]
                subst hl
                have HX := Box.mk (show cs = #[.int .i64 3, .int .i64 0, .int .i64 0, .int .i64 0, .int .i64 0, .int .i64 0] ∧ er = 0 from ⟨by rw [HC.out]; simp [hs, roS, Ro.cells], by rw [HE.out]; simp [hs, roS, Ro.cells]⟩)
                clear HC HE HL  k1 k2 k3 k4 hs
                go_wp2_with (refine wpList_store_row rfl 28 _ _ rfl (w.heap.size + 1) #[.int .i64 3, .int .i64 0, .int .i64 0, .int .i64 0, .int .i64 0, .int .i64 0] rfl rfl 28 _ HU.out sizeRo rfl (oneRo ..) ?_)
                (try simp only [Exit.inBlock, Exit.then])
                refine bodyPost_ret (results_row_tmpF rfl _ _ (w.heap.size + 1) _ _ _ _ rfl (setRow_heap _ _ _ _ _ _ HU.out) Try.underlying28 rfl sizeRo) rfl ?_
                exact ⟨by rw [HX.out.1, HX.out.2]; rfl, below_setRow HB.out (by omega) _⟩
              · have hl : lv = false := by rw [HL.out, decide_eq_false hs]
                by_cases h2 : st = 2
                · have ds := beq_i_yes h2
                  subst hl
                  have HX := Box.mk (show cs = #[.int .i64 3, .int .i64 0, .int .i64 0, .int .i64 0, .int .i64 0, .int .i64 0] ∧ er = 0 from ⟨by rw [HC.out]; simp [hs, h2, roS, Ro.cells], by rw [HE.out]; simp [hs, h2, roS, Ro.cells]⟩)
                  clear HC HE HL  k1 k2 k3 k4 hs h2
                  go_wp2_with (refine wpList_store_row rfl 28 _ _ rfl (w.heap.size + 1) #[.int .i64 3, .int .i64 0, .int .i64 0, .int .i64 0, .int .i64 0, .int .i64 0] rfl rfl 28 _ HU.out sizeRo rfl (oneRo ..) ?_)
                  (try simp only [Exit.inBlock, Exit.then])
                  refine bodyPost_ret (results_row_tmpF rfl _ _ (w.heap.size + 1) _ _ _ _ rfl (setRow_heap _ _ _ _ _ _ HU.out) Try.underlying28 rfl sizeRo) rfl ?_
                  exact ⟨by rw [HX.out.1, HX.out.2]; rfl, below_setRow HB.out (by omega) _⟩
                · have ds := beq_i_no h2
                  subst hl
                  have HX := Box.mk (show cs = #[.int .i64 0, .int .i64 0, .int .i64 0, .int .i64 0, .int .i64 0, .int .i64 0] ∧ er = 7 from ⟨by rw [HC.out]; simp [hs, h2, roS, Ro.cells], by rw [HE.out]; simp [hs, h2, roS, Ro.cells]⟩)
                  clear HC HE HL  k1 k2 k3 k4 hs h2
                  go_wp2_with (refine wpList_store_row rfl 28 _ _ rfl (w.heap.size + 1) #[.int .i64 0, .int .i64 0, .int .i64 0, .int .i64 0, .int .i64 0, .int .i64 0] rfl rfl 28 _ HU.out sizeRo rfl (oneRo ..) ?_)
                  (try simp only [Exit.inBlock, Exit.then])
                  refine bodyPost_ret (results_row_tmpF rfl _ _ (w.heap.size + 1) _ _ _ _ rfl (setRow_heap _ _ _ _ _ _ HU.out) Try.underlying28 rfl sizeRo) rfl ?_
                  exact ⟨by rw [HX.out.1, HX.out.2]; rfl, below_setRow HB.out (by omega) _⟩
            · have e5 := beq_i_no k5
              by_cases k6 : c = 6
              · subst k6
                have HX := Box.mk (show cs = #[.int .i64 0, .int .i64 0, .int .i64 0, .int .i64 0, .int .i64 0, .int .i64 0] ∧ er = 0 from ⟨by rw [HC.out]; simp [roS, Ro.cells], by rw [HE.out]; simp [roS, Ro.cells]⟩)
                clear HC HE HL  k1 k2 k3 k4 k5
                go_wp2_with (refine wpList_store_row rfl 28 _ _ rfl (w.heap.size + 1) #[.int .i64 0, .int .i64 0, .int .i64 0, .int .i64 0, .int .i64 0, .int .i64 0] rfl rfl 28 _ HU.out sizeRo rfl (oneRo ..) ?_)
                (try simp only [Exit.inBlock, Exit.then])
                refine bodyPost_ret (results_row_tmpF rfl _ _ (w.heap.size + 1) _ _ _ _ rfl (setRow_heap _ _ _ _ _ _ HU.out) Try.underlying28 rfl sizeRo) rfl ?_
                exact ⟨by rw [HX.out.1, HX.out.2]; rfl, below_setRow HB.out (by omega) _⟩
              · have e6 := beq_i_no k6
                have HX := Box.mk (show cs = #[.int .i64 0, .int .i64 0, .int .i64 0, .int .i64 0, .int .i64 0, .int .i64 0] ∧ er = 1 from ⟨by rw [HC.out]; simp [k1, k2, k3, k4, k5, k6, roS, Ro.cells], by rw [HE.out]; simp [k1, k2, k3, k4, k5, k6, roS, Ro.cells]⟩)
                clear HC HE HL  k1 k2 k3 k4 k5 k6
                go_wp2_with (refine wpList_store_row rfl 28 _ _ rfl (w.heap.size + 1) #[.int .i64 0, .int .i64 0, .int .i64 0, .int .i64 0, .int .i64 0, .int .i64 0] rfl rfl 28 _ HU.out sizeRo rfl (oneRo ..) ?_)
                (try simp only [Exit.inBlock, Exit.then])
                refine bodyPost_ret (results_row_tmpF rfl _ _ (w.heap.size + 1) _ _ _ _ rfl (setRow_heap _ _ _ _ _ _ HU.out) Try.underlying28 rfl sizeRo) rfl ?_
                exact ⟨by rw [HX.out.1, HX.out.2]; rfl, below_setRow HB.out (by omega) _⟩
end Go.Proofs.Ytfjnpegpfmaekaa
namespace Go.Proofs.Ytfjnpegpfmaekaa
open Go.RowKit
set_option linter.unusedSimpArgs false
set_option linter.unusedVariables false

structure Trn where
  k : Int
  S : Option (List Int)
  dest : Int
  keeps : Bool
def Trn.val (t : Trn) (f : Value) : Value := .agg #[f, .int .i64 t.dest, .bool t.keeps]
def possL (S : Option (List Int)) (st : Int) : Bool := match S with
  | none => true
  | some l => l.any fun x => st == x
theorem zeroTr (w : World) : (zeroValue 62).run Try.prog w = .ok (.agg #[.nilFunc, .int .i64 0, .bool false]) w := by kernel_rfl

theorem add_blockT (x : Addr) (j : Nat) : (x.add j).block = x.block := by unfold Addr.add; split <;> rfl
theorem IsInts.grownT {w w' : World} {a : Option Addr} {l : List Int} {c : Nat} {row : Option Nat} (h : IsInts w a l c) (hg : w.grownBy w' row) (hne : ∀ x, a = some x → some x.block ≠ row) : IsInts w' a l c := by
  rcases h with h | ⟨x, h1, h2, h3, h4⟩
  · exact .inl h
  · exact .inr ⟨x, h1, h2, h3, fun j hj => ⟨hg.cell (h4 j hj).1 (by rw [add_blockT]; exact hne x h1), (h4 j hj).2⟩⟩

theorem IsInts.atT {w : World} {a : Option Addr} {l : List Int} {c : Nat} (h : IsInts w a l c) {k : Nat} (hlt : k < l.length) : ∃ x, a = some x ∧ w.cell? (x.add k) = some (.int .i64 l[k]) := by
  rcases h with ⟨_, h, _⟩ | ⟨x, h, _, _, hh⟩
  · rw [h] at hlt; simp at hlt
  · exact ⟨x, h, (hh k hlt).1⟩

/-- f is a function that says whether a state is one of S (if there is no S: of all). -/
def PossIn (w : World) (b : Nat) (f : Value) (S : Option (List Int)) : Prop :=
  (S = none ∧ f = .func (.func 48) #[] #[]) ∨
  ∃ l q a, S = some l ∧ f = .func (.func 53) #[] #[.pointer (some ⟨q, 0, none⟩)] ∧ q ≠ b ∧ a ≠ b ∧ w.cell? ⟨q, 0, none⟩ = some (.slice (some ⟨a, 0, none⟩) l.length l.length) ∧ IsInts w (some ⟨a, 0, none⟩) l l.length
theorem PossIn.grown {w w' : World} {b : Nat} {f : Value} {S : Option (List Int)} {row : Option Nat} (h : PossIn w b f S) (hg : w.grownBy w' row) (hr : row = none ∨ row = some b) : PossIn w' b f S := by
  rcases h with h | ⟨l, q, a, h1, h2, h3, h4, h5, h6⟩
  · exact .inl h
  · refine .inr ⟨l, q, a, h1, h2, h3, h4, hg.cell h5 ?_, h6.grownT hg ?_⟩
    · rcases hr with rfl | rfl
      · simp
      · intro e; injection e with e; exact h3 e
    · intro x e
      injection e with e
      subst e
      rcases hr with rfl | rfl
      · simp
      · intro e; injection e with e; exact h4 e

def EntIn (w : World) (b : Nat) : List MapEntry → List Trn → Prop
  | [], [] => True
  | e :: es, t :: L => (e.key = .int .i64 t.k ∧ ∃ f, e.val = t.val f ∧ PossIn w b f t.S) ∧ EntIn w b es L
  | _, _ => False
theorem EntIn.grown {w w' : World} {b : Nat} {row : Option Nat} (hg : w.grownBy w' row) (hr : row = none ∨ row = some b) : ∀ {es : List MapEntry} {L : List Trn}, EntIn w b es L → EntIn w' b es L
  | [], [], _ => trivial
  | e :: es, t :: L, ⟨⟨h1, f, h2, h3⟩, h4⟩ => ⟨⟨h1, f, h2, h3.grown hg hr⟩, EntIn.grown hg hr h4⟩
theorem EntIn.snoc {w : World} {b : Nat} {e : MapEntry} {t : Trn} {f : Value} (h1 : e.key = .int .i64 t.k) (h2 : e.val = t.val f) (h3 : PossIn w b f t.S) : ∀ {es : List MapEntry} {L : List Trn}, EntIn w b es L → EntIn w b (es ++ [e]) (L ++ [t])
  | [], [], _ => ⟨⟨h1, f, h2, h3⟩, trivial⟩
  | _ :: _, _ :: _, ⟨h, h4⟩ => ⟨h, EntIn.snoc h1 h2 h3 h4⟩
theorem EntIn.find {w : World} {b : Nat} (k : Int) : ∀ {es : List MapEntry} {L : List Trn}, EntIn w b es L → ∀ i, ∃ r, Instr.findNow (.int .i64) (.int .i64 k) es i = some r ∧
    ((L.find? (fun t => k == t.k) = none ∧ r = none) ∨ ∃ t j f, L.find? (fun t => k == t.k) = some t ∧ r = some (j, t.val f) ∧ PossIn w b f t.S)
  | [], [], _, i => ⟨none, rfl, .inl ⟨rfl, rfl⟩⟩
  | e :: es, t :: L, ⟨⟨h1, f, h2, h3⟩, h4⟩, i => by
    unfold Instr.findNow
    rw [h1]
    simp only [Instr.sameNow, if_true]
    rw [List.find?_cons]
    by_cases hk : k = t.k
    · have : (k == t.k) = true := by rw [beq_iff_eq]; exact hk
      rw [this]
      exact ⟨_, rfl, .inr ⟨t, i, f, rfl, by rw [h2], h3⟩⟩
    · have : (k == t.k) = false := by rw [beq_eq_false_iff_ne]; exact hk
      rw [this]
      exact EntIn.find k h4 (i + 1)

/-- Block b is a map with just these transitions. -/
def TrnIn (w : World) (b : Nat) (L : List Trn) : Prop := ∃ es clock, w.heap[b]? = some (.map es clock) ∧ EntIn w b es.toList L
theorem TrnIn.lt {w : World} {b : Nat} {L : List Trn} (h : TrnIn w b L) : b < w.heap.size := by
  obtain ⟨es, clock, h1, _⟩ := h; exact (Array.getElem?_eq_some_iff.1 h1).1
theorem TrnIn.made (w : World) : TrnIn (w.alloc (.map #[] 0)) w.heap.size [] := ⟨#[], 0, heap_alloc_new _ _, trivial⟩
theorem TrnIn.keep {w w' : World} {b : Nat} {L : List Trn} (h : TrnIn w b L) (hb : Below w.heap.size w w') : TrnIn w' b L := by
  have hlt := h.lt
  obtain ⟨es, clock, h1, h2⟩ := h
  exact ⟨es, clock, by rw [hb.block b hlt]; exact h1, h2.grown (grownBy_below (row := none) hb) (.inl rfl)⟩
theorem TrnIn.run {w : World} {b : Nat} {L : List Trn} (h : TrnIn w b L) (k : Int) :
    (L.find? (fun t => k == t.k) = none ∧ (Instr.lookup 64 (.map (some b)) (.int .i64 k) true).run Try.prog w = .ok (.tuple #[.agg #[.nilFunc, .int .i64 0, .bool false], .bool false]) w) ∨
    ∃ t f, L.find? (fun t => k == t.k) = some t ∧ PossIn w b f t.S ∧ (Instr.lookup 64 (.map (some b)) (.int .i64 k) true).run Try.prog w = .ok (.tuple #[.agg #[f, .int .i64 t.dest, .bool t.keeps], .bool true]) w := by
  obtain ⟨es, clock, h1, h2⟩ := h
  obtain ⟨r, hf, hr⟩ := h2.find k 0
  have hc : (Instr.checkKey es.isEmpty 10000 3 (.int .i64 k)).run Try.prog w = .ok () w := MapKept.run_checkKey (k := .int .i64 k) Try.underlying3 (by simp [MapKept.IsKey]) _ 9999
  have hz := zeroTr w
  rcases hr with ⟨e1, rfl⟩ | ⟨t, j, f, e1, rfl, hp⟩
  · refine .inl ⟨e1, ?_⟩
    simp [Instr.lookup, run_underlying Try.underlying64, MapKept.run_getObj_map h1, hc, MapKept.run_findKey Try.underlying3 hf, Result.andThen, hz]
  · refine .inr ⟨t, f, e1, hp, ?_⟩
    simp [Instr.lookup, run_underlying Try.underlying64, MapKept.run_getObj_map h1, hc, MapKept.run_findKey Try.underlying3 hf, Result.andThen, Trn.val]
theorem TrnIn.insert {w : World} {b : Nat} {L : List Trn} (h : TrnIn w b L) (t : Trn) (hk : L.find? (fun u => t.k == u.k) = none) {f : Value} (hf : PossIn w b f t.S) :
    ∃ w', (Instr.mapUpdate 64 (.map (some b)) (.int .i64 t.k) (t.val f)).run Try.prog w = .ok () w' ∧ TrnIn w' b (L ++ [t]) ∧ w.grownBy w' (some b) := by
  have hlt := h.lt
  obtain ⟨es, clock, h1, h2⟩ := h
  obtain ⟨r, hf1, hr⟩ := h2.find t.k 0
  have hc : (Instr.checkKey false 10000 3 (.int .i64 t.k)).run Try.prog w = .ok () w := MapKept.run_checkKey (k := .int .i64 t.k) Try.underlying3 (by simp [MapKept.IsKey]) _ 9999
  have hr0 : r = none := by
    rcases hr with ⟨_, e⟩ | ⟨t', _, _, e, _⟩
    · exact e
    · rw [hk] at e; cases e
  subst hr0
  have hg : w.grownBy { w with heap := w.heap.setIfInBounds b (.map (es.push { key := .int .i64 t.k, val := t.val f, born := clock }) (clock + 1)) } (some b) :=
    ⟨rfl, rfl, rfl, by simp, fun k hk hne => by simp only [Array.getElem?_setIfInBounds]; rw [if_neg (fun e => hne (by rw [e]))]⟩
  refine ⟨{ w with heap := w.heap.setIfInBounds b (.map (es.push { key := .int .i64 t.k, val := t.val f, born := clock }) (clock + 1)) }, ?_, ?_, hg⟩
  · simp [Instr.mapUpdate, run_underlying Try.underlying64, MapKept.run_getObj_map h1, hc, MapKept.run_findKey Try.underlying3 hf1, MapKept.run_setObj_map _ h1, Result.andThen]
  · refine ⟨_, _, by simp [Array.getElem?_setIfInBounds, hlt]; exact ⟨rfl, rfl⟩, ?_⟩
    rw [Array.toList_push]
    exact EntIn.snoc rfl rfl (hf.grown hg (.inr rfl)) (h2.grown hg (.inr rfl))

section
variable {ops : Array Oper} {rest : List Oper} {o : Oper} {act : Act} {Q : Exit → Act → World → Prop}
theorem wpList_insert_trn (w : World) (hg : o.guard = none) (m y : Operand) (k : Int) (hop : o.op = Op.insert 64 m (.const (.int .i64 k)) y) {b : Nat} {L : List Trn} (S : Option (List Int)) (dest : Int) (keeps : Bool) {f : Value}
    (hm : act.eval m = .map (some b)) (hL : TrnIn w b L) (hk : L.find? (fun u => k == u.k) = none) (hy : act.eval y = .agg #[f, .int .i64 dest, .bool keeps]) (hf : PossIn w b f S)
    (hK : ∀ w', TrnIn w' b (L ++ [⟨k, S, dest, keeps⟩]) → w.grownBy w' (some b) → wpList Try.prog ops Q rest (act.put o.dst undef) w') : wpList Try.prog ops Q (o :: rest) act w := by
  refine wpList_plain hg fun K' hK' => ?_
  obtain ⟨w', hrun, r1, r2⟩ := hL.insert ⟨k, S, dest, keeps⟩ hk hf
  unfold Oper.wp
  simp only [Trn.val] at hrun
  have hk2 : act.eval (.const (.int .i64 k)) = .int .i64 k := rfl
  simp [execOp, hop, hm, hy, hk2, hrun, Result.andThen]
  exact hK' _ _ (hK w' r1 r2)
theorem stop_insert (w : World) (t : TypeId) (m k y : Operand) (hop : o.op = Op.insert t m k y) (h : Box (wpList Try.prog ops Q (o :: rest) act w)) : wpList Try.prog ops Q (o :: rest) act w := h.out
end

set_option maxRecDepth 100000 in
set_option maxHeartbeats 1000000 in
theorem idxInt_any (l : List Int) (v : Int) (a : Option Addr) (c : Nat) (w : World) (h : IsInts w a l c) (hl : l.length ≤ 1000) :
    Calls Try.prog 55 #[.slice a l.length c, .int .i64 v] w fun e w' => ∃ i : Int, e = .returned (.int .i64 i) ∧ decide (0 ≤ i) = l.any (fun x => v == x) ∧ Below w.heap.size w w' := by
  have H0 := Box.mk h
  clear h
  go_enter Try.func55, Try.ntmps55
  go_wp2_with fail
  go_loopw [8] (fun iv wr => ∃ k : Nat, k ≤ l.length ∧ iv = .int .i64 k ∧ Box (w = wr ∧ ∀ x ∈ l.take k, (v == x) = false)) (fun iv _ => l.length - (intOf iv).toNat)
  case atStart => exact ⟨0, Nat.zero_le _, rfl, ⟨rfl, by simp⟩⟩
  case round =>
    obtain ⟨k, hk, rfl, HM⟩ := hrel
    by_cases hlt : k < l.length
    · obtain ⟨x, rfl, hx⟩ := (show IsInts wr a l c by rw [← HM.out.1]; exact H0.out).atT hlt
      have HMEM := Box.mk (List.getElem_mem hlt)
      have HTK := Box.mk (show l.take (k + 1) = l.take k ++ [l[k]] from List.take_succ_eq_append_getElem hlt)
      generalize l[k] = y at *
      by_cases hin : v = y
      · have d1 := beq_i_yes hin
        have HR := Box.mk (show l.any (fun x => v == x) = true from List.any_eq_true.2 ⟨y, HMEM.out, d1⟩)
        clear hin
        go_wp2_with fail
        go_ret
        exact ⟨(k : Int), rfl, by rw [HR.out]; simp, by rw [HM.out.1]; exact Below.refl _ _⟩
      · have d1 := beq_i_no hin
        have HM1 := Box.mk (show w = wr ∧ ∀ x ∈ l.take (k + 1), (v == x) = false from ⟨HM.out.1, by
          rw [HTK.out]
          intro z hz
          rcases List.mem_append.1 hz with h | h
          · exact HM.out.2 z h
          · simp at h; rw [h]; exact d1⟩)
        clear hin
        go_wp2_with fail
        go_roundw
        case rel => exact ⟨k + 1, by omega, by go_num, HM1⟩
        case measure => simp [intOf]; omega
    · have HR := Box.mk (show l.any (fun x => v == x) = false by
        have := HM.out.2
        rw [List.take_of_length_le (by omega)] at this
        rw [List.any_eq_false]
        intro y hy; rw [this y hy]; simp)
      go_wp2_with fail
      go_ret
      exact ⟨-1, rfl, by rw [HR.out]; rfl, by rw [HM.out.1]; exact Below.refl _ _⟩
end Go.Proofs.Ytfjnpegpfmaekaa
namespace Go.Proofs.Ytfjnpegpfmaekaa
open Go.RowKit
set_option linter.unusedSimpArgs false

def obsV (r : Ro) (failed : Bool) : Ro := if r.st = 1 then ⟨r.st, r.stage, r.healthy, smpV r.w failed⟩ else r
def closeR (r : Ro) (p : Pl) : Ro :=
  if verdV p r.w = 3 then roS 3
  else if verdV p r.w = 1 then ⟨r.st, r.stage, 0, ⟨0, 0, 0⟩⟩
  else if verdV p r.w = 2 then (if r.healthy + 1 = p.hold then (if r.stage + 1 = p.ws.length then roS 2 else ⟨r.st, r.stage + 1, 0, ⟨0, 0, 0⟩⟩) else ⟨r.st, r.stage, r.healthy + 1, ⟨0, 0, 0⟩⟩)
  else ⟨r.st, r.stage, r.healthy, ⟨0, 0, 0⟩⟩
def tickR (r : Ro) (p : Pl) : Ro := if r.st = 1 then (if (tickV r.w p.win).2 = true then closeR r p else ⟨r.st, r.stage, r.healthy, (tickV r.w p.win).1⟩) else r
theorem tickV_closed {v : Wn} {len : Int} (h : (tickV v len).2 = true) : (tickV v len).1 = ⟨0, 0, 0⟩ := by
  unfold tickV at *
  split
  · rfl
  · rename_i hn; rw [if_neg hn] at h; cases h
def rowRo (st stage healthy : Int) (v : Wn) : Array Value := #[.int .i64 st, .int .i64 stage, .int .i64 healthy, .int .i64 v.tot, .int .i64 v.err, .int .i64 v.age]

set_option maxRecDepth 10000 in
set_option maxHeartbeats 2000000 in
theorem refObserve_any (r : Ro) (failed : Bool) (w : World) (h : r.rng) :
    Calls Try.prog 31 #[.agg r.cells, .bool failed] w fun e w' => e = .returned (.agg (obsV r failed).cells) ∧ Below w.heap.size w w' := by
  obtain ⟨cs, hcs⟩ : ∃ x, x = (obsV r failed).cells := ⟨_, rfl⟩
  rw [← hcs]
  obtain ⟨st, stage, healthy, ⟨tot, err, age⟩⟩ := r
  have hw : Wn.rng ⟨tot, err, age⟩ := h.2.2.2
  unfold obsV at hcs
  simp only at hcs
  have HC := Box.mk hcs
  have HWR := Box.mk hw
  clear hcs h hw
  unfold Ro.cells
  simp only
  obtain ⟨W, hW⟩ : ∃ W, W = (w.alloc (.cells #[.int .i64 st, .int .i64 stage, .int .i64 healthy, .int .i64 tot, .int .i64 err, .int .i64 age] 28)).alloc (.cells #[.int .i64 0, .int .i64 0, .int .i64 0, .int .i64 0, .int .i64 0, .int .i64 0] 28) := ⟨_, rfl⟩
  have HB := Box.mk (show Below w.heap.size w W by rw [hW]; exact below_twoF (below_oneF w _) _)
  have HV := Box.mk (show VarA W w.heap.size #[.int .i64 st, .int .i64 stage, .int .i64 healthy, .int .i64 tot, .int .i64 err, .int .i64 age] 28 by rw [hW]; exact (VarA.new _ _ _).below _)
  have HU := Box.mk (show VarA W (w.heap.size + 1) #[.int .i64 0, .int .i64 0, .int .i64 0, .int .i64 0, .int .i64 0, .int .i64 0] 28 by rw [hW]; have := VarA.new (w.alloc (.cells #[.int .i64 st, .int .i64 stage, .int .i64 healthy, .int .i64 tot, .int .i64 err, .int .i64 age] 28)) #[.int .i64 0, .int .i64 0, .int .i64 0, .int .i64 0, .int .i64 0, .int .i64 0] 28; rw [World.size_alloc] at this; exact this)
  go_enter Try.func31, Try.ntmps31
  go_upto_region 1 with fail
  change Code.wp _ _ _ _ ((w.alloc (.cells #[.int .i64 st, .int .i64 stage, .int .i64 healthy, .int .i64 tot, .int .i64 err, .int .i64 age] 28)).alloc (.cells #[.int .i64 0, .int .i64 0, .int .i64 0, .int .i64 0, .int .i64 0, .int .i64 0] 28))
  rw [← hW]
  clear hW
  have c0 := HV.out.cell (i := 0) (v := .int .i64 st) rfl
  have c1 := HV.out.cell (i := 1) (v := .int .i64 stage) rfl
  have c2 := HV.out.cell (i := 2) (v := .int .i64 healthy) rfl
  have c3 := HV.out.cell (i := 3) (v := .int .i64 tot) rfl
  have c4 := HV.out.cell (i := 4) (v := .int .i64 err) rfl
  have c5 := HV.out.cell (i := 5) (v := .int .i64 age) rfl
  by_cases h1 : st = 1
  · have d1 := beq_i_yes h1
    have HX := Box.mk (show cs = rowRo st stage healthy (smpV ⟨tot, err, age⟩ failed) by rw [HC.out, if_pos h1]; rfl)
    clear HC h1
    go_wp2_with fail
    refine (refSample_any ⟨tot, err, age⟩ failed W HWR.out).mono ?_
    rintro e w1 ⟨rfl, hb1⟩
    have HB1 := Box.mk (below_trans HB.out hb1)
    have HV1 := Box.mk (HV.out.keep hb1)
    have HU1 := Box.mk (HU.out.keep hb1)
    clear hb1 HB HV HU c0 c1 c2 c3 c4 c5
    generalize smpV ⟨tot, err, age⟩ failed = v at *
    obtain ⟨t2, e2, a2⟩ := v
    obtain ⟨W2, hW2⟩ : ∃ W2, W2 = w1.setRow w.heap.size (rowRo st stage healthy ⟨t2, e2, a2⟩) := ⟨_, rfl⟩
    have HB2 := Box.mk (show Below w.heap.size w W2 by rw [hW2]; exact below_setRow HB1.out (Nat.le_refl _) _)
    have HV2 := Box.mk (show VarA W2 w.heap.size (rowRo st stage healthy ⟨t2, e2, a2⟩) 28 by rw [hW2]; exact setRow_heap _ _ _ _ _ _ HV1.out)
    have HU2 := Box.mk (show VarA W2 (w.heap.size + 1) #[.int .i64 0, .int .i64 0, .int .i64 0, .int .i64 0, .int .i64 0, .int .i64 0] 28 by rw [hW2]; exact HU1.out.row_other (by omega))
    go_upto_region 3 with (refine wpList_store_sub rfl 26 _ _ rfl w.heap.size 3 #[.int .i64 t2, .int .i64 e2, .int .i64 a2] rfl rfl 28 _ (rowRo st stage healthy ⟨t2, e2, a2⟩) HV1.out sizeWn (by show 3 + 3 ≤ 6; decide) (oneWn ..) rfl ?_)
    change Code.wp _ _ _ _ (w1.setRow w.heap.size (rowRo st stage healthy ⟨t2, e2, a2⟩))
    rw [← hW2]
    clear hW2 HB1 HV1 HU1
    have c0 := HV2.out.cell (i := 0) (v := .int .i64 st) rfl
    have c1 := HV2.out.cell (i := 1) (v := .int .i64 stage) rfl
    have c2 := HV2.out.cell (i := 2) (v := .int .i64 healthy) rfl
    have c3 := HV2.out.cell (i := 3) (v := .int .i64 t2) rfl
    have c4 := HV2.out.cell (i := 4) (v := .int .i64 e2) rfl
    have c5 := HV2.out.cell (i := 5) (v := .int .i64 a2) rfl
    go_wp2_with (refine wpList_store_row rfl 28 _ _ rfl (w.heap.size + 1) #[.int .i64 st, .int .i64 stage, .int .i64 healthy, .int .i64 t2, .int .i64 e2, .int .i64 a2] rfl rfl 28 _ HU2.out sizeRo rfl (oneRo ..) ?_)
    (try simp only [Exit.inBlock, Exit.then])
    refine ret_rowQ (cs := #[.int .i64 st, .int .i64 stage, .int .i64 healthy, .int .i64 t2, .int .i64 e2, .int .i64 a2]) rfl rfl rfl (setRow_heap _ _ _ _ _ _ HU2.out) Try.underlying28 rfl sizeRo ⟨by rw [HX.out]; rfl, below_setRow HB2.out (by omega) _⟩
  · have d1 := beq_i_no h1
    have HX := Box.mk (show cs = #[.int .i64 st, .int .i64 stage, .int .i64 healthy, .int .i64 tot, .int .i64 err, .int .i64 age] by rw [HC.out, if_neg h1]; rfl)
    clear HC h1
    go_wp2_with (refine wpList_store_row rfl 28 _ _ rfl (w.heap.size + 1) #[.int .i64 st, .int .i64 stage, .int .i64 healthy, .int .i64 tot, .int .i64 err, .int .i64 age] rfl rfl 28 _ HU.out sizeRo rfl (oneRo ..) ?_)
    (try simp only [Exit.inBlock, Exit.then])
    refine ret_rowQ (cs := #[.int .i64 st, .int .i64 stage, .int .i64 healthy, .int .i64 tot, .int .i64 err, .int .i64 age]) rfl rfl rfl (setRow_heap _ _ _ _ _ _ HU.out) Try.underlying28 rfl sizeRo ⟨by rw [HX.out], below_setRow HB.out (by omega) _⟩
end Go.Proofs.Ytfjnpegpfmaekaa
namespace Go.Proofs.Ytfjnpegpfmaekaa
open Go.RowKit
set_option linter.unusedSimpArgs false
set_option linter.unusedVariables false

set_option maxHeartbeats 1000000 in
theorem rContains_any (l : List Int) (v : Int) (a : Option Addr) (c : Nat) (w : World) (h : IsInts w a l c) (hl : l.length ≤ 1000) :
    Calls Try.prog 54 #[.slice a l.length c, .int .i64 v] w fun e w' => e = .returned (.bool (l.any fun x => v == x)) ∧ Below w.heap.size w w' := by
  obtain ⟨r, hr⟩ : ∃ r, r = l.any (fun x => v == x) := ⟨_, rfl⟩
  rw [← hr]
  have HR := Box.mk hr
  clear hr
  go_enter Try.func54, Try.ntmps54
  go_wp2_with fail
  refine (idxInt_any l v a c _ h hl).mono ?_
  rintro e w1 ⟨i, rfl, hi, hb⟩
  have HI := Box.mk (show decide (0 ≤ i) = r by rw [hi, HR.out])
  clear hi
  go_wp2_with fail
  go_ret
  exact ⟨ret_bool HI.out, hb⟩

set_option maxHeartbeats 1000000 in
theorem inClosure_any (l : List Int) (st : Int) (q a : Nat) (c : Nat) (w : World) (hc : w.cell? ⟨q, 0, none⟩ = some (.slice (some ⟨a, 0, none⟩) l.length c)) (h : IsInts w (some ⟨a, 0, none⟩) l c) (hl : l.length ≤ 1000) :
    Calls Try.prog 53 #[.int .i64 st, .pointer (some ⟨q, 0, none⟩)] w fun e w' => e = .returned (.bool (l.any fun x => st == x)) ∧ Below w.heap.size w w' := by
  obtain ⟨r, hr⟩ : ∃ r, r = l.any (fun x => st == x) := ⟨_, rfl⟩
  rw [← hr]
  have HR := Box.mk hr
  clear hr
  go_enter Try.func53, Try.ntmps53
  go_wp2_with fail
  refine (rContains_any l st _ c _ h hl).mono ?_
  rintro e w1 ⟨he, hb⟩
  rw [← HR.out] at he
  subst he
  go_wp2_with fail
  go_ret
  exact ⟨rfl, hb⟩

set_option maxHeartbeats 1000000 in
theorem always_any (st : Int) (w : World) :
    Calls Try.prog 48 #[.int .i64 st] w fun e w' => e = .returned (.bool true) ∧ Below w.heap.size w w' := by
  go_enter Try.func48, Try.ntmps48
  go_wp2_with fail
  go_ret
  exact ⟨rfl, Below.refl _ _⟩

set_option maxHeartbeats 1000000 in
theorem rIn_any (l : List Int) (n a b : Nat) (w : World) (hn : l.length = n) (h : IsInts w (some ⟨a, 0, none⟩) l n) (hab : a ≠ b) (hb : b < w.heap.size) :
    Calls Try.prog 47 #[.slice (some ⟨a, 0, none⟩) n n] w fun e w' => ∃ q, e = .returned (.func (.func 53) #[] #[.pointer (some ⟨q, 0, none⟩)]) ∧ PossIn w' b (.func (.func 53) #[] #[.pointer (some ⟨q, 0, none⟩)]) (some l) ∧ Below w.heap.size w w' := by
  subst hn
  have HP := Box.mk (show PossIn (w.alloc (.cells #[.slice (some ⟨a, 0, none⟩) l.length l.length] 22)) b (.func (.func 53) #[] #[.pointer (some ⟨w.heap.size, 0, none⟩)]) (some l) from
    .inr ⟨l, w.heap.size, a, rfl, rfl, by omega, hab, by rw [World.cell?_alloc_new]; rfl, h.keepP (below_oneF w _)⟩)
  clear h
  go_enter Try.func47, Try.ntmps47
  go_wp2_with fail
  go_ret
  exact ⟨_, rfl, HP.out, below_oneF w _⟩

def trnL : List Trn := [⟨1, some [0], 1, false⟩, ⟨2, some [1], 4, true⟩, ⟨3, some [4], 1, true⟩, ⟨4, some [1, 4], 2, false⟩, ⟨5, some [1, 4, 2], 3, false⟩, ⟨6, none, 0, false⟩]
set_option maxRecDepth 100000 in
set_option maxHeartbeats 4000000 in
theorem transitions_any (w : World) :
    Calls Try.prog 35 #[] w fun e w' => ∃ b, e = .returned (.map (some b)) ∧ TrnIn w' b trnL ∧ Below w.heap.size w w' := by
  have hmm := @run_makeMap Try.prog
  obtain ⟨W, hW⟩ : ∃ W, W = (w.alloc (.map #[] 0)).alloc (.cells #[.int .i64 0] 3) := ⟨_, rfl⟩
  have HT := Box.mk (show TrnIn W w.heap.size [] by rw [hW]; exact (TrnIn.made w).keep (below_oneF _ _))
  have HB := Box.mk (show Below w.heap.size w W by rw [hW]; exact below_twoF (below_oneF w _) _)
  have HI := Box.mk (show IsInts W (some ⟨w.heap.size + 1, 0, none⟩) [0] 1 by
    rw [hW]; have := isInts_new (w.alloc (.map #[] 0)) [0] (by simp) (by simp); rw [World.size_alloc] at this; exact this)
  have HLT := Box.mk (show w.heap.size < W.heap.size from HT.out.lt)
  go_enter Try.func35, Try.ntmps35
  go_wp2_with fail
  change Calls _ _ _ ((w.alloc (.map #[] 0)).alloc (.cells #[.int .i64 0] 3)) _
  rw [← hW]
  clear hW hmm
  generalize hb : w.heap.size = b at HT HB HI HLT ⊢
  have HBS := Box.mk hb
  clear hb
  refine (rIn_any [0] 1 _ b _ rfl HI.out (by have := HLT.out; omega) HLT.out).mono ?_
  rintro e v0 ⟨q0, rfl, hp, hb⟩
  have HP := Box.mk hp
  replace HT := Box.mk (HT.out.keep hb)
  replace HB := Box.mk (HB.out.trans (hb.mono (by have := HLT.out; omega)))
  clear HI hp hb
  go_wp2_with (refine stop_insert _ _ _ _ _ rfl ?_)
  refine Box.mk (wpList_insert_trn _ rfl _ _ 1 rfl (some [0]) 1 false rfl HT.out (by simp [List.find?]) rfl HP.out ?_)
  intro w1 hT hg
  replace HB := Box.mk (HB.out.grown hg (Nat.le_of_lt HT.out.lt) (fun k e => by injection e with e; omega))
  replace HT := Box.mk (show TrnIn w1 b [⟨1, some [0], 1, false⟩] from hT)
  clear hT hg HP HLT
  obtain ⟨u0, hu⟩ : ∃ u, u = w1.alloc (.cells #[.int .i64 1] 3) := ⟨_, rfl⟩
  have HI := Box.mk (show IsInts u0 (some ⟨w1.heap.size, 0, none⟩) [1] 1 by rw [hu]; exact isInts_new w1 [1] (by simp) (by simp))
  have HLA := Box.mk (show b < w1.heap.size from HT.out.lt)
  replace HT := Box.mk (show TrnIn u0 b [⟨1, some [0], 1, false⟩] by rw [hu]; exact HT.out.keep (below_oneF _ _))
  replace HB := Box.mk (show Below b w u0 by rw [hu]; exact HB.out.trans ((below_oneF _ _).mono (Nat.le_of_lt HLA.out)))
  have HLT := Box.mk (show b < u0.heap.size from HT.out.lt)
  go_wp2_with fail
  change Calls _ _ _ (w1.alloc (.cells #[.int .i64 1] 3)) _
  rw [← hu]
  clear hu
  refine (rIn_any [1] 1 _ b _ rfl HI.out (by have := HLA.out; omega) HLT.out).mono ?_
  rintro e v1 ⟨q1, rfl, hp, hb⟩
  have HP := Box.mk hp
  replace HT := Box.mk (HT.out.keep hb)
  replace HB := Box.mk (HB.out.trans (hb.mono (by have := HLT.out; omega)))
  clear HI hp hb
  go_wp2_with (refine stop_insert _ _ _ _ _ rfl ?_)
  refine Box.mk (wpList_insert_trn _ rfl _ _ 2 rfl (some [1]) 4 true rfl HT.out (by simp [List.find?]) rfl HP.out ?_)
  intro w2 hT hg
  replace HB := Box.mk (HB.out.grown hg (Nat.le_of_lt HT.out.lt) (fun k e => by injection e with e; omega))
  replace HT := Box.mk (show TrnIn w2 b [⟨1, some [0], 1, false⟩, ⟨2, some [1], 4, true⟩] from hT)
  clear hT hg HP HLT HLA
  obtain ⟨u1, hu⟩ : ∃ u, u = w2.alloc (.cells #[.int .i64 4] 3) := ⟨_, rfl⟩
  have HI := Box.mk (show IsInts u1 (some ⟨w2.heap.size, 0, none⟩) [4] 1 by rw [hu]; exact isInts_new w2 [4] (by simp) (by simp))
  have HLA := Box.mk (show b < w2.heap.size from HT.out.lt)
  replace HT := Box.mk (show TrnIn u1 b [⟨1, some [0], 1, false⟩, ⟨2, some [1], 4, true⟩] by rw [hu]; exact HT.out.keep (below_oneF _ _))
  replace HB := Box.mk (show Below b w u1 by rw [hu]; exact HB.out.trans ((below_oneF _ _).mono (Nat.le_of_lt HLA.out)))
  have HLT := Box.mk (show b < u1.heap.size from HT.out.lt)
  go_wp2_with fail
  change Calls _ _ _ (w2.alloc (.cells #[.int .i64 4] 3)) _
  rw [← hu]
  clear hu
  refine (rIn_any [4] 1 _ b _ rfl HI.out (by have := HLA.out; omega) HLT.out).mono ?_
  rintro e v2 ⟨q2, rfl, hp, hb⟩
  have HP := Box.mk hp
  replace HT := Box.mk (HT.out.keep hb)
  replace HB := Box.mk (HB.out.trans (hb.mono (by have := HLT.out; omega)))
  clear HI hp hb
  go_wp2_with (refine stop_insert _ _ _ _ _ rfl ?_)
  refine Box.mk (wpList_insert_trn _ rfl _ _ 3 rfl (some [4]) 1 true rfl HT.out (by simp [List.find?]) rfl HP.out ?_)
  intro w3 hT hg
  replace HB := Box.mk (HB.out.grown hg (Nat.le_of_lt HT.out.lt) (fun k e => by injection e with e; omega))
  replace HT := Box.mk (show TrnIn w3 b [⟨1, some [0], 1, false⟩, ⟨2, some [1], 4, true⟩, ⟨3, some [4], 1, true⟩] from hT)
  clear hT hg HP HLT HLA
  obtain ⟨u2, hu⟩ : ∃ u, u = w3.alloc (.cells #[.int .i64 1, .int .i64 4] 3) := ⟨_, rfl⟩
  have HI := Box.mk (show IsInts u2 (some ⟨w3.heap.size, 0, none⟩) [1, 4] 2 by rw [hu]; exact isInts_new w3 [1, 4] (by simp) (by simp))
  have HLA := Box.mk (show b < w3.heap.size from HT.out.lt)
  replace HT := Box.mk (show TrnIn u2 b [⟨1, some [0], 1, false⟩, ⟨2, some [1], 4, true⟩, ⟨3, some [4], 1, true⟩] by rw [hu]; exact HT.out.keep (below_oneF _ _))
  replace HB := Box.mk (show Below b w u2 by rw [hu]; exact HB.out.trans ((below_oneF _ _).mono (Nat.le_of_lt HLA.out)))
  have HLT := Box.mk (show b < u2.heap.size from HT.out.lt)
  go_wp2_with fail
  change Calls _ _ _ (w3.alloc (.cells #[.int .i64 1, .int .i64 4] 3)) _
  rw [← hu]
  clear hu
  refine (rIn_any [1, 4] 2 _ b _ rfl HI.out (by have := HLA.out; omega) HLT.out).mono ?_
  rintro e v3 ⟨q3, rfl, hp, hb⟩
  have HP := Box.mk hp
  replace HT := Box.mk (HT.out.keep hb)
  replace HB := Box.mk (HB.out.trans (hb.mono (by have := HLT.out; omega)))
  clear HI hp hb
  go_wp2_with (refine stop_insert _ _ _ _ _ rfl ?_)
  refine Box.mk (wpList_insert_trn _ rfl _ _ 4 rfl (some [1, 4]) 2 false rfl HT.out (by simp [List.find?]) rfl HP.out ?_)
  intro w4 hT hg
  replace HB := Box.mk (HB.out.grown hg (Nat.le_of_lt HT.out.lt) (fun k e => by injection e with e; omega))
  replace HT := Box.mk (show TrnIn w4 b [⟨1, some [0], 1, false⟩, ⟨2, some [1], 4, true⟩, ⟨3, some [4], 1, true⟩, ⟨4, some [1, 4], 2, false⟩] from hT)
  clear hT hg HP HLT HLA
  obtain ⟨u3, hu⟩ : ∃ u, u = w4.alloc (.cells #[.int .i64 1, .int .i64 4, .int .i64 2] 3) := ⟨_, rfl⟩
  have HI := Box.mk (show IsInts u3 (some ⟨w4.heap.size, 0, none⟩) [1, 4, 2] 3 by rw [hu]; exact isInts_new w4 [1, 4, 2] (by simp) (by simp))
  have HLA := Box.mk (show b < w4.heap.size from HT.out.lt)
  replace HT := Box.mk (show TrnIn u3 b [⟨1, some [0], 1, false⟩, ⟨2, some [1], 4, true⟩, ⟨3, some [4], 1, true⟩, ⟨4, some [1, 4], 2, false⟩] by rw [hu]; exact HT.out.keep (below_oneF _ _))
  replace HB := Box.mk (show Below b w u3 by rw [hu]; exact HB.out.trans ((below_oneF _ _).mono (Nat.le_of_lt HLA.out)))
  have HLT := Box.mk (show b < u3.heap.size from HT.out.lt)
  go_wp2_with fail
  change Calls _ _ _ (w4.alloc (.cells #[.int .i64 1, .int .i64 4, .int .i64 2] 3)) _
  rw [← hu]
  clear hu
  refine (rIn_any [1, 4, 2] 3 _ b _ rfl HI.out (by have := HLA.out; omega) HLT.out).mono ?_
  rintro e v4 ⟨q4, rfl, hp, hb⟩
  have HP := Box.mk hp
  replace HT := Box.mk (HT.out.keep hb)
  replace HB := Box.mk (HB.out.trans (hb.mono (by have := HLT.out; omega)))
  clear HI hp hb
  go_wp2_with (refine stop_insert _ _ _ _ _ rfl ?_)
  refine Box.mk (wpList_insert_trn _ rfl _ _ 5 rfl (some [1, 4, 2]) 3 false rfl HT.out (by simp [List.find?]) rfl HP.out ?_)
  intro w5 hT hg
  replace HB := Box.mk (HB.out.grown hg (Nat.le_of_lt HT.out.lt) (fun k e => by injection e with e; omega))
  replace HT := Box.mk (show TrnIn w5 b [⟨1, some [0], 1, false⟩, ⟨2, some [1], 4, true⟩, ⟨3, some [4], 1, true⟩, ⟨4, some [1, 4], 2, false⟩, ⟨5, some [1, 4, 2], 3, false⟩] from hT)
  clear hT hg HP HLT HLA
  have HP := Box.mk (show PossIn w5 b (.func (.func 48) #[] #[]) none from .inl ⟨rfl, rfl⟩)
  go_wp2_with (refine stop_insert _ _ _ _ _ rfl ?_)
  refine Box.mk (wpList_insert_trn _ rfl _ _ 6 rfl none 0 false rfl HT.out (by simp [List.find?]) rfl HP.out ?_)
  intro w6 hT hg
  replace HB := Box.mk (HB.out.grown hg (Nat.le_of_lt HT.out.lt) (fun k e => by injection e with e; omega))
  replace HT := Box.mk (show TrnIn w6 b trnL from hT)
  clear hT hg HP
  go_wp2_with fail
  go_ret
  exact ⟨b, rfl, HT.out, by rw [HBS.out]; exact HB.out⟩
end Go.Proofs.Ytfjnpegpfmaekaa
namespace Go.Proofs.Ytfjnpegpfmaekaa
open Go.RowKit
set_option linter.unusedSimpArgs false

theorem cells_yes {c : Prop} [Decidable c] {a b : Ro} {cs : Array Value} (e : cs = (if c then a else b).cells) (h : c) : cs = a.cells := by rw [e, if_pos h]
theorem cells_no {c : Prop} [Decidable c] {a b : Ro} {cs : Array Value} (e : cs = (if c then a else b).cells) (h : ¬ c) : cs = b.cells := by rw [e, if_neg h]
def weightV (r : Ro) (p : Pl) : Int := if r.st = 1 ∨ r.st = 4 then stageW p r.stage else if r.st = 2 then 10000 else 0
set_option maxRecDepth 10000 in
set_option maxHeartbeats 2000000 in
theorem refWeight_any (r : Ro) (p : Pl) (a : Option Addr) (c : Nat) (w : World) (h : IsInts w a p.ws c) :
    Calls Try.prog 15 #[.agg r.cells, PlV a c p] w fun e w' => e = .returned (.int .i64 (weightV r p)) ∧ Below w.heap.size w w' := by
  obtain ⟨x, hx⟩ : ∃ x, x = weightV r p := ⟨_, rfl⟩
  rw [← hx]
  obtain ⟨st, stage, healthy, ⟨tot, err, age⟩⟩ := r
  unfold weightV at hx
  simp only at hx
  have HX := Box.mk hx
  clear hx
  unfold Ro.cells
  simp only
  obtain ⟨W, hW⟩ : ∃ W, W = (w.alloc (.cells #[.int .i64 st, .int .i64 stage, .int .i64 healthy, .int .i64 tot, .int .i64 err, .int .i64 age] 28)).alloc (.cells (PlC a c p) 30) := ⟨_, rfl⟩
  have HB := Box.mk (show Below w.heap.size w W by rw [hW]; exact below_twoF (below_oneF w _) _)
  have HV := Box.mk (show VarA W w.heap.size #[.int .i64 st, .int .i64 stage, .int .i64 healthy, .int .i64 tot, .int .i64 err, .int .i64 age] 28 by rw [hW]; exact (VarA.new _ _ _).below _)
  have HI := Box.mk (h.keepP HB.out)
  clear h
  unfold PlV
  go_enter Try.func15, Try.ntmps15
  go_upto_region 1 with fail
  change Code.wp _ _ _ _ ((w.alloc (.cells #[.int .i64 st, .int .i64 stage, .int .i64 healthy, .int .i64 tot, .int .i64 err, .int .i64 age] 28)).alloc (.cells (PlC a c p) 30))
  have p0 := (show VarA W (w.heap.size + 1) (PlC a c p) 30 by rw [hW]; have := VarA.new (w.alloc (.cells #[.int .i64 st, .int .i64 stage, .int .i64 healthy, .int .i64 tot, .int .i64 err, .int .i64 age] 28)) (PlC a c p) 30; rw [World.size_alloc] at this; exact this)
  have P0 := Box.mk p0
  have q0 := p0.cell (i := 0) (v := .slice a p.ws.length c) rfl
  have q1 := p0.cell (i := 1) (v := .int .i64 p.ms) rfl
  have q2 := p0.cell (i := 2) (v := .int .i64 p.num) rfl
  have q3 := p0.cell (i := 3) (v := .int .i64 p.den) rfl
  have q4 := p0.cell (i := 4) (v := .int .i64 p.hold) rfl
  have q5 := p0.cell (i := 5) (v := .int .i64 p.win) rfl
  clear p0
  rw [← hW]
  clear hW
  have c0 := HV.out.cell (i := 0) (v := .int .i64 st) rfl
  have c1 := HV.out.cell (i := 1) (v := .int .i64 stage) rfl
  by_cases h1 : st = 1
  · subst h1
    have HE := Box.mk (show x = stageW p stage by rw [HX.out, if_pos (.inl rfl)])
    clear HX
    go_wp2_with fail
    refine (refStageWeight_any p a c stage W HI.out).mono ?_
    rintro e w1 ⟨rfl, hb⟩
    go_wp2_with fail
    go_ret
    exact ⟨ret_int HE.out.symm, below_trans HB.out hb⟩
  · have d1 := beq_i_no h1
    by_cases h4 : st = 4
    · subst h4
      have HE := Box.mk (show x = stageW p stage by rw [HX.out, if_pos (.inr rfl)])
      clear HX
      go_wp2_with fail
      refine (refStageWeight_any p a c stage W HI.out).mono ?_
      rintro e w1 ⟨rfl, hb⟩
      go_wp2_with fail
      go_ret
      exact ⟨ret_int HE.out.symm, below_trans HB.out hb⟩
    · have d4 := beq_i_no h4
      by_cases h2 : st = 2
      · subst h2
        have HE := Box.mk (show (10000 : Int) = x by rw [HX.out, if_neg (by decide), if_pos rfl])
        clear HX
        go_wp2_with fail
        go_ret
        exact ⟨ret_int HE.out, HB.out⟩
      · have d2 := beq_i_no h2
        have HE := Box.mk (show (0 : Int) = x by rw [HX.out, if_neg (fun h => h.elim h1 h4), if_neg h2])
        clear HX
        go_wp2_with fail
        go_ret
        exact ⟨ret_int HE.out, HB.out⟩

set_option maxRecDepth 10000 in
set_option maxHeartbeats 8000000 in
theorem refTick_any (r : Ro) (p : Pl) (a : Option Addr) (c : Nat) (w : World) (h : IsInts w a p.ws c) (hr : r.rng) (hs : r.stage ≤ 1000000) (hh : r.healthy ≤ 1000000) (hwin : p.win ≤ 9223372036854775807) :
    Calls Try.prog 13 #[.agg r.cells, PlV a c p] w fun e w' => e = .returned (.agg (tickR r p).cells) ∧ Below w.heap.size w w' := by
  obtain ⟨cs, hcs⟩ : ∃ x, x = (tickR r p).cells := ⟨_, rfl⟩
  rw [← hcs]
  obtain ⟨st, stage, healthy, ⟨tot, err, age⟩⟩ := r
  obtain ⟨-, r1, r2, r3⟩ := hr
  unfold i64P at r1 r2
  have HWR := Box.mk (show Wn.rng ⟨tot, err, age⟩ from r3)
  unfold tickR closeR at hcs
  simp only at hcs r1 r2 hs hh
  have HC := Box.mk hcs
  clear hcs r3
  unfold Ro.cells
  simp only
  obtain ⟨W, hW⟩ : ∃ W, W = ((w.alloc (.cells #[.int .i64 st, .int .i64 stage, .int .i64 healthy, .int .i64 tot, .int .i64 err, .int .i64 age] 28)).alloc (.cells (PlC a c p) 30)).alloc (.cells #[.int .i64 0, .int .i64 0, .int .i64 0, .int .i64 0, .int .i64 0, .int .i64 0] 28) := ⟨_, rfl⟩
  have HB := Box.mk (show Below w.heap.size w W by rw [hW]; exact below_twoF (below_twoF (below_oneF w _) _) _)
  have HV := Box.mk (show VarA W w.heap.size #[.int .i64 st, .int .i64 stage, .int .i64 healthy, .int .i64 tot, .int .i64 err, .int .i64 age] 28 by rw [hW]; exact ((VarA.new _ _ _).below _).below _)
  have HP := Box.mk (show VarA W (w.heap.size + 1) (PlC a c p) 30 by rw [hW]; have := (VarA.new (w.alloc (.cells #[.int .i64 st, .int .i64 stage, .int .i64 healthy, .int .i64 tot, .int .i64 err, .int .i64 age] 28)) (PlC a c p) 30).below (.cells #[.int .i64 0, .int .i64 0, .int .i64 0, .int .i64 0, .int .i64 0, .int .i64 0] 28); rw [World.size_alloc] at this; exact this)
  have HU := Box.mk (show VarA W (w.heap.size + 2) #[.int .i64 0, .int .i64 0, .int .i64 0, .int .i64 0, .int .i64 0, .int .i64 0] 28 by rw [hW]; have := VarA.new ((w.alloc (.cells #[.int .i64 st, .int .i64 stage, .int .i64 healthy, .int .i64 tot, .int .i64 err, .int .i64 age] 28)).alloc (.cells (PlC a c p) 30)) #[.int .i64 0, .int .i64 0, .int .i64 0, .int .i64 0, .int .i64 0, .int .i64 0] 28; rw [World.size_alloc, World.size_alloc] at this; exact this)
  have HI0 := Box.mk h
  clear h
  unfold PlV
  go_enter Try.func13, Try.ntmps13
  go_upto_region 1 with fail
  change Code.wp _ _ _ _ (((w.alloc (.cells #[.int .i64 st, .int .i64 stage, .int .i64 healthy, .int .i64 tot, .int .i64 err, .int .i64 age] 28)).alloc (.cells (PlC a c p) 30)).alloc (.cells #[.int .i64 0, .int .i64 0, .int .i64 0, .int .i64 0, .int .i64 0, .int .i64 0] 28))
  rw [← hW]
  clear hW
  have c0 := HV.out.cell (i := 0) (v := .int .i64 st) rfl
  have c1 := HV.out.cell (i := 1) (v := .int .i64 stage) rfl
  have c2 := HV.out.cell (i := 2) (v := .int .i64 healthy) rfl
  have c3 := HV.out.cell (i := 3) (v := .int .i64 tot) rfl
  have c4 := HV.out.cell (i := 4) (v := .int .i64 err) rfl
  have c5 := HV.out.cell (i := 5) (v := .int .i64 age) rfl
  have p5 := HP.out.cell (i := 5) (v := .int .i64 p.win) rfl
  by_cases h1 : st = 1
  · have d1 := bne_i_no h1
    replace HC := Box.mk (cells_yes HC.out h1)
    clear h1
    go_wp2_with fail
    refine (refTickWindow_any ⟨tot, err, age⟩ p.win W HWR.out hwin).mono ?_
    rintro e w1 ⟨he, hb1⟩
    have HTC := Box.mk (fun h => tickV_closed (v := ⟨tot, err, age⟩) (len := p.win) h)
    generalize tickV ⟨tot, err, age⟩ p.win = tv at *
    obtain ⟨⟨t2, e2, a2⟩, cl⟩ := tv
    simp only at HC HTC
    simp only [Wn.cells] at he
    subst he
    have HB1 := Box.mk (below_trans HB.out hb1)
    have HS1 := Box.mk hb1.size
    have HV1 := Box.mk (HV.out.keep hb1)
    have HP1 := Box.mk (HP.out.keep hb1)
    have HU1 := Box.mk (HU.out.keep hb1)
    have HLT := Box.mk (HU.out.lt)
    clear hb1 HV HP HU c0 c1 c2 c3 c4 c5 p5
    obtain ⟨W3, hW3⟩ : ∃ W3, W3 = w1.alloc (.cells #[.int .i64 t2, .int .i64 e2, .int .i64 a2] 26) := ⟨_, rfl⟩
    have HV3 := Box.mk (show VarA W3 w.heap.size #[.int .i64 st, .int .i64 stage, .int .i64 healthy, .int .i64 tot, .int .i64 err, .int .i64 age] 28 by rw [hW3]; exact HV1.out.below _)
    have HT3 := Box.mk (show VarA W3 w1.heap.size #[.int .i64 t2, .int .i64 e2, .int .i64 a2] 26 by rw [hW3]; exact VarA.new _ _ _)
    have HZ3 := Box.mk (show W3.heap.size = w1.heap.size + 1 by rw [hW3]; simp)
    have HB3 := Box.mk (show Below w1.heap.size w1 W3 by rw [hW3]; exact below_oneF w1 _)
    go_upto_region 4 with fail
    change Code.wp _ _ _ _ (w1.alloc (.cells #[.int .i64 t2, .int .i64 e2, .int .i64 a2] 26))
    rw [← hW3]
    clear hW3
    have c3 := HV3.out.cell (i := 3) (v := .int .i64 tot) rfl
    have c4 := HV3.out.cell (i := 4) (v := .int .i64 err) rfl
    have c5 := HV3.out.cell (i := 5) (v := .int .i64 age) rfl
    obtain ⟨W4, hW4⟩ : ∃ W4, W4 = W3.alloc (.cells #[.int .i64 tot, .int .i64 err, .int .i64 age] 26) := ⟨_, rfl⟩
    have HV4 := Box.mk (show VarA W4 w.heap.size #[.int .i64 st, .int .i64 stage, .int .i64 healthy, .int .i64 tot, .int .i64 err, .int .i64 age] 28 by rw [hW4]; exact HV3.out.below _)
    have HT4 := Box.mk (show VarA W4 w1.heap.size #[.int .i64 t2, .int .i64 e2, .int .i64 a2] 26 by rw [hW4]; exact HT3.out.below _)
    have HO4 := Box.mk (show VarA W4 (w1.heap.size + 1) #[.int .i64 tot, .int .i64 err, .int .i64 age] 26 by rw [hW4]; have := VarA.new W3 #[.int .i64 tot, .int .i64 err, .int .i64 age] 26; rw [HZ3.out] at this; exact this)
    have HB4 := Box.mk (show Below w1.heap.size w1 W4 by rw [hW4]; exact HB3.out.trans ((below_oneF W3 _).mono HB3.out.size))
    clear HV3 HT3 HB3
    go_upto_region 5 with fail
    change Code.wp _ _ _ _ (W3.alloc (.cells #[.int .i64 tot, .int .i64 err, .int .i64 age] 26))
    rw [← hW4]
    clear hW4 c3 c4 c5
    rw [HZ3.out]
    clear HZ3
    have t0 := HT4.out.cell (i := 0) (v := .int .i64 t2) rfl
    have t1 := HT4.out.cell (i := 1) (v := .int .i64 e2) rfl
    have t2' := HT4.out.cell (i := 2) (v := .int .i64 a2) rfl
    obtain ⟨W5, hW5⟩ : ∃ W5, W5 = W4.setRow w.heap.size #[.int .i64 st, .int .i64 stage, .int .i64 healthy, .int .i64 t2, .int .i64 e2, .int .i64 a2] := ⟨_, rfl⟩
    have HB5 := Box.mk (show Below w.heap.size w W5 by rw [hW5]; exact below_setRow (below_trans HB1.out HB4.out) (Nat.le_refl _) _)
    have HV5 := Box.mk (show VarA W5 w.heap.size #[.int .i64 st, .int .i64 stage, .int .i64 healthy, .int .i64 t2, .int .i64 e2, .int .i64 a2] 28 by rw [hW5]; exact setRow_heap _ _ _ _ _ _ HV4.out)
    have HP5 := Box.mk (show VarA W5 (w.heap.size + 1) (PlC a c p) 30 by rw [hW5]; exact (HP1.out.keep HB4.out).row_other (by omega))
    have HU5 := Box.mk (show VarA W5 (w.heap.size + 2) #[.int .i64 0, .int .i64 0, .int .i64 0, .int .i64 0, .int .i64 0, .int .i64 0] 28 by rw [hW5]; exact (HU1.out.keep HB4.out).row_other (by omega))
    have HO5 := Box.mk (show VarA W5 (w1.heap.size + 1) #[.int .i64 tot, .int .i64 err, .int .i64 age] 26 by rw [hW5]; exact HO4.out.row_other (by have := HLT.out; have := HS1.out; omega))
    have HI5 := Box.mk (HI0.out.keepP HB5.out)
    go_upto_region 6 with (refine wpList_store_sub rfl 26 _ _ rfl w.heap.size 3 #[.int .i64 t2, .int .i64 e2, .int .i64 a2] rfl rfl 28 _ #[.int .i64 st, .int .i64 stage, .int .i64 healthy, .int .i64 t2, .int .i64 e2, .int .i64 a2] HV4.out sizeWn (by show 3 + 3 ≤ 6; decide) (oneWn ..) rfl ?_)
    change Code.wp _ _ _ _ (W4.setRow w.heap.size #[.int .i64 st, .int .i64 stage, .int .i64 healthy, .int .i64 t2, .int .i64 e2, .int .i64 a2])
    rw [← hW5]
    clear hW5 t0 t1 t2' HV4 HT4 HO4 HB4 HB1 HP1 HU1 HLT HS1
    have c0 := HV5.out.cell (i := 0) (v := .int .i64 st) rfl
    have c1 := HV5.out.cell (i := 1) (v := .int .i64 stage) rfl
    have c2 := HV5.out.cell (i := 2) (v := .int .i64 healthy) rfl
    have c3 := HV5.out.cell (i := 3) (v := .int .i64 t2) rfl
    have c4 := HV5.out.cell (i := 4) (v := .int .i64 e2) rfl
    have c5 := HV5.out.cell (i := 5) (v := .int .i64 a2) rfl
    cases cl
    · have HX := Box.mk (show cs = #[.int .i64 st, .int .i64 stage, .int .i64 healthy, .int .i64 t2, .int .i64 e2, .int .i64 a2] from cells_no HC.out (by decide))
      clear HC
      go_wp2_with (refine wpList_store_row rfl 28 _ _ rfl (w.heap.size + 2) #[.int .i64 st, .int .i64 stage, .int .i64 healthy, .int .i64 t2, .int .i64 e2, .int .i64 a2] rfl rfl 28 _ HU5.out sizeRo rfl (oneRo ..) ?_)
      (try simp only [Exit.inBlock, Exit.then])
      refine ret_rowQ (cs := #[.int .i64 st, .int .i64 stage, .int .i64 healthy, .int .i64 t2, .int .i64 e2, .int .i64 a2]) rfl rfl rfl (setRow_heap _ _ _ _ _ _ HU5.out) Try.underlying28 rfl sizeRo ⟨by rw [HX.out], below_setRow HB5.out (by omega) _⟩
    · replace HC := Box.mk (cells_yes HC.out rfl)
      obtain ⟨rfl, rfl, rfl⟩ : t2 = 0 ∧ e2 = 0 ∧ a2 = 0 := by have := HTC.out rfl; simp only [Wn.mk.injEq] at this; exact this
      clear HTC
      have q0 := HP5.out.cell (i := 0) (v := .slice a p.ws.length c) rfl
      have q1 := HP5.out.cell (i := 1) (v := .int .i64 p.ms) rfl
      have q2 := HP5.out.cell (i := 2) (v := .int .i64 p.num) rfl
      have q3 := HP5.out.cell (i := 3) (v := .int .i64 p.den) rfl
      have q4 := HP5.out.cell (i := 4) (v := .int .i64 p.hold) rfl
      have q5 := HP5.out.cell (i := 5) (v := .int .i64 p.win) rfl
      have o0 := HO5.out.cell (i := 0) (v := .int .i64 tot) rfl
      have o1 := HO5.out.cell (i := 1) (v := .int .i64 err) rfl
      have o2 := HO5.out.cell (i := 2) (v := .int .i64 age) rfl
      go_wp2_with fail
      refine (refVerdict_any p a c ⟨tot, err, age⟩ W5 HI5.out).mono ?_
      rintro e w6 ⟨rfl, hb6⟩
      generalize verdV p ⟨tot, err, age⟩ = vd at *
      have HB6 := Box.mk (below_trans HB5.out hb6)
      have HV6 := Box.mk (HV5.out.keep hb6)
      have HP6 := Box.mk (HP5.out.keep hb6)
      have HU6 := Box.mk (HU5.out.keep hb6)
      clear hb6 HB5 HV5 HP5 HU5 HO5 HI5 HI0 c0 c1 c2 c3 c4 c5 q0 q1 q2 q3 q4 q5 o0 o1 o2
      by_cases v3 : vd = 3
      · subst v3
        have HX := Box.mk (show cs = #[.int .i64 3, .int .i64 0, .int .i64 0, .int .i64 0, .int .i64 0, .int .i64 0] from cells_yes HC.out rfl)
        clear HC
        go_wp2_with (refine wpList_store_row rfl 28 _ _ rfl (w.heap.size + 2) #[.int .i64 3, .int .i64 0, .int .i64 0, .int .i64 0, .int .i64 0, .int .i64 0] rfl rfl 28 _ HU6.out sizeRo rfl (oneRo ..) ?_)
        (try simp only [Exit.inBlock, Exit.then])
        refine ret_rowQ (cs := #[.int .i64 3, .int .i64 0, .int .i64 0, .int .i64 0, .int .i64 0, .int .i64 0]) rfl rfl rfl (setRow_heap _ _ _ _ _ _ HU6.out) Try.underlying28 rfl sizeRo ⟨by rw [HX.out], below_setRow HB6.out (by omega) _⟩
      · replace HC := Box.mk (cells_no HC.out v3)
        have e3 := beq_i_no v3
        by_cases v1 : vd = 1
        · subst v1
          have HX := Box.mk (show cs = #[.int .i64 st, .int .i64 stage, .int .i64 0, .int .i64 0, .int .i64 0, .int .i64 0] from cells_yes HC.out rfl)
          clear HC
          have c2 := HV6.out.cell (i := 2) (v := .int .i64 healthy) rfl
          have hf := HV6.out.frozen (i := 2)
          obtain ⟨W7, hW7⟩ : ∃ W7, W7 = w6.setCell ⟨w.heap.size, 2, none⟩ (.int .i64 0) := ⟨_, rfl⟩
          have HB7 := Box.mk (show Below w.heap.size w W7 by rw [hW7]; exact HB6.out.setCell (Nat.le_refl _) _)
          have HV7 := Box.mk (show VarA W7 w.heap.size #[.int .i64 st, .int .i64 stage, .int .i64 0, .int .i64 0, .int .i64 0, .int .i64 0] 28 by rw [hW7]; exact HV6.out.set)
          have HU7 := Box.mk (show VarA W7 (w.heap.size + 2) #[.int .i64 0, .int .i64 0, .int .i64 0, .int .i64 0, .int .i64 0, .int .i64 0] 28 by rw [hW7]; exact HU6.out.other (by show w.heap.size + 2 ≠ w.heap.size; omega))
          go_upto_region 20 with fail
          change Code.wp _ _ _ _ (w6.setCell ⟨w.heap.size, 2, none⟩ (.int .i64 0))
          rw [← hW7]
          clear hW7 c2 hf
          have c0 := HV7.out.cell (i := 0) (v := .int .i64 st) rfl
          have c1 := HV7.out.cell (i := 1) (v := .int .i64 stage) rfl
          have c2 := HV7.out.cell (i := 2) (v := .int .i64 0) rfl
          have c3 := HV7.out.cell (i := 3) (v := .int .i64 0) rfl
          have c4 := HV7.out.cell (i := 4) (v := .int .i64 0) rfl
          have c5 := HV7.out.cell (i := 5) (v := .int .i64 0) rfl
          go_wp2_with (refine wpList_store_row rfl 28 _ _ rfl (w.heap.size + 2) #[.int .i64 st, .int .i64 stage, .int .i64 0, .int .i64 0, .int .i64 0, .int .i64 0] rfl rfl 28 _ HU7.out sizeRo rfl (oneRo ..) ?_)
          (try simp only [Exit.inBlock, Exit.then])
          refine ret_rowQ (cs := #[.int .i64 st, .int .i64 stage, .int .i64 0, .int .i64 0, .int .i64 0, .int .i64 0]) rfl rfl rfl (setRow_heap _ _ _ _ _ _ HU7.out) Try.underlying28 rfl sizeRo ⟨by rw [HX.out], below_setRow HB7.out (by omega) _⟩
        · replace HC := Box.mk (cells_no HC.out v1)
          have e1 := beq_i_no v1
          by_cases v2 : vd = 2
          · subst v2
            replace HC := Box.mk (cells_yes HC.out rfl)
            have c2 := HV6.out.cell (i := 2) (v := .int .i64 healthy) rfl
            have hf := HV6.out.frozen (i := 2)
            obtain ⟨W7, hW7⟩ : ∃ W7, W7 = w6.setCell ⟨w.heap.size, 2, none⟩ (.int .i64 (healthy + 1)) := ⟨_, rfl⟩
            have HB7 := Box.mk (show Below w.heap.size w W7 by rw [hW7]; exact HB6.out.setCell (Nat.le_refl _) _)
            have HV7 := Box.mk (show VarA W7 w.heap.size #[.int .i64 st, .int .i64 stage, .int .i64 (healthy + 1), .int .i64 0, .int .i64 0, .int .i64 0] 28 by rw [hW7]; exact HV6.out.set)
            have HU7 := Box.mk (show VarA W7 (w.heap.size + 2) #[.int .i64 0, .int .i64 0, .int .i64 0, .int .i64 0, .int .i64 0, .int .i64 0] 28 by rw [hW7]; exact HU6.out.other (by show w.heap.size + 2 ≠ w.heap.size; omega))
            have HP7 := Box.mk (show VarA W7 (w.heap.size + 1) (PlC a c p) 30 by rw [hW7]; exact HP6.out.other (by show w.heap.size + 1 ≠ w.heap.size; omega))
            go_upto_region 15 with fail
            change Code.wp _ _ _ _ (w6.setCell ⟨w.heap.size, 2, none⟩ (.int .i64 (healthy + 1)))
            rw [← hW7]
            clear hW7 c2 hf HV6 HU6 HP6 HB6
            have c1 := HV7.out.cell (i := 1) (v := .int .i64 stage) rfl
            have c2 := HV7.out.cell (i := 2) (v := .int .i64 (healthy + 1)) rfl
            have q0 := HP7.out.cell (i := 0) (v := .slice a p.ws.length c) rfl
            have q4 := HP7.out.cell (i := 4) (v := .int .i64 p.hold) rfl
            by_cases h4 : healthy + 1 = p.hold
            · replace HC := Box.mk (cells_yes HC.out h4)
              have d4 := beq_i_yes h4
              clear h4
              have hf := HV7.out.frozen (i := 2)
              obtain ⟨W8, hW8⟩ : ∃ W8, W8 = W7.setCell ⟨w.heap.size, 2, none⟩ (.int .i64 0) := ⟨_, rfl⟩
              have HB8 := Box.mk (show Below w.heap.size w W8 by rw [hW8]; exact HB7.out.setCell (Nat.le_refl _) _)
              have HV8 := Box.mk (show VarA W8 w.heap.size #[.int .i64 st, .int .i64 stage, .int .i64 0, .int .i64 0, .int .i64 0, .int .i64 0] 28 by rw [hW8]; exact HV7.out.set)
              have HU8 := Box.mk (show VarA W8 (w.heap.size + 2) #[.int .i64 0, .int .i64 0, .int .i64 0, .int .i64 0, .int .i64 0, .int .i64 0] 28 by rw [hW8]; exact HU7.out.other (by show w.heap.size + 2 ≠ w.heap.size; omega))
              have HP8 := Box.mk (show VarA W8 (w.heap.size + 1) (PlC a c p) 30 by rw [hW8]; exact HP7.out.other (by show w.heap.size + 1 ≠ w.heap.size; omega))
              go_upto_region 17 with fail
              change Code.wp _ _ _ _ (W7.setCell ⟨w.heap.size, 2, none⟩ (.int .i64 0))
              rw [← hW8]
              clear hW8 c1 c2 hf q0 q4 HV7 HU7 HP7 HB7
              have c1 := HV8.out.cell (i := 1) (v := .int .i64 stage) rfl
              have hf := HV8.out.frozen (i := 1)
              obtain ⟨W9, hW9⟩ : ∃ W9, W9 = W8.setCell ⟨w.heap.size, 1, none⟩ (.int .i64 (stage + 1)) := ⟨_, rfl⟩
              have HB9 := Box.mk (show Below w.heap.size w W9 by rw [hW9]; exact HB8.out.setCell (Nat.le_refl _) _)
              have HV9 := Box.mk (show VarA W9 w.heap.size #[.int .i64 st, .int .i64 (stage + 1), .int .i64 0, .int .i64 0, .int .i64 0, .int .i64 0] 28 by rw [hW9]; exact HV8.out.set)
              have HU9 := Box.mk (show VarA W9 (w.heap.size + 2) #[.int .i64 0, .int .i64 0, .int .i64 0, .int .i64 0, .int .i64 0, .int .i64 0] 28 by rw [hW9]; exact HU8.out.other (by show w.heap.size + 2 ≠ w.heap.size; omega))
              have HP9 := Box.mk (show VarA W9 (w.heap.size + 1) (PlC a c p) 30 by rw [hW9]; exact HP8.out.other (by show w.heap.size + 1 ≠ w.heap.size; omega))
              go_upto_region 18 with fail
              change Code.wp _ _ _ _ (W8.setCell ⟨w.heap.size, 1, none⟩ (.int .i64 (stage + 1)))
              rw [← hW9]
              clear hW9 c1 hf HV8 HU8 HP8 HB8
              have q0 := HP9.out.cell (i := 0) (v := .slice a p.ws.length c) rfl
              have c1 := HV9.out.cell (i := 1) (v := .int .i64 (stage + 1)) rfl
              by_cases h5 : stage + 1 = p.ws.length
              · have HX := Box.mk (show cs = #[.int .i64 2, .int .i64 0, .int .i64 0, .int .i64 0, .int .i64 0, .int .i64 0] from cells_yes HC.out h5)
                have d5 := beq_i_yes h5
                clear HC h5
                go_wp2_with (refine wpList_store_row rfl 28 _ _ rfl (w.heap.size + 2) #[.int .i64 2, .int .i64 0, .int .i64 0, .int .i64 0, .int .i64 0, .int .i64 0] rfl rfl 28 _ HU9.out sizeRo rfl (oneRo ..) ?_)
                (try simp only [Exit.inBlock, Exit.then])
                refine ret_rowQ (cs := #[.int .i64 2, .int .i64 0, .int .i64 0, .int .i64 0, .int .i64 0, .int .i64 0]) rfl rfl rfl (setRow_heap _ _ _ _ _ _ HU9.out) Try.underlying28 rfl sizeRo ⟨by rw [HX.out], below_setRow HB9.out (by omega) _⟩
              · have HX := Box.mk (show cs = #[.int .i64 st, .int .i64 (stage + 1), .int .i64 0, .int .i64 0, .int .i64 0, .int .i64 0] from cells_no HC.out h5)
                have d5 := beq_i_no h5
                clear HC h5 c1
                have c0 := HV9.out.cell (i := 0) (v := .int .i64 st) rfl
                have c1 := HV9.out.cell (i := 1) (v := .int .i64 (stage + 1)) rfl
                have c2 := HV9.out.cell (i := 2) (v := .int .i64 0) rfl
                have c3 := HV9.out.cell (i := 3) (v := .int .i64 0) rfl
                have c4 := HV9.out.cell (i := 4) (v := .int .i64 0) rfl
                have c5 := HV9.out.cell (i := 5) (v := .int .i64 0) rfl
                go_wp2_with (refine wpList_store_row rfl 28 _ _ rfl (w.heap.size + 2) #[.int .i64 st, .int .i64 (stage + 1), .int .i64 0, .int .i64 0, .int .i64 0, .int .i64 0] rfl rfl 28 _ HU9.out sizeRo rfl (oneRo ..) ?_)
                (try simp only [Exit.inBlock, Exit.then])
                refine ret_rowQ (cs := #[.int .i64 st, .int .i64 (stage + 1), .int .i64 0, .int .i64 0, .int .i64 0, .int .i64 0]) rfl rfl rfl (setRow_heap _ _ _ _ _ _ HU9.out) Try.underlying28 rfl sizeRo ⟨by rw [HX.out], below_setRow HB9.out (by omega) _⟩
            · have HX := Box.mk (show cs = #[.int .i64 st, .int .i64 stage, .int .i64 (healthy + 1), .int .i64 0, .int .i64 0, .int .i64 0] from cells_no HC.out h4)
              have d4 := beq_i_no h4
              clear HC h4 c1 q0
              have c0 := HV7.out.cell (i := 0) (v := .int .i64 st) rfl
              have c1 := HV7.out.cell (i := 1) (v := .int .i64 stage) rfl
              have c3 := HV7.out.cell (i := 3) (v := .int .i64 0) rfl
              have c4 := HV7.out.cell (i := 4) (v := .int .i64 0) rfl
              have c5 := HV7.out.cell (i := 5) (v := .int .i64 0) rfl
              go_wp2_with (refine wpList_store_row rfl 28 _ _ rfl (w.heap.size + 2) #[.int .i64 st, .int .i64 stage, .int .i64 (healthy + 1), .int .i64 0, .int .i64 0, .int .i64 0] rfl rfl 28 _ HU7.out sizeRo rfl (oneRo ..) ?_)
              (try simp only [Exit.inBlock, Exit.then])
              refine ret_rowQ (cs := #[.int .i64 st, .int .i64 stage, .int .i64 (healthy + 1), .int .i64 0, .int .i64 0, .int .i64 0]) rfl rfl rfl (setRow_heap _ _ _ _ _ _ HU7.out) Try.underlying28 rfl sizeRo ⟨by rw [HX.out], below_setRow HB7.out (by omega) _⟩
          · have HX := Box.mk (show cs = #[.int .i64 st, .int .i64 stage, .int .i64 healthy, .int .i64 0, .int .i64 0, .int .i64 0] from cells_no HC.out v2)
            have e2 := beq_i_no v2
            clear HC v1 v2 v3
            have c0 := HV6.out.cell (i := 0) (v := .int .i64 st) rfl
            have c1 := HV6.out.cell (i := 1) (v := .int .i64 stage) rfl
            have c2 := HV6.out.cell (i := 2) (v := .int .i64 healthy) rfl
            have c3 := HV6.out.cell (i := 3) (v := .int .i64 0) rfl
            have c4 := HV6.out.cell (i := 4) (v := .int .i64 0) rfl
            have c5 := HV6.out.cell (i := 5) (v := .int .i64 0) rfl
            go_wp2_with (refine wpList_store_row rfl 28 _ _ rfl (w.heap.size + 2) #[.int .i64 st, .int .i64 stage, .int .i64 healthy, .int .i64 0, .int .i64 0, .int .i64 0] rfl rfl 28 _ HU6.out sizeRo rfl (oneRo ..) ?_)
            (try simp only [Exit.inBlock, Exit.then])
            refine ret_rowQ (cs := #[.int .i64 st, .int .i64 stage, .int .i64 healthy, .int .i64 0, .int .i64 0, .int .i64 0]) rfl rfl rfl (setRow_heap _ _ _ _ _ _ HU6.out) Try.underlying28 rfl sizeRo ⟨by rw [HX.out], below_setRow HB6.out (by omega) _⟩
  · have d1 := bne_i_yes h1
    have HX := Box.mk (show cs = #[.int .i64 st, .int .i64 stage, .int .i64 healthy, .int .i64 tot, .int .i64 err, .int .i64 age] by rw [HC.out, if_neg h1]; rfl)
    clear HC h1
    go_wp2_with (refine wpList_store_row rfl 28 _ _ rfl (w.heap.size + 2) #[.int .i64 st, .int .i64 stage, .int .i64 healthy, .int .i64 tot, .int .i64 err, .int .i64 age] rfl rfl 28 _ HU.out sizeRo rfl (oneRo ..) ?_)
    (try simp only [Exit.inBlock, Exit.then])
    refine ret_rowQ (cs := #[.int .i64 st, .int .i64 stage, .int .i64 healthy, .int .i64 tot, .int .i64 err, .int .i64 age]) rfl rfl rfl (setRow_heap _ _ _ _ _ _ HU.out) Try.underlying28 rfl sizeRo ⟨by rw [HX.out], below_setRow HB.out (by omega) _⟩
end Go.Proofs.Ytfjnpegpfmaekaa
namespace Go.Proofs.Ytfjnpegpfmaekaa
open Go.RowKit

section
variable {P : Program} {Q : Exit → Act → World → Prop} {act : Act} {w : World} {o : Oper} {s : Spec}
theorem run_loadVar_rowG (w : World) (p : Addr) (ty : TypeId) (cs : Array Value) (d : TypeDesc) (hc : ∀ (j : Nat) (v : Value), cs[j]? = some v → w.cell? (p.add j) = some v)
    (hu : P.underlying ty = some d) (hd : (match d with | .struct _ | .array _ _ => true | _ => false) = true) (hi : (P.info? ty).map (·.size) = some cs.size) :
    (loadVar ty p).run P w = .ok (.agg cs) w := by
  have hl : (loadCells p cs.toList.length).run P w = .ok cs.toList.toArray w :=
    run_loadCells_list (P := P) w p cs.toList (fun j v hv => hc j v (by simpa using hv))
  cases hq : P.info? ty with
  | none => simp [hq] at hi
  | some i =>
    have hs : i.size = cs.size := by simpa [hq] using hi
    have hagg : (isAgg ty).run P w = .ok true w := by
      unfold isAgg
      rw [Sem.run_bind, run_underlying hu w]
      cases d <;> simp_all
    simp only [Array.length_toList, Array.toArray_toList] at hl
    simp [loadVar, Sem.run_bind, hagg, sizeOf, typeInfo, hq, hs, hl]
/-- A struct, loaded from where its cells are. -/
theorem loc_load_rowG {x : Operand} {ty : TypeId} (ho : o.op = .load ty x) {p : Addr} {cs : Array Value} {d : TypeDesc} (hx : act.eval x = .pointer (some p)) (hc : ∀ (j : Nat) (v : Value), cs[j]? = some v → w.cell? (p.add j) = some v)
    (hu : P.underlying ty = some d) (hd : (match d with | .struct _ | .array _ _ => true | _ => false) = true) (hi : (P.info? ty).map (·.size) = some cs.size) (hs : s.p (.agg cs) w) :
    o.wp P act w (fun a' w' => ∃ v, a' = act.put o.dst v ∧ Below w.heap.size w w' ∧ s.p v w') Q :=
  loc_load ho (v := .agg cs) (by rw [hx]; simp only [Instr.loadAt, Instr.sureAddr, Sem.run_bind, Sem.run_pure, Result.andThen_ok, run_loadVar_rowG w p ty cs d hc hu hd hi]) hs
/-- The address of an element. -/
theorem loc_index_G {x y : Operand} {ty : TypeId} (n : Nat) (ho : o.op = .indexAddr ty x y) {ad : Addr} {len c k : Nat} (hx : act.eval x = .slice (some ad) len c) (hy : act.eval y = .int .i64 k) (hk : k < len)
    (hsl : P.underlying ty = some (.slice (P.elem ty))) (es : (P.info? (P.elem ty)).map (·.size) = some n) (hs : s.p (.pointer (some (ad.add (k * n)))) w) :
    o.wp P act w (fun a' w' => ∃ v, a' = act.put o.dst v ∧ Below w.heap.size w w' ∧ s.p v w') Q :=
  loc_run (v := .pointer (some (ad.add (k * n)))) (by
    have es' : (sizeOf (P.elem ty)).run P w = .ok n w := by
      cases hq : P.info? (P.elem ty) with
      | none => rw [hq] at es; cases es
      | some i => rw [hq] at es; simp at es; simp [sizeOf, typeInfo, hq, es]
    have h := run_indexAt_slice (P := P) (w := w) ty ad len c .i64 (k : Int) hsl
    rw [if_pos ⟨by omega, by omega⟩, es'] at h
    simp only [Result.andThen_ok, Int.toNat_natCast] at h
    unfold execOp
    simp only [ho, hx, hy, Sem.run_bind, h, Result.andThen_ok, Sem.run_pure]) (Below.refl _ _) hs
/-- The address of a field. -/
theorem loc_field_G {x : Operand} {ty : TypeId} {i : Nat} (ho : o.op = .fieldAddr ty x i) {v u : Value} (hx : act.eval x = v) (h : (Instr.fieldAt ty v i).run P w = .ok u w) (hs : s.p u w) :
    o.wp P act w (fun a' w' => ∃ v, a' = act.put o.dst v ∧ Below w.heap.size w w' ∧ s.p v w') Q :=
  loc_run (v := u) (by unfold execOp; rw [ho]; simp only [hx, Sem.run_bind, h, Result.andThen_ok, Sem.run_pure]) (Below.refl _ _) hs
/-- One cell, loaded. -/
theorem loc_load_cellG {x : Operand} {ty : TypeId} (ho : o.op = .load ty x) {p : Addr} {v : Value} (hx : act.eval x = .pointer (some p)) (hc : w.cell? p = some v) (ht : ∀ w, (isAgg ty).run P w = .ok false w) (hs : s.p v w) :
    o.wp P act w (fun a' w' => ∃ v, a' = act.put o.dst v ∧ Below w.heap.size w w' ∧ s.p v w') Q :=
  loc_load ho (v := v) (by rw [hx]; simp [Instr.loadAt, Instr.sureAddr, loadVar, hc, ht]) hs
end
theorem wpList_load_rowP {P : Program} {ops : Array Oper} {rest : List Oper} {o : Oper} {a : Act} {w : World} {Q : Exit → Act → World → Prop} (hgd : o.guard = none) (ty : TypeId) (x : Operand) (ho : o.op = .load ty x) (p : Addr) (cs : Array Value) (d : TypeDesc) (hx : a.eval x = .pointer (some p)) (hc : ∀ (j : Nat) (v : Value), cs[j]? = some v → w.cell? (p.add j) = some v)
    (hu : P.underlying ty = some d) (hd : (match d with | .struct _ | .array _ _ => true | _ => false) = true) (hi : (P.info? ty).map (·.size) = some cs.size) (h : wpList P ops Q rest (a.put o.dst (.agg cs)) w) : wpList P ops Q (o :: rest) a w :=
  wpList_plain hgd fun _ hK => by
    unfold Oper.wp execOp
    simp only [ho, hx, Instr.loadAt, Instr.sureAddr, Sem.run_bind, Sem.run_pure, Result.andThen_ok, run_loadVar_rowG w p ty cs d hc hu hd hi]
    exact hK _ _ h
end Go.Proofs.Ytfjnpegpfmaekaa
namespace Go.Proofs.Ytfjnpegpfmaekaa
open Go.RowKit
set_option linter.unusedSimpArgs false

def stepV (r : Ro) (p : Pl) (x : Int × Int) : Ro :=
  if x.1 = 1 then tickR r p else if x.1 = 2 then obsV r false else if x.1 = 3 then obsV r true else if x.1 = 4 then (if (cmdV r x.2).2 = 0 then (cmdV r x.2).1 else r) else r
theorem oneRoC (r : Ro) : r.cells.all (·.oneCell') = true := oneRo ..
theorem sizeRoC (r : Ro) : (Try.prog.info? 28).map (·.size) = some r.cells.size := sizeRo
set_option maxRecDepth 10000 in
set_option maxHeartbeats 8000000 in
theorem refRStep_any (r : Ro) (p : Pl) (x : Int × Int) (a : Option Addr) (c : Nat) (w : World) (h : IsInts w a p.ws c) (hr : r.rng) (hs : r.stage ≤ 1000000) (hh : r.healthy ≤ 1000000) (hwin : p.win ≤ 9223372036854775807) :
    Calls Try.prog 17 #[.agg r.cells, PlV a c p, .agg #[.int .i64 x.1, .int .i64 x.2]] w fun e w' => e = .returned (.agg (stepV r p x).cells) ∧ Below w.heap.size w w' := by
  obtain ⟨kd, cm⟩ := x
  obtain ⟨cs, hcs⟩ : ∃ y, y = (stepV r p (kd, cm)).cells := ⟨_, rfl⟩
  rw [← hcs]
  have HA := Box.mk (And.intro hr (And.intro hs hh))
  unfold stepV at hcs
  simp only at hcs ⊢
  have HC := Box.mk hcs
  clear hcs hr hs hh
  obtain ⟨st, stage, healthy, ⟨tot, err, age⟩⟩ := r
  have HAR := Box.mk (show Value.agg #[.int .i64 st, .int .i64 stage, .int .i64 healthy, .int .i64 tot, .int .i64 err, .int .i64 age] = .agg (Ro.cells ⟨st, stage, healthy, ⟨tot, err, age⟩⟩) from rfl)
  obtain ⟨W, hW⟩ : ∃ W, W = (((w.alloc (.cells #[.int .i64 st, .int .i64 stage, .int .i64 healthy, .int .i64 tot, .int .i64 err, .int .i64 age] 28)).alloc (.cells (PlC a c p) 30)).alloc (.cells #[.int .i64 kd, .int .i64 cm] 24)).alloc (.cells #[.int .i64 0, .int .i64 0, .int .i64 0, .int .i64 0, .int .i64 0, .int .i64 0] 28) := ⟨_, rfl⟩
  have HB := Box.mk (show Below w.heap.size w W by rw [hW]; exact below_twoF (below_twoF (below_twoF (below_oneF w _) _) _) _)
  have HV := Box.mk (show VarA W w.heap.size #[.int .i64 st, .int .i64 stage, .int .i64 healthy, .int .i64 tot, .int .i64 err, .int .i64 age] 28 by rw [hW]; exact (((VarA.new _ _ _).below _).below _).below _)
  have HP := Box.mk (show VarA W (w.heap.size + 1) (PlC a c p) 30 by rw [hW]; have := ((VarA.new (w.alloc (.cells #[.int .i64 st, .int .i64 stage, .int .i64 healthy, .int .i64 tot, .int .i64 err, .int .i64 age] 28)) (PlC a c p) 30).below (.cells #[.int .i64 kd, .int .i64 cm] 24)).below (.cells #[.int .i64 0, .int .i64 0, .int .i64 0, .int .i64 0, .int .i64 0, .int .i64 0] 28); rw [World.size_alloc] at this; exact this)
  have HX := Box.mk (show VarA W (w.heap.size + 2) #[.int .i64 kd, .int .i64 cm] 24 by rw [hW]; have := (VarA.new ((w.alloc (.cells #[.int .i64 st, .int .i64 stage, .int .i64 healthy, .int .i64 tot, .int .i64 err, .int .i64 age] 28)).alloc (.cells (PlC a c p) 30)) #[.int .i64 kd, .int .i64 cm] 24).below (.cells #[.int .i64 0, .int .i64 0, .int .i64 0, .int .i64 0, .int .i64 0, .int .i64 0] 28); rw [World.size_alloc, World.size_alloc] at this; exact this)
  have HU := Box.mk (show VarA W (w.heap.size + 3) #[.int .i64 0, .int .i64 0, .int .i64 0, .int .i64 0, .int .i64 0, .int .i64 0] 28 by rw [hW]; have := VarA.new (((w.alloc (.cells #[.int .i64 st, .int .i64 stage, .int .i64 healthy, .int .i64 tot, .int .i64 err, .int .i64 age] 28)).alloc (.cells (PlC a c p) 30)).alloc (.cells #[.int .i64 kd, .int .i64 cm] 24)) #[.int .i64 0, .int .i64 0, .int .i64 0, .int .i64 0, .int .i64 0, .int .i64 0] 28; rw [World.size_alloc, World.size_alloc, World.size_alloc] at this; exact this)
  have HI := Box.mk (h.keepP HB.out)
  clear h
  unfold PlV Ro.cells
  simp only
  go_enter Try.func17, Try.ntmps17
  go_upto_region 1 with fail
  change Code.wp _ _ _ _ ((((w.alloc (.cells #[.int .i64 st, .int .i64 stage, .int .i64 healthy, .int .i64 tot, .int .i64 err, .int .i64 age] 28)).alloc (.cells (PlC a c p) 30)).alloc (.cells #[.int .i64 kd, .int .i64 cm] 24)).alloc (.cells #[.int .i64 0, .int .i64 0, .int .i64 0, .int .i64 0, .int .i64 0, .int .i64 0] 28))
  rw [← hW]
  clear hW
  have c0 := HV.out.cell (i := 0) (v := .int .i64 st) rfl
  have c1 := HV.out.cell (i := 1) (v := .int .i64 stage) rfl
  have c2 := HV.out.cell (i := 2) (v := .int .i64 healthy) rfl
  have c3 := HV.out.cell (i := 3) (v := .int .i64 tot) rfl
  have c4 := HV.out.cell (i := 4) (v := .int .i64 err) rfl
  have c5 := HV.out.cell (i := 5) (v := .int .i64 age) rfl
  have x0 := HX.out.cell (i := 0) (v := .int .i64 kd) rfl
  have x1 := HX.out.cell (i := 1) (v := .int .i64 cm) rfl
  by_cases k1 : kd = 1
  · have e1 := beq_i_yes k1
    replace HC := Box.mk (cells_yes HC.out k1)
    have q0 := HP.out.cell (i := 0) (v := .slice a p.ws.length c) rfl
    have q1 := HP.out.cell (i := 1) (v := .int .i64 p.ms) rfl
    have q2 := HP.out.cell (i := 2) (v := .int .i64 p.num) rfl
    have q3 := HP.out.cell (i := 3) (v := .int .i64 p.den) rfl
    have q4 := HP.out.cell (i := 4) (v := .int .i64 p.hold) rfl
    have q5 := HP.out.cell (i := 5) (v := .int .i64 p.win) rfl
    clear k1
    go_wp2_with fail
    refine (refTick_any ⟨st, stage, healthy, ⟨tot, err, age⟩⟩ p a c W HI.out HA.out.1 HA.out.2.1 HA.out.2.2 hwin).mono ?_
    rintro e w1 ⟨rfl, hb⟩
    have HU1 := Box.mk (HU.out.keep hb)
    have HB1 := Box.mk (below_trans HB.out hb)
    clear hb c0 c1 c2 c3 c4 c5 x0 x1
    generalize (tickR ⟨st, stage, healthy, ⟨tot, err, age⟩⟩ p) = rr at *
    go_wp2_with (refine wpList_store_row rfl 28 _ _ rfl (w.heap.size + 3) rr.cells rfl rfl 28 _ HU1.out (sizeRoC rr) rfl (oneRoC rr) ?_)
    (try simp only [Exit.inBlock, Exit.then])
    refine ret_rowQ (cs := rr.cells) rfl rfl rfl (setRow_heap _ _ _ _ _ _ HU1.out) Try.underlying28 rfl (sizeRoC rr) ⟨by rw [HC.out], below_setRow HB1.out (by omega) _⟩
  · have e1 := beq_i_no k1
    replace HC := Box.mk (cells_no HC.out k1)
    by_cases k2 : kd = 2
    · have e2 := beq_i_yes k2
      have e3 := beq_i_no (show ¬ kd = 3 by omega)
      replace HC := Box.mk (cells_yes HC.out k2)
      clear k1 k2
      go_wp2_with fail
      refine (refObserve_any ⟨st, stage, healthy, ⟨tot, err, age⟩⟩ false W HA.out.1).mono ?_
      rintro e w1 ⟨rfl, hb⟩
      have HU1 := Box.mk (HU.out.keep hb)
      have HB1 := Box.mk (below_trans HB.out hb)
      clear hb c0 c1 c2 c3 c4 c5 x0 x1
      generalize (obsV ⟨st, stage, healthy, ⟨tot, err, age⟩⟩ false) = rr at *
      go_wp2_with (refine wpList_store_row rfl 28 _ _ rfl (w.heap.size + 3) rr.cells rfl rfl 28 _ HU1.out (sizeRoC rr) rfl (oneRoC rr) ?_)
      (try simp only [Exit.inBlock, Exit.then])
      refine ret_rowQ (cs := rr.cells) rfl rfl rfl (setRow_heap _ _ _ _ _ _ HU1.out) Try.underlying28 rfl (sizeRoC rr) ⟨by rw [HC.out], below_setRow HB1.out (by omega) _⟩
    · have e2 := beq_i_no k2
      replace HC := Box.mk (cells_no HC.out k2)
      by_cases k3 : kd = 3
      · have e3 := beq_i_yes k3
        replace HC := Box.mk (cells_yes HC.out k3)
        clear k1 k2 k3
        go_wp2_with fail
        refine (refObserve_any ⟨st, stage, healthy, ⟨tot, err, age⟩⟩ true W HA.out.1).mono ?_
        rintro e w1 ⟨rfl, hb⟩
        have HU1 := Box.mk (HU.out.keep hb)
        have HB1 := Box.mk (below_trans HB.out hb)
        clear hb c0 c1 c2 c3 c4 c5 x0 x1
        generalize (obsV ⟨st, stage, healthy, ⟨tot, err, age⟩⟩ true) = rr at *
        go_wp2_with (refine wpList_store_row rfl 28 _ _ rfl (w.heap.size + 3) rr.cells rfl rfl 28 _ HU1.out (sizeRoC rr) rfl (oneRoC rr) ?_)
        (try simp only [Exit.inBlock, Exit.then])
        refine ret_rowQ (cs := rr.cells) rfl rfl rfl (setRow_heap _ _ _ _ _ _ HU1.out) Try.underlying28 rfl (sizeRoC rr) ⟨by rw [HC.out], below_setRow HB1.out (by omega) _⟩
      · have e3 := beq_i_no k3
        replace HC := Box.mk (cells_no HC.out k3)
        by_cases k4 : kd = 4
        · have e4 := beq_i_yes k4
          replace HC := Box.mk (cells_yes HC.out k4)
          clear k1 k2 k3 k4
          go_wp2_with fail
          refine (refCommand_any ⟨st, stage, healthy, ⟨tot, err, age⟩⟩ cm W).mono ?_
          rintro e w1 ⟨he, hb⟩
          generalize cmdV ⟨st, stage, healthy, ⟨tot, err, age⟩⟩ cm = cv at *
          obtain ⟨⟨s2, g2, h2, ⟨t2, e2', a2⟩⟩, er⟩ := cv
          simp only [Ro.cells] at he
          subst he
          simp only at HC
          have HB1 := Box.mk (below_trans HB.out hb)
          have HV1 := Box.mk (HV.out.keep hb)
          have HU1 := Box.mk (HU.out.keep hb)
          clear hb HV HU HP HX HI HB c0 c1 c2 c3 c4 c5 x0 x1
          obtain ⟨W5, hW5⟩ : ∃ W5, W5 = w1.alloc (.cells #[.int .i64 s2, .int .i64 g2, .int .i64 h2, .int .i64 t2, .int .i64 e2', .int .i64 a2] 28) := ⟨_, rfl⟩
          have HB5 := Box.mk (show Below w.heap.size w W5 by rw [hW5]; exact below_twoF HB1.out _)
          have HV5 := Box.mk (show VarA W5 w.heap.size #[.int .i64 st, .int .i64 stage, .int .i64 healthy, .int .i64 tot, .int .i64 err, .int .i64 age] 28 by rw [hW5]; exact HV1.out.below _)
          have HU5 := Box.mk (show VarA W5 (w.heap.size + 3) #[.int .i64 0, .int .i64 0, .int .i64 0, .int .i64 0, .int .i64 0, .int .i64 0] 28 by rw [hW5]; exact HU1.out.below _)
          have HS5 := Box.mk (show VarA W5 w1.heap.size #[.int .i64 s2, .int .i64 g2, .int .i64 h2, .int .i64 t2, .int .i64 e2', .int .i64 a2] 28 by rw [hW5]; exact VarA.new _ _ _)
          clear HV1 HU1 HB1
          go_upto_region 9 with fail
          change Code.wp _ _ _ _ (w1.alloc (.cells #[.int .i64 s2, .int .i64 g2, .int .i64 h2, .int .i64 t2, .int .i64 e2', .int .i64 a2] 28))
          rw [← hW5]
          clear hW5
          by_cases hz : er = 0
          · have ez := beq_i_yes hz
            have HX := Box.mk (show cs = #[.int .i64 s2, .int .i64 g2, .int .i64 h2, .int .i64 t2, .int .i64 e2', .int .i64 a2] from cells_yes HC.out hz)
            clear HC hz
            have d0 := HS5.out.cell (i := 0) (v := .int .i64 s2) rfl
            have d1 := HS5.out.cell (i := 1) (v := .int .i64 g2) rfl
            have d2 := HS5.out.cell (i := 2) (v := .int .i64 h2) rfl
            have d3 := HS5.out.cell (i := 3) (v := .int .i64 t2) rfl
            have d4 := HS5.out.cell (i := 4) (v := .int .i64 e2') rfl
            have d5 := HS5.out.cell (i := 5) (v := .int .i64 a2) rfl
            go_wp2_with (refine wpList_store_row rfl 28 _ _ rfl (w.heap.size + 3) #[.int .i64 s2, .int .i64 g2, .int .i64 h2, .int .i64 t2, .int .i64 e2', .int .i64 a2] rfl rfl 28 _ HU5.out sizeRo rfl (oneRo ..) ?_)
            (try simp only [Exit.inBlock, Exit.then])
            refine ret_rowQ (cs := #[.int .i64 s2, .int .i64 g2, .int .i64 h2, .int .i64 t2, .int .i64 e2', .int .i64 a2]) rfl rfl rfl (setRow_heap _ _ _ _ _ _ HU5.out) Try.underlying28 rfl sizeRo ⟨by rw [HX.out], below_setRow HB5.out (by omega) _⟩
          · have ez := beq_i_no hz
            have HX := Box.mk (show cs = #[.int .i64 st, .int .i64 stage, .int .i64 healthy, .int .i64 tot, .int .i64 err, .int .i64 age] from cells_no HC.out hz)
            clear HC hz
            have c0 := HV5.out.cell (i := 0) (v := .int .i64 st) rfl
            have c1 := HV5.out.cell (i := 1) (v := .int .i64 stage) rfl
            have c2 := HV5.out.cell (i := 2) (v := .int .i64 healthy) rfl
            have c3 := HV5.out.cell (i := 3) (v := .int .i64 tot) rfl
            have c4 := HV5.out.cell (i := 4) (v := .int .i64 err) rfl
            have c5 := HV5.out.cell (i := 5) (v := .int .i64 age) rfl
            go_wp2_with (refine wpList_store_row rfl 28 _ _ rfl (w.heap.size + 3) #[.int .i64 st, .int .i64 stage, .int .i64 healthy, .int .i64 tot, .int .i64 err, .int .i64 age] rfl rfl 28 _ HU5.out sizeRo rfl (oneRo ..) ?_)
            (try simp only [Exit.inBlock, Exit.then])
            refine ret_rowQ (cs := #[.int .i64 st, .int .i64 stage, .int .i64 healthy, .int .i64 tot, .int .i64 err, .int .i64 age]) rfl rfl rfl (setRow_heap _ _ _ _ _ _ HU5.out) Try.underlying28 rfl sizeRo ⟨by rw [HX.out], below_setRow HB5.out (by omega) _⟩
        · have e4 := beq_i_no k4
          have HX2 := Box.mk (show cs = #[.int .i64 st, .int .i64 stage, .int .i64 healthy, .int .i64 tot, .int .i64 err, .int .i64 age] from cells_no HC.out k4)
          clear k1 k2 k3 k4 HC
          go_wp2_with (refine wpList_store_row rfl 28 _ _ rfl (w.heap.size + 3) #[.int .i64 st, .int .i64 stage, .int .i64 healthy, .int .i64 tot, .int .i64 err, .int .i64 age] rfl rfl 28 _ HU.out sizeRo rfl (oneRo ..) ?_)
          (try simp only [Exit.inBlock, Exit.then])
          refine ret_rowQ (cs := #[.int .i64 st, .int .i64 stage, .int .i64 healthy, .int .i64 tot, .int .i64 err, .int .i64 age]) rfl rfl rfl (setRow_heap _ _ _ _ _ _ HU.out) Try.underlying28 rfl sizeRo ⟨by rw [HX2.out], below_setRow HB.out (by omega) _⟩
end Go.Proofs.Ytfjnpegpfmaekaa
namespace Go.Proofs.Ytfjnpegpfmaekaa
open Go.ChangeShapes Go.WideShapes Go.ChangeAt Go.RowKit

abbrev Inp := Int × Int
/-- The cells of fields. -/
def cellsI (l : List Inp) : List Value := l.flatMap fun f => [.int .i64 f.1, .int .i64 f.2]
theorem cellsI_len (l : List Inp) : (cellsI l).length = l.length * 2 := by
  induction l with
  | nil => rfl
  | cons a t ih =>
    have : cellsI (a :: t) = .int .i64 a.1 :: .int .i64 a.2 :: cellsI t := rfl
    rw [this]; simp only [List.length_cons, ih]; omega
theorem cellsI_app (a b : List Inp) : cellsI (a ++ b) = cellsI a ++ cellsI b := by unfold cellsI; rw [List.flatMap_append]
theorem cellsI_get : ∀ (l : List Inp) (j : Nat) (hj : j < l.length), (cellsI l)[j * 2]? = some (.int .i64 l[j].1) ∧ (cellsI l)[j * 2 + 1]? = some (.int .i64 l[j].2)
  | a :: t, 0, _ => ⟨rfl, rfl⟩
  | a :: t, j + 1, hj => by
    have ih := cellsI_get t j (by simpa using hj)
    have e : cellsI (a :: t) = .int .i64 a.1 :: .int .i64 a.2 :: cellsI t := rfl
    rw [e, show (j + 1) * 2 = j * 2 + 1 + 1 by omega, show j * 2 + 1 + 1 + 1 = (j * 2 + 1) + 1 + 1 by omega]
    simpa using ih
/-- The slice at a holds the fields l. -/
def InpsIn (w : World) (a : Option Addr) (l : List Inp) : Prop :=
  ∀ j (hj : j < l.length), ∃ x, a = some x ∧ w.cell? (x.add (j * 2)) = some (.int .i64 l[j].1) ∧ w.cell? (x.add (j * 2 + 1)) = some (.int .i64 l[j].2)
theorem InpsIn.keep {w w' : World} {a : Option Addr} {l : List Inp} (h : InpsIn w a l) (hb : Below w.heap.size w w') : InpsIn w' a l := fun j hj => by
  obtain ⟨x, e, h1, h2⟩ := h j hj
  exact ⟨x, e, below_cell hb h1, below_cell hb h2⟩
theorem InpsIn.nil (w : World) (a : Option Addr) : InpsIn w a [] := fun _ hj => absurd hj (Nat.not_lt_zero _)
theorem InpsIn.take {w : World} {a : Option Addr} {l : List Inp} (h : InpsIn w a l) (k : Nat) : InpsIn w a (l.take k) := fun j hj => by
  have hj' : j < l.length := by rw [List.length_take] at hj; omega
  obtain ⟨x, e, h1, h2⟩ := h j hj'
  exact ⟨x, e, by rw [List.getElem_take]; exact h1, by rw [List.getElem_take]; exact h2⟩
theorem InpsIn.cells {w : World} {x : Addr} {l : List Inp} (h : InpsIn w (some x) l) : ∀ j u, (cellsI l)[j]? = some u → w.cell? (x.add j) = some u := fun j u hj => by
  have hlt : j < l.length * 2 := by rw [← cellsI_len]; exact (List.getElem?_eq_some_iff.1 hj).1
  have hk : j / 2 < l.length := by omega
  obtain ⟨y, e, h1, h2⟩ := h (j / 2) hk
  obtain rfl := Option.some.inj e
  obtain ⟨g1, g2⟩ := cellsI_get l (j / 2) hk
  rcases Nat.mod_two_eq_zero_or_one j with hm | hm
  · have : j / 2 * 2 = j := by omega
    rw [this] at h1 g1
    rw [hj] at g1; rw [h1, ← g1]
  · have : j / 2 * 2 + 1 = j := by omega
    rw [this] at h2 g2
    rw [hj] at g2; rw [h2, ← g2]
theorem InpsIn.of_cells {w : World} {x : Addr} {l : List Inp} (h : ∀ j u, (cellsI l)[j]? = some u → w.cell? (x.add j) = some u) : InpsIn w (some x) l := fun j hj =>
  ⟨x, rfl, h _ _ (cellsI_get l j hj).1, h _ _ (cellsI_get l j hj).2⟩

theorem run_loadI (w : World) (p : Addr) (n v : Int) (h0 : w.cell? p = some (.int .i64 n)) (h1 : w.cell? (p.add 1) = some (.int .i64 v)) :
    (Instr.loadAt 24 (.pointer (some p))).run Try.prog w = .ok (.agg #[.int .i64 n, .int .i64 v]) w := by
  have hl : (loadCells p 2).run Try.prog w = .ok #[.int .i64 n, .int .i64 v] w :=
    run_loadCells_list (P := Try.prog) w p [.int .i64 n, .int .i64 v] (fun j u hj => by
      match j, hj with
      | 0, hj => simp at hj; subst hj; rw [show p.add 0 = p by unfold Addr.add; split <;> simp_all]; exact h0
      | 1, hj => simp at hj; subst hj; exact h1
      | j + 2, hj => simp at hj)
  have hagg : (isAgg 24).run Try.prog w = .ok true w := by
    unfold isAgg
    rw [Sem.run_bind, run_underlying Try.underlying24 w]; rfl
  have hs : ((Try.prog.info? 24).map (·.size)) = some 2 := by kernel_rfl
  cases hq : Try.prog.info? 24 with
  | none => rw [hq] at hs; cases hs
  | some i =>
    have hs' : i.size = 2 := by rw [hq] at hs; simpa using hs
    simp [Instr.loadAt, Instr.sureAddr, loadVar, Sem.run_bind, hagg, sizeOf, typeInfo, hq, hs', hl]
theorem InpsIn.load {w : World} {x : Addr} {l : List Inp} (h : InpsIn w (some x) l) {j : Nat} (hj : j < l.length) :
    (Instr.loadAt 24 (.pointer (some (x.add (j * 2))))).run Try.prog w = .ok (.agg #[.int .i64 l[j].1, .int .i64 l[j].2]) w := by
  obtain ⟨y, e, h1, h2⟩ := h j hj
  obtain rfl := Option.some.inj e
  exact run_loadI w _ _ _ h1 (by rw [Go.Deep.add_add]; exact h2)

theorem Try.info24 : (Try.prog.info? 24).map (fun i => (i.zero, i.size, i.bytes)) = some (some (.agg #[.int .i64 0, .int .i64 0]), 2, 16) := by kernel_rfl
section
variable {ops : Array Oper} {rest : List Oper} {o : Oper} {act : Act} {Q : Exit → Act → World → Prop}
end
end Go.Proofs.Ytfjnpegpfmaekaa
namespace Go.Proofs.Ytfjnpegpfmaekaa
open Go.RowKit
set_option linter.unusedSimpArgs false

/-- What is true of each rollout of a valid plan. -/
def Ro.inv (r : Ro) (p : Pl) : Prop := (0 ≤ r.st ∧ r.st ≤ 4) ∧ (0 ≤ r.stage ∧ r.stage < p.ws.length) ∧ (0 ≤ r.healthy ∧ r.healthy < p.hold) ∧ (0 ≤ r.w.tot ∧ r.w.tot ≤ 1000000000) ∧ (0 ≤ r.w.err ∧ r.w.err ≤ 1000000000) ∧ 0 ≤ r.w.age ∧ r.w.age ≤ 1000000
theorem roS_inv {p : Pl} (hp : p.ok = true) {s : Int} (h0 : 0 ≤ s) (h1 : s ≤ 4) : (roS s).inv p := by
  have := Pl.ok_nums hp
  unfold Pl.nums at this
  unfold roS Ro.inv
  simp only
  omega
theorem Ro.inv.use {r : Ro} {p : Pl} (hp : p.ok = true) (h : r.inv p) : r.rng ∧ r.stage ≤ 1000000 ∧ r.healthy ≤ 1000000 ∧ p.win ≤ 9223372036854775807 := by
  have := Pl.ok_nums hp
  unfold Pl.nums at this
  unfold Ro.inv at h
  unfold Ro.rng Wn.rng i64P
  omega
theorem cnt1_bd (n : Int) : 0 ≤ cnt1 n ∧ cnt1 n ≤ 1000000000 := by rw [cnt1_eq]; omega
theorem cnt0_bd (n : Int) : 0 ≤ cnt0 n ∧ cnt0 n ≤ 1000000000 := by rw [cnt0_eq]; omega
theorem obsV_inv {r : Ro} {p : Pl} (h : r.inv p) (b : Bool) : (obsV r b).inv p := by
  unfold obsV
  split
  · unfold Ro.inv smpV at *
    simp only
    have h1 := cnt1_bd r.w.tot
    have h2 := cnt1_bd r.w.err
    have h3 := cnt0_bd r.w.err
    refine ⟨h.1, h.2.1, h.2.2.1, h1, ?_, h.2.2.2.2.2⟩
    cases b
    · exact h3
    · exact h2
  · exact h
theorem tickV_age {v : Wn} {len : Int} (h0 : len ≤ 1000000) : 0 ≤ (tickV v len).1.age ∧ (tickV v len).1.age ≤ 1000000 ∧ ((tickV v len).2 = false → (tickV v len).1.tot = v.tot ∧ (tickV v len).1.err = v.err) := by
  unfold tickV
  split
  · refine ⟨Int.le_refl _, by decide, fun h => by cases h⟩
  · rename_i hn
    have := max0_ge v.age
    simp only at *
    exact ⟨by omega, by omega, fun _ => ⟨by first | rfl | trivial, by first | rfl | trivial⟩⟩
theorem tickR_inv {r : Ro} {p : Pl} (hp : p.ok = true) (h : r.inv p) : (tickR r p).inv p := by
  have hn := Pl.ok_nums hp
  unfold Pl.nums at hn
  unfold tickR
  split
  · have ht := tickV_age (v := r.w) (len := p.win) (by omega)
    split
    · unfold closeR
      unfold Ro.inv at h
      split
      · exact roS_inv hp (by decide) (by decide)
      · split
        · unfold Ro.inv; simp only; omega
        · split
          · split
            · split
              · exact roS_inv hp (by decide) (by decide)
              · unfold Ro.inv; simp only; omega
            · unfold Ro.inv; simp only; omega
          · unfold Ro.inv; simp only; omega
    · rename_i hf
      have h2 := ht.2.2 (by simpa using hf)
      unfold Ro.inv at *
      simp only
      rw [h2.1, h2.2]
      omega
  · exact h
theorem cmdV_inv {r : Ro} {p : Pl} (hp : p.ok = true) (h : r.inv p) (c : Int) : (cmdV r c).1.inv p := by
  have hz : ∀ s : Int, 0 ≤ s → s ≤ 4 → (roS s).inv p := fun s h0 h1 => roS_inv hp h0 h1
  unfold cmdV
  split
  · split
    · exact hz 1 (by decide) (by decide)
    · exact hz 0 (by decide) (by decide)
  · split
    · split
      · unfold Ro.inv at *; simp only; omega
      · exact hz 0 (by decide) (by decide)
    · split
      · split
        · unfold Ro.inv at *; simp only; omega
        · exact hz 0 (by decide) (by decide)
      · split
        · split
          · exact hz 2 (by decide) (by decide)
          · exact hz 0 (by decide) (by decide)
        · split
          · split
            · exact hz 3 (by decide) (by decide)
            · exact hz 0 (by decide) (by decide)
          · split
            · exact hz 0 (by decide) (by decide)
            · exact hz 0 (by decide) (by decide)
theorem stepV_inv {r : Ro} {p : Pl} (hp : p.ok = true) (h : r.inv p) (x : Int × Int) : (stepV r p x).inv p := by
  unfold stepV
  split
  · exact tickR_inv hp h
  · split
    · exact obsV_inv h _
    · split
      · exact obsV_inv h _
      · split
        · split
          · exact cmdV_inv hp h _
          · exact h
        · exact h
def runV (p : Pl) (l : List (Int × Int)) : Ro := l.foldl (fun r x => stepV r p x) (roS 0)
theorem runV_snoc (p : Pl) (l : List (Int × Int)) (k : Nat) (hk : k < l.length) : runV p (l.take (k + 1)) = stepV (runV p (l.take k)) p l[k] := by
  unfold runV
  rw [List.take_succ_eq_append_getElem hk, List.foldl_append, List.foldl_cons, List.foldl_nil]
theorem runV_inv {p : Pl} (hp : p.ok = true) (l : List (Int × Int)) : ∀ k, k ≤ l.length → (runV p (l.take k)).inv p
  | 0, _ => by rw [List.take_zero]; exact roS_inv hp (by decide) (by decide)
  | k + 1, h => by rw [runV_snoc p l k h]; exact stepV_inv hp (runV_inv hp l k (by omega)) _
theorem refStep_eq {r r' : Ro} {p : Pl} {x : Int × Int} {a : Option Addr} {c : Nat} (w : World) (hp : p.ok = true) (hI : r.inv p) (h : IsInts w a p.ws c) (hr : stepV r p x = r') :
    Calls Try.prog 17 #[.agg r.cells, PlV a c p, .agg #[.int .i64 x.1, .int .i64 x.2]] w fun e w' => e = .returned (.agg r'.cells) ∧ Below w.heap.size w w' := by
  subst hr
  have u := hI.use hp
  exact refRStep_any r p x a c w h u.1 u.2.1 u.2.2.1 u.2.2.2
theorem sizePl (a : Option Addr) (c : Nat) (p : Pl) : (Try.prog.info? 30).map (·.size) = some (PlC a c p).size := by show _ = some 6; kernel_rfl
theorem sizeIn (x y : Int) : (Try.prog.info? 24).map (·.size) = some (#[Value.int .i64 x, .int .i64 y] : Array Value).size := by show _ = some 2; kernel_rfl
theorem InpsIn.row {w : World} {x : Addr} {l : List Inp} (h : InpsIn w (some x) l) {k : Nat} (hk : k < l.length) : ∀ (j : Nat) (v : Value), (#[Value.int .i64 l[k].1, .int .i64 l[k].2] : Array Value)[j]? = some v → w.cell? ((x.add (k * 2)).add j) = some v := by
  obtain ⟨y, e, h1, h2⟩ := h k hk
  obtain rfl := Option.some.inj e
  intro j v hv
  rw [Go.Deep.add_add]
  match j, hv with
  | 0, hv => simp at hv; subst hv; exact h1
  | 1, hv => simp at hv; subst hv; exact h2
  | j + 2, hv => simp at hv
set_option maxRecDepth 100000 in
set_option maxHeartbeats 4000000 in
theorem refRun_any (p : Pl) (l : List Inp) (a b : Option Addr) (c d : Nat) (w : World) (hp : p.ok = true) (h : IsInts w a p.ws c) (hl : InpsIn w b l) (hlen : l.length ≤ 1000) :
    Calls Try.prog 10 #[PlV a c p, .slice b l.length d] w fun e w' => e = .returned (.agg (runV p l).cells) ∧ Below w.heap.size w w' := by
  obtain ⟨R, hR⟩ : ∃ R, R = runV p l := ⟨_, rfl⟩
  rw [← hR]
  have HR := Box.mk hR
  have HP := Box.mk hp
  have HH := Box.mk (And.intro h hl)
  clear hR hp h hl
  obtain ⟨W, hW⟩ : ∃ W, W = ((w.alloc (.cells (PlC a c p) 30)).alloc (.cells (roS 0).cells 28)).alloc (.cells (roS 0).cells 28) := ⟨_, rfl⟩
  have HB := Box.mk (show Below w.heap.size w W by rw [hW]; exact below_twoF (below_twoF (below_oneF w _) _) _)
  have HV := Box.mk (show VarA W w.heap.size (PlC a c p) 30 by rw [hW]; exact ((VarA.new _ _ _).below _).below _)
  have HU := Box.mk (show VarA W (w.heap.size + 1) (roS 0).cells 28 by rw [hW]; have := (VarA.new (w.alloc (.cells (PlC a c p) 30)) (roS 0).cells 28).below (.cells (roS 0).cells 28); rw [World.size_alloc] at this; exact this)
  have HS := Box.mk (show VarA W (w.heap.size + 2) (roS 0).cells 28 by rw [hW]; have := VarA.new ((w.alloc (.cells (PlC a c p) 30)).alloc (.cells (roS 0).cells 28)) (roS 0).cells 28; rw [World.size_alloc, World.size_alloc] at this; exact this)
  unfold PlV
  go_enter Try.func10, Try.ntmps10
  go_upto_region 2 with fail
  change Code.wp _ _ _ _ (((w.alloc (.cells (PlC a c p) 30)).alloc (.cells (roS 0).cells 28)).alloc (.cells (roS 0).cells 28))
  rw [← hW]
  clear hW
  go_wp2_with fail
  go_loopw [6] (fun iv wr => ∃ k : Nat, k ≤ l.length ∧ iv = .int .i64 k ∧ Box (VarA wr (w.heap.size + 2) (runV p (l.take k)).cells 28 ∧ VarA wr w.heap.size (PlC a c p) 30 ∧ VarA wr (w.heap.size + 1) (roS 0).cells 28 ∧ Below w.heap.size w wr)) (fun iv _ => l.length - (intOf iv).toNat)
  case atStart => exact ⟨0, Nat.zero_le _, rfl, ⟨HS.out, HV.out, HU.out, HB.out⟩⟩
  case round =>
    clear HS HV HU HB
    obtain ⟨k, hk, rfl, HI⟩ := hrel
    by_cases hlt : k < l.length
    · obtain ⟨x, rfl, _, _⟩ := HH.out.2 k hlt
      have HROW := Box.mk (fun w' (hb : Below w.heap.size w w') => (HH.out.2.keep hb).row hlt)
      have HST := Box.mk (runV_snoc p l k hlt)
      have HINV := Box.mk (runV_inv HP.out l k hk)
      generalize l[k] = y at *
      generalize runV p (l.take k) = r at *
      go_upto_region 5 with fail
      rename_i K hK
      refine wp_region_last (S := [some (.val (.agg r.cells)), some (.val (PlV a c p)), some (.val (.slice (some x) l.length d)), some (.val (.int .i64 k)), some (.val (.pointer (some (x.add (k * 2))))), some (.val (.agg #[.int .i64 y.1, .int .i64 y.2])), some (.val (.agg (runV p (l.take (k + 1))).cells)), none]) 7
        (by kernel_rfl) (by kernel_rfl) (by kernel_rfl) (by kernel_rfl) rfl rfl rfl ?_ ?_
      · refine ⟨?_, ?_, ?_, ?_, ?_, ?_, ?_, trivial⟩ <;> intro a' w2 hb hf hd
        · exact ⟨wanted_none rfl, loc_load_rowG rfl (hf.base 5 rfl) (HI.out.1.keep hb).row Try.underlying28 rfl (sizeRoC r) rfl⟩
        · exact ⟨wanted_none rfl, loc_load_rowG rfl (hf.base 2 rfl) (HI.out.2.1.keep hb).row Try.underlying30 rfl (sizePl a c p) rfl⟩
        · exact ⟨wanted_none rfl, loc_move rfl (hf.base 1 rfl)⟩
        · exact ⟨wanted_none rfl, loc_move rfl (hf.base 6 rfl)⟩
        · exact ⟨wanted_none rfl, loc_index_G 2 rfl (hd 2 rfl) (hd 3 rfl) hlt (by kernel_rfl) (by kernel_rfl) rfl⟩
        · exact ⟨wanted_none rfl, loc_load_rowG rfl (hd 4 rfl) (HROW.out w2 (below_trans HI.out.2.2.2 hb)) Try.underlying24 rfl (sizeIn y.1 y.2) rfl⟩
        · refine ⟨wanted_none rfl, loc_call rfl (by kernel_rfl) ?_⟩
          show Calls _ _ #[a'.eval (.tmp 13), a'.eval (.tmp 14), a'.eval (.tmp 18)] w2 _
          rw [show a'.eval (.tmp 13) = .agg r.cells from hd 0 rfl, show a'.eval (.tmp 14) = PlV a c p from hd 1 rfl, show a'.eval (.tmp 18) = .agg #[.int .i64 y.1, .int .i64 y.2] from hd 5 rfl]
          refine (refStep_eq w2 HP.out HINV.out (HH.out.1.keepP (below_trans HI.out.2.2.2 hb)) HST.out.symm).mono ?_
          rintro e w3 ⟨rfl, h3⟩
          exact ⟨_, rfl, h3, rfl⟩
      · intro a' w2 hb hf hd
        refine ⟨wanted_none rfl, ?_⟩
        have e19 : a'.eval (.tmp 19) = .agg (runV p (l.take (k + 1))).cells := hd 6 (by decide) (by decide)
        have HB2 := Box.mk (below_trans HI.out.2.2.2 hb)
        refine wp_store_row 28 _ _ rfl (w.heap.size + 2) (runV p (l.take (k + 1))).cells (hf.base 5 rfl) e19 28 _ (HI.out.1.keep hb) (sizeRoC _) rfl (oneRoC _) ?_
        have HN := Box.mk (show VarA (w2.setRow (w.heap.size + 2) (runV p (l.take (k + 1))).cells) (w.heap.size + 2) (runV p (l.take (k + 1))).cells 28 ∧ VarA (w2.setRow (w.heap.size + 2) (runV p (l.take (k + 1))).cells) w.heap.size (PlC a c p) 30 ∧ VarA (w2.setRow (w.heap.size + 2) (runV p (l.take (k + 1))).cells) (w.heap.size + 1) (roS 0).cells 28 ∧ Below w.heap.size w (w2.setRow (w.heap.size + 2) (runV p (l.take (k + 1))).cells) from
          ⟨setRow_heap _ _ _ _ _ _ (HI.out.1.keep hb), (HI.out.2.1.keep hb).row_other (by omega), (HI.out.2.2.1.keep hb).row_other (by omega), below_setRow HB2.out (by omega) _⟩)
        refine hK _ _ ?_
        rw [fr_putAll hf]
        simp only [putAll, e19]
        clear hf hd hb HI HROW HST HINV HB2 e19
        generalize a'.eval (.tmp 13) = u13
        generalize a'.eval (.tmp 14) = u14
        generalize a'.eval (.tmp 15) = u15
        generalize a'.eval (.tmp 16) = u16
        generalize a'.eval (.tmp 17) = u17
        generalize a'.eval (.tmp 18) = u18
        simp only [Act.put, List.setIfInBounds_toArray, List.set_cons_succ, List.set_cons_zero]
        go_wp2_with fail
        go_roundw
        case rel => exact ⟨k + 1, by omega, by go_num, HN⟩
        case measure => simp [intOf]; omega
    · have HE := Box.mk (show runV p (l.take k) = R by rw [HR.out, List.take_of_length_le (by omega)])
      have HI := Box.mk (HE.out ▸ HI.out)
      obtain ⟨st, stage, healthy, ⟨tot, err, age⟩⟩ := R
      have c0 := HI.out.1.cell (i := 0) (v := .int .i64 st) rfl
      have c1 := HI.out.1.cell (i := 1) (v := .int .i64 stage) rfl
      have c2 := HI.out.1.cell (i := 2) (v := .int .i64 healthy) rfl
      have c3 := HI.out.1.cell (i := 3) (v := .int .i64 tot) rfl
      have c4 := HI.out.1.cell (i := 4) (v := .int .i64 err) rfl
      have c5 := HI.out.1.cell (i := 5) (v := .int .i64 age) rfl
      clear HE
      go_wp2_with (refine wpList_store_row rfl 28 _ _ rfl (w.heap.size + 1) #[.int .i64 st, .int .i64 stage, .int .i64 healthy, .int .i64 tot, .int .i64 err, .int .i64 age] rfl rfl 28 _ HI.out.2.2.1 sizeRo rfl (oneRo ..) ?_)
      (try simp only [Exit.inBlock, Exit.then])
      refine ret_rowQ (cs := #[.int .i64 st, .int .i64 stage, .int .i64 healthy, .int .i64 tot, .int .i64 err, .int .i64 age]) rfl rfl rfl (setRow_heap _ _ _ _ _ _ HI.out.2.2.1) Try.underlying28 rfl sizeRo ⟨rfl, below_setRow HI.out.2.2.2 (by omega) _⟩
end Go.Proofs.Ytfjnpegpfmaekaa
