/- The landed rollout: Tick, Weight, Step, Run. The laws of package plan: awake; PlanWeight. The laws PlanWeight and PlanVerdict. Single operations of a region that draws its order: a new struct, a truth value. The laws of package rollout: made, awake. The laws of package rollout: awake. The law RolloutRun. Queues: Take. The law RolloutTick. Opening the arguments of the laws on fields. -/
import Derived.Test.YtfjnpegpfmaekaaPk1
import Derived.Test.YtfjnpegpfmaekaaPk2
import Derived.Test.YtfjnpegpfmaekaaPk3
import Derived.Test.YtfjnpegpfmaekaaPk4
import Derived.Test.YtfjnpegpfmaekaaRows
import Derived.WalkKit
import Derived.WalkSpells
import Derived.WalkLawsBesides
import Derived.BigQuiet
import Derived.Deep.QuietTactic
import Derived.Lib.Bytealg
import Derived.Lib.IndexLaws
import Derived.Lib.Hide
import Derived.Laws.IdiomStrings
import Derived.Lib.SlTrimSet
import Derived.Lib.IndexBytes
import Derived.Lib.Split
import Derived.Deep.AppendLies
import Derived.Shelf.LaysM
import Derived.Test.YtfjnpegpfmaekaaProg
import Derived.Shelf.Strings.SlTrimAscii
import Derived.Lib.SplitLaws
import Derived.WalkSmall
import Derived.ProofKit
import Derived.OpenShut
import Derived.Lib.Strings
import Derived.SliceStrings
import Derived.Deep.Quiet
import Derived.Tactics
import Derived.KernelRfl
import Derived.Below
import Derived.Laws.Bits64
import Derived.Lib.SlBytesConst
import Derived.Maps.AppendAt
import Derived.Laws.AppendOwnNone
import Derived.Great.BuildSlice
import Derived.Laws.Rows
import Derived.Laws.BitsAllLaws
import Derived.Laws.Shifts
import Derived.Maps.OwnOps
import Derived.Maps.OwnSet
import Derived.Deep.SlicePairs
import Derived.Lib.AppendZerosOnto
import Derived.Lib.AppendStr
import Derived.Laws.CopyOwn
import Derived.OwnWalk
import Derived.Laws.Strings3
import Derived.Laws.Concat
import Derived.Lib.ItoaMem
import Derived.Deep.DeepCutAuto
import Derived.Deep.CutBlock
import Derived.Laws.Tables
import Derived.Deep.Matrix
import Derived.IntWalk
import Derived.Laws.RangeAny
import Derived.Sort.Grow
import Derived.Lib.LaidTab
import Derived.LaidSub
import Derived.Laws.Bits64b
import Derived.Deep.WholeRow
import Derived.StillTailTactics
import Derived.Lib.ConvBytes
import Derived.ArgAppend
namespace Go.Proofs.Ytfjnpegpfmaekaa
open Go.RowKit
set_option linter.unusedSimpArgs false
set_option linter.unusedVariables false

theorem closeR_judge (r : Ro) (p : Pl) : closeR r p = judgeR ⟨r.st, r.stage, r.healthy, ⟨0, 0, 0⟩⟩ p (verdV p r.w) := rfl
theorem rVerdict_v {p : Pl} {v : Wn} {r : Int} {a : Option Addr} {c : Nat} {x y : Value} (w : World) (hx : x = PlV a c p) (hy : y = .agg v.cells) (h : IsInts w a p.ws c) (hr : verdV p v = r) :
    Calls Try.prog 20 #[x, y] w fun e w' => ∃ v', e = .returned v' ∧ Below w.heap.size w w' ∧ v' = .int .i64 r := by
  subst hx hy hr
  refine (pVerdict_all p a c v w h).mono ?_
  rintro e w' ⟨rfl, hb⟩
  exact ⟨_, rfl, hb, rfl⟩
theorem rJudge_v {r J : Ro} {p : Pl} {v : Int} {a : Option Addr} {c : Nat} {x y z : Value} (w : World) (hx : x = .agg r.cells) (hy : y = PlV a c p) (hz : z = .int .i64 v) (h : IsInts w a p.ws c) (hlen : p.ws.length ≤ 8) (h0 : -9223372036854775808 ≤ r.stage) (hs : r.stage < p.ws.length) (hh0 : -9223372036854775808 ≤ r.healthy) (hh : r.healthy ≤ 1000000) (hr : judgeR r p v = J) :
    Calls Try.prog 25 #[x, y, z] w fun e w' => ∃ v', e = .returned v' ∧ Below w.heap.size w w' ∧ v' = .agg J.cells := by
  subst hx hy hz hr
  refine (rJudge_any r p v a c w h hlen h0 hs hh0 hh).mono ?_
  rintro e w' ⟨rfl, hb⟩
  exact ⟨_, rfl, hb, rfl⟩
theorem sizeRoD (r : Ro) : (Try.prog.info? 28).map (·.size) = some r.cells.size := sizeRo
theorem tickR_yes {r : Ro} {p : Pl} (h : r.st = 1) : tickR r p = if (tickV r.w p.win).2 = true then closeR r p else ⟨r.st, r.stage, r.healthy, (tickV r.w p.win).1⟩ := by unfold tickR; rw [if_pos h]
theorem tickR_no {r : Ro} {p : Pl} (h : ¬ r.st = 1) : tickR r p = r := by unfold tickR; rw [if_neg h]
set_option maxRecDepth 10000 in
set_option maxHeartbeats 4000000 in
theorem rTick_any (r : Ro) (p : Pl) (a : Option Addr) (c : Nat) (w : World) (hp : p.ok = true) (h : IsInts w a p.ws c) (hr : r.rng) (hs : r.stage < p.ws.length) (hh : r.healthy ≤ 1000000) :
    Calls Try.prog 12 #[.agg r.cells, PlV a c p] w fun e w' => e = .returned (.agg (tickR r p).cells) ∧ Below w.heap.size w w' := by
  obtain ⟨R, hR⟩ : ∃ x, x = tickR r p := ⟨_, rfl⟩
  rw [← hR]
  have HNUM := Box.mk (Pl.ok_nums hp)
  have HST := Box.mk (And.intro hr (And.intro hs hh))
  have HY := Box.mk (fun h => hR.trans (tickR_yes (r := r) (p := p) h))
  have HN := Box.mk (fun h => hR.trans (tickR_no (r := r) (p := p) h))
  have HCL := Box.mk (closeR_judge r p)
  clear hR hr hs hh hp
  obtain ⟨st, stage, healthy, ⟨tot, err, age⟩⟩ := r
  simp only at HY HST HCL
  have HI0 := Box.mk h
  unfold Ro.cells
  simp only
  rw [show #[Value.int .i64 R.st, .int .i64 R.stage, .int .i64 R.healthy, .int .i64 R.w.tot, .int .i64 R.w.err, .int .i64 R.w.age] = R.cells from rfl]
  have HWN := Box.mk (show Wn.rng ⟨tot, err, age⟩ from HST.out.1.2.2.2)
  have HLEN := Box.mk (show i64P p.win by have := HNUM.out; unfold Pl.nums at this; unfold i64P; omega)
  obtain ⟨W, hW⟩ : ∃ W, W = (((w.alloc (.cells #[.int .i64 st, .int .i64 stage, .int .i64 healthy, .int .i64 tot, .int .i64 err, .int .i64 age] 28)).alloc (.cells (PlC a c p) 30)).alloc (.cells #[.int .i64 0, .int .i64 0, .int .i64 0, .int .i64 0, .int .i64 0, .int .i64 0] 28)) := ⟨_, rfl⟩
  have HB := Box.mk (show Below w.heap.size w W by rw [hW]; exact below_twoF (below_twoF (below_oneF w _) _) _)
  have HV := Box.mk (show VarA W w.heap.size #[.int .i64 st, .int .i64 stage, .int .i64 healthy, .int .i64 tot, .int .i64 err, .int .i64 age] 28 by rw [hW]; exact ((VarA.new w #[.int .i64 st, .int .i64 stage, .int .i64 healthy, .int .i64 tot, .int .i64 err, .int .i64 age] 28).below (.cells (PlC a c p) 30)).below (.cells #[.int .i64 0, .int .i64 0, .int .i64 0, .int .i64 0, .int .i64 0, .int .i64 0] 28))
  have HQ := Box.mk (show VarA W (w.heap.size + 1) (PlC a c p) 30 by rw [hW]; have := (VarA.new (w.alloc (.cells #[.int .i64 st, .int .i64 stage, .int .i64 healthy, .int .i64 tot, .int .i64 err, .int .i64 age] 28)) (PlC a c p) 30).below (.cells #[.int .i64 0, .int .i64 0, .int .i64 0, .int .i64 0, .int .i64 0, .int .i64 0] 28); rw [World.size_alloc] at this; exact this)
  have HU := Box.mk (show VarA W (w.heap.size + 2) #[.int .i64 0, .int .i64 0, .int .i64 0, .int .i64 0, .int .i64 0, .int .i64 0] 28 by rw [hW]; have := VarA.new ((w.alloc (.cells #[.int .i64 st, .int .i64 stage, .int .i64 healthy, .int .i64 tot, .int .i64 err, .int .i64 age] 28)).alloc (.cells (PlC a c p) 30)) #[.int .i64 0, .int .i64 0, .int .i64 0, .int .i64 0, .int .i64 0, .int .i64 0] 28; rw [World.size_alloc, World.size_alloc] at this; exact this)
  have HI := Box.mk (h.keepP HB.out)
  clear h
  unfold PlV
  go_enter Try.func12, Try.ntmps12
  go_upto_region 1 with fail
  change Code.wp _ _ _ _ (((w.alloc (.cells #[.int .i64 st, .int .i64 stage, .int .i64 healthy, .int .i64 tot, .int .i64 err, .int .i64 age] 28)).alloc (.cells (PlC a c p) 30)).alloc (.cells #[.int .i64 0, .int .i64 0, .int .i64 0, .int .i64 0, .int .i64 0, .int .i64 0] 28))
  rw [← hW]
  clear hW
  have c0 := HV.out.cell (i := 0) (v := .int .i64 st) rfl
  have c1 := HV.out.cell (i := 1) (v := .int .i64 stage) rfl
  have c2 := HV.out.cell (i := 2) (v := .int .i64 healthy) rfl
  have c3 := HV.out.cell (i := 3) (v := .int .i64 tot) rfl
  have c4 := HV.out.cell (i := 4) (v := .int .i64 err) rfl
  have c5 := HV.out.cell (i := 5) (v := .int .i64 age) rfl
  by_cases h1 : st = 1
  · have d1 := bne_i_no h1
    have HX := Box.mk (HY.out h1)
    clear HY HN h1
    obtain ⟨W1, hW1⟩ : ∃ x, x = (W.alloc (.cells #[.int .i64 0, .int .i64 0, .int .i64 0] 26)).setRow W.heap.size #[.int .i64 tot, .int .i64 err, .int .i64 age] := ⟨_, rfl⟩
    have HGB := Box.mk (show w.heap.size + 2 < W.heap.size from HU.out.lt)
    have HB1 := Box.mk (show Below w.heap.size w W1 by rw [hW1]; exact below_setRow (below_twoF HB.out _) (by have := HGB.out; omega) _)
    have HV1 := Box.mk (show VarA W1 w.heap.size #[.int .i64 st, .int .i64 stage, .int .i64 healthy, .int .i64 tot, .int .i64 err, .int .i64 age] 28 by rw [hW1]; exact (HV.out.below _).row_other (by have := HGB.out; omega))
    have HQ1 := Box.mk (show VarA W1 (w.heap.size + 1) (PlC a c p) 30 by rw [hW1]; exact (HQ.out.below _).row_other (by have := HGB.out; omega))
    have HU1 := Box.mk (show VarA W1 (w.heap.size + 2) #[.int .i64 0, .int .i64 0, .int .i64 0, .int .i64 0, .int .i64 0, .int .i64 0] 28 by rw [hW1]; exact (HU.out.below _).row_other (by have := HGB.out; omega))
    have HBF := Box.mk (show VarA W1 W.heap.size #[.int .i64 tot, .int .i64 err, .int .i64 age] 26 by rw [hW1]; exact setRow_heap _ _ _ _ _ _ (VarA.new _ _ _))
    go_upto_region 4 with (refine wpList_store_row rfl 26 _ _ rfl W.heap.size #[.int .i64 tot, .int .i64 err, .int .i64 age] rfl rfl 26 _ (VarA.new _ _ _) sizeWn rfl (oneWn ..) ?_)
    change Code.wp _ _ _ _ ((W.alloc (.cells #[.int .i64 0, .int .i64 0, .int .i64 0] 26)).setRow W.heap.size #[.int .i64 tot, .int .i64 err, .int .i64 age])
    rw [← hW1]
    clear hW1 HV HQ HU HB c0 c1 c2 c3 c4 c5 HI
    generalize W.heap.size = gb at *
    have b0 := HBF.out.cell (i := 0) (v := .int .i64 tot) rfl
    have b1 := HBF.out.cell (i := 1) (v := .int .i64 err) rfl
    have b2 := HBF.out.cell (i := 2) (v := .int .i64 age) rfl
    have q5 := HQ1.out.cell (i := 5) (v := .int .i64 p.win) rfl
    go_wp2_with fail
    refine (wTick_any ⟨tot, err, age⟩ p.win _ HWN.out HLEN.out).mono ?_
    rintro e w2 ⟨he, hb⟩
    have HTC := Box.mk (fun h => tickV_closed (v := ⟨tot, err, age⟩) (len := p.win) h)
    generalize tickV ⟨tot, err, age⟩ p.win = tv at *
    obtain ⟨⟨t2, e2, a2⟩, cl⟩ := tv
    simp only at HX HTC
    simp only [Wn.cells] at he
    subst he
    have HB2 := Box.mk (below_trans HB1.out hb)
    have HV2 := Box.mk (HV1.out.keep hb)
    have HQ2 := Box.mk (HQ1.out.keep hb)
    have HU2 := Box.mk (HU1.out.keep hb)
    have HBF2 := Box.mk (HBF.out.keep hb)
    clear hb HV1 HQ1 HU1 HB1 HBF b0 b1 b2 q5 HWN HLEN
    obtain ⟨W3, hW3⟩ : ∃ x, x = (w2.alloc (.cells #[.int .i64 0, .int .i64 0, .int .i64 0] 26)).setRow w2.heap.size #[.int .i64 t2, .int .i64 e2, .int .i64 a2] := ⟨_, rfl⟩
    have HGA := Box.mk (show gb < w2.heap.size from HBF2.out.lt)
    have HB3 := Box.mk (show Below w.heap.size w W3 by rw [hW3]; exact below_setRow (below_twoF HB2.out _) (by have := HGB.out; have := HGA.out; omega) _)
    have HV3 := Box.mk (show VarA W3 w.heap.size #[.int .i64 st, .int .i64 stage, .int .i64 healthy, .int .i64 tot, .int .i64 err, .int .i64 age] 28 by rw [hW3]; exact (HV2.out.below _).row_other (by have := HGB.out; have := HGA.out; omega))
    have HQ3 := Box.mk (show VarA W3 (w.heap.size + 1) (PlC a c p) 30 by rw [hW3]; exact (HQ2.out.below _).row_other (by have := HGB.out; have := HGA.out; omega))
    have HU3 := Box.mk (show VarA W3 (w.heap.size + 2) #[.int .i64 0, .int .i64 0, .int .i64 0, .int .i64 0, .int .i64 0, .int .i64 0] 28 by rw [hW3]; exact (HU2.out.below _).row_other (by have := HGB.out; have := HGA.out; omega))
    have HBF3 := Box.mk (show VarA W3 gb #[.int .i64 tot, .int .i64 err, .int .i64 age] 26 by rw [hW3]; exact (HBF2.out.below _).row_other (by have := HGA.out; omega))
    have HAF := Box.mk (show VarA W3 w2.heap.size #[.int .i64 t2, .int .i64 e2, .int .i64 a2] 26 by rw [hW3]; exact setRow_heap _ _ _ _ _ _ (VarA.new _ _ _))
    go_upto_region 5 with (refine wpList_store_row rfl 26 _ _ rfl w2.heap.size #[.int .i64 t2, .int .i64 e2, .int .i64 a2] rfl rfl 26 _ (VarA.new _ _ _) sizeWn rfl (oneWn ..) ?_)
    change Code.wp _ _ _ _ ((w2.alloc (.cells #[.int .i64 0, .int .i64 0, .int .i64 0] 26)).setRow w2.heap.size #[.int .i64 t2, .int .i64 e2, .int .i64 a2])
    rw [← hW3]
    clear hW3 HV2 HQ2 HU2 HB2 HBF2
    generalize w2.heap.size = ga at *
    have b0 := HAF.out.cell (i := 0) (v := .int .i64 t2) rfl
    have b1 := HAF.out.cell (i := 1) (v := .int .i64 e2) rfl
    have b2 := HAF.out.cell (i := 2) (v := .int .i64 a2) rfl
    obtain ⟨W5, hW5⟩ : ∃ x, x = W3.setRow w.heap.size #[.int .i64 st, .int .i64 stage, .int .i64 healthy, .int .i64 t2, .int .i64 e2, .int .i64 a2] := ⟨_, rfl⟩
    have HB5 := Box.mk (show Below w.heap.size w W5 by rw [hW5]; exact below_setRow HB3.out (Nat.le_refl _) _)
    have HV5 := Box.mk (show VarA W5 w.heap.size #[.int .i64 st, .int .i64 stage, .int .i64 healthy, .int .i64 t2, .int .i64 e2, .int .i64 a2] 28 by rw [hW5]; exact setRow_heap _ _ _ _ _ _ HV3.out)
    have HQ5 := Box.mk (show VarA W5 (w.heap.size + 1) (PlC a c p) 30 by rw [hW5]; exact HQ3.out.row_other (by omega))
    have HU5 := Box.mk (show VarA W5 (w.heap.size + 2) #[.int .i64 0, .int .i64 0, .int .i64 0, .int .i64 0, .int .i64 0, .int .i64 0] 28 by rw [hW5]; exact HU3.out.row_other (by omega))
    have HBF5 := Box.mk (show VarA W5 gb #[.int .i64 tot, .int .i64 err, .int .i64 age] 26 by rw [hW5]; exact HBF3.out.row_other (by have := HGB.out; omega))
    have HI5 := Box.mk (HI0.out.keepP HB5.out)
    go_upto_region 6 with (refine wpList_store_sub rfl 26 _ _ rfl w.heap.size 3 #[.int .i64 t2, .int .i64 e2, .int .i64 a2] rfl rfl 28 _ #[.int .i64 st, .int .i64 stage, .int .i64 healthy, .int .i64 t2, .int .i64 e2, .int .i64 a2] HV3.out sizeWn (by show 3 + 3 ≤ 6; decide) (oneWn ..) rfl ?_)
    change Code.wp _ _ _ _ (W3.setRow w.heap.size #[.int .i64 st, .int .i64 stage, .int .i64 healthy, .int .i64 t2, .int .i64 e2, .int .i64 a2])
    rw [← hW5]
    clear hW5 HV3 HQ3 HU3 HB3 HBF3 HAF b0 b1 b2
    cases cl
    · have HX := Box.mk (show R = ⟨st, stage, healthy, ⟨t2, e2, a2⟩⟩ by rw [HX.out]; rfl)
      clear HCL HTC
      have c0 := HV5.out.cell (i := 0) (v := .int .i64 st) rfl
      have c1 := HV5.out.cell (i := 1) (v := .int .i64 stage) rfl
      have c2 := HV5.out.cell (i := 2) (v := .int .i64 healthy) rfl
      have c3 := HV5.out.cell (i := 3) (v := .int .i64 t2) rfl
      have c4 := HV5.out.cell (i := 4) (v := .int .i64 e2) rfl
      have c5 := HV5.out.cell (i := 5) (v := .int .i64 a2) rfl
      go_wp2_with (refine wpList_store_row rfl 28 _ _ rfl (w.heap.size + 2) #[.int .i64 st, .int .i64 stage, .int .i64 healthy, .int .i64 t2, .int .i64 e2, .int .i64 a2] rfl rfl 28 _ HU5.out sizeRo rfl (oneRo ..) ?_)
      (try simp only [Exit.inBlock, Exit.then])
      refine ret_rowQ (cs := #[.int .i64 st, .int .i64 stage, .int .i64 healthy, .int .i64 t2, .int .i64 e2, .int .i64 a2]) rfl rfl rfl (setRow_heap _ _ _ _ _ _ HU5.out) Try.underlying28 rfl sizeRo ⟨by rw [HX.out]; rfl, below_setRow HB5.out (by omega) _⟩
    · obtain ⟨rfl, rfl, rfl⟩ : t2 = 0 ∧ e2 = 0 ∧ a2 = 0 := by have := HTC.out rfl; simp only [Wn.mk.injEq] at this; exact this
      obtain ⟨vd, hvd⟩ : ∃ x, verdV p ⟨tot, err, age⟩ = x := ⟨_, rfl⟩
      rw [hvd] at HCL
      have HX := Box.mk (show judgeR ⟨st, stage, healthy, ⟨0, 0, 0⟩⟩ p vd = R by rw [HX.out, if_pos rfl, HCL.out])
      have HVD := Box.mk hvd
      have HS := Box.mk (show p.ws.length ≤ 8 ∧ -9223372036854775808 ≤ stage ∧ stage < p.ws.length ∧ -9223372036854775808 ≤ healthy ∧ healthy ≤ 1000000 by
        have h1 := HNUM.out; have h2 := HST.out; unfold Pl.nums at h1; unfold Ro.rng i64P at h2; simp only at h2; omega)
      clear hvd HCL HTC HST HNUM
      go_upto_region 7 with fail
      rename_i K hK
      refine wp_region_last (S := [some (.val (.agg (Ro.cells ⟨st, stage, healthy, ⟨0, 0, 0⟩⟩))), some (.val (PlV a c p)), some (.val (PlV a c p)), some (.val (.agg (Wn.cells ⟨tot, err, age⟩))), some (.val (.int .i64 vd)), some (.val (.agg R.cells)), none]) 6
        (by kernel_rfl) (by kernel_rfl) (by kernel_rfl) (by kernel_rfl) rfl rfl rfl ?_ ?_
      · refine ⟨?_, ?_, ?_, ?_, ?_, ?_, trivial⟩ <;> intro a' w6 hb hf hd
        · exact ⟨wanted_none rfl, loc_load_rowG rfl (hf.base 2 rfl) (HV5.out.keep hb).row Try.underlying28 rfl (sizeRoD ⟨st, stage, healthy, ⟨0, 0, 0⟩⟩) rfl⟩
        · exact ⟨wanted_none rfl, loc_load_rowG rfl (hf.base 3 rfl) (HQ5.out.keep hb).row Try.underlying30 rfl (sizePl a c p) rfl⟩
        · exact ⟨wanted_none rfl, loc_load_rowG rfl (hf.base 3 rfl) (HQ5.out.keep hb).row Try.underlying30 rfl (sizePl a c p) rfl⟩
        · exact ⟨wanted_none rfl, loc_load_rowG rfl (hf.base 5 rfl) (HBF5.out.keep hb).row Try.underlying26 rfl sizeWn rfl⟩
        · exact ⟨wanted_none rfl, loc_call rfl (by kernel_rfl) (rVerdict_v w6 (show a'.eval (.tmp 26) = _ from hd 2 rfl) (show a'.eval (.tmp 27) = _ from hd 3 rfl) (HI5.out.keepP hb) HVD.out)⟩
        · exact ⟨wanted_none rfl, loc_call rfl (by kernel_rfl) (rJudge_v (r := ⟨st, stage, healthy, ⟨0, 0, 0⟩⟩) w6 (show a'.eval (.tmp 24) = _ from hd 0 rfl) (show a'.eval (.tmp 25) = _ from hd 1 rfl) (show a'.eval (.tmp 28) = _ from hd 4 rfl) (HI5.out.keepP hb) HS.out.1 HS.out.2.1 HS.out.2.2.1 HS.out.2.2.2.1 HS.out.2.2.2.2 HX.out)⟩
      · intro a' w6 hb hf hd
        refine ⟨wanted_none rfl, ?_⟩
        have e29 : a'.eval (.tmp 29) = .agg R.cells := hd 5 (by decide) (by decide)
        have HB6 := Box.mk (below_trans HB5.out hb)
        have HU6 := Box.mk (HU5.out.keep hb)
        refine wp_store_row 28 _ _ rfl (w.heap.size + 2) R.cells (hf.base 4 rfl) e29 28 _ HU6.out (sizeRoD _) rfl (oneRoC _) ?_
        have HN := Box.mk (show VarA (w6.setRow (w.heap.size + 2) R.cells) (w.heap.size + 2) R.cells 28 ∧ Below w.heap.size w (w6.setRow (w.heap.size + 2) R.cells) from ⟨setRow_heap _ _ _ _ _ _ HU6.out, below_setRow HB6.out (by omega) _⟩)
        refine hK _ _ ?_
        rw [fr_putAll hf]
        simp only [putAll, e29]
        clear hf hd hb e29 HB6 HU6
        generalize a'.eval (.tmp 24) = u24
        generalize a'.eval (.tmp 25) = u25
        generalize a'.eval (.tmp 26) = u26
        generalize a'.eval (.tmp 27) = u27
        generalize a'.eval (.tmp 28) = u28
        simp only [Act.put, List.setIfInBounds_toArray, List.set_cons_succ, List.set_cons_zero]
        go_wp2_with fail
        (try simp only [Exit.inBlock, Exit.then])
        refine ret_rowQ (cs := R.cells) rfl rfl rfl HN.out.1 Try.underlying28 rfl (sizeRoD _) ⟨rfl, HN.out.2⟩
  · have d1 := bne_i_yes h1
    have HX := Box.mk (HN.out h1)
    clear HY HN h1 HCL
    go_wp2_with (refine wpList_store_row rfl 28 _ _ rfl (w.heap.size + 2) #[.int .i64 st, .int .i64 stage, .int .i64 healthy, .int .i64 tot, .int .i64 err, .int .i64 age] rfl rfl 28 _ HU.out sizeRo rfl (oneRo ..) ?_)
    (try simp only [Exit.inBlock, Exit.then])
    refine ret_rowQ (cs := #[.int .i64 st, .int .i64 stage, .int .i64 healthy, .int .i64 tot, .int .i64 err, .int .i64 age]) rfl rfl rfl (setRow_heap _ _ _ _ _ _ HU.out) Try.underlying28 rfl sizeRo ⟨by rw [HX.out]; rfl, below_setRow HB.out (by omega) _⟩

theorem weightV_live {r : Ro} {p : Pl} (h : r.st = 1 ∨ r.st = 4) : weightV r p = stageW p r.stage := by unfold weightV; rw [if_pos h]
set_option maxRecDepth 10000 in
set_option maxHeartbeats 2000000 in
theorem rWeight_any (r : Ro) (p : Pl) (a : Option Addr) (c : Nat) (w : World) (h : IsInts w a p.ws c) :
    Calls Try.prog 14 #[.agg r.cells, PlV a c p] w fun e w' => e = .returned (.int .i64 (weightV r p)) ∧ Below w.heap.size w w' := by
  obtain ⟨x, hx⟩ : ∃ x, x = weightV r p := ⟨_, rfl⟩
  rw [← hx]
  have HX := Box.mk hx
  clear hx
  obtain ⟨st, stage, healthy, ⟨tot, err, age⟩⟩ := r
  unfold Ro.cells
  simp only
  obtain ⟨W, hW⟩ : ∃ W, W = ((w.alloc (.cells #[.int .i64 st, .int .i64 stage, .int .i64 healthy, .int .i64 tot, .int .i64 err, .int .i64 age] 28)).alloc (.cells (PlC a c p) 30)) := ⟨_, rfl⟩
  have HB := Box.mk (show Below w.heap.size w W by rw [hW]; exact below_twoF (below_oneF w _) _)
  have HV := Box.mk (show VarA W w.heap.size #[.int .i64 st, .int .i64 stage, .int .i64 healthy, .int .i64 tot, .int .i64 err, .int .i64 age] 28 by rw [hW]; exact (VarA.new w #[.int .i64 st, .int .i64 stage, .int .i64 healthy, .int .i64 tot, .int .i64 err, .int .i64 age] 28).below (.cells (PlC a c p) 30))
  have HQ := Box.mk (show VarA W (w.heap.size + 1) (PlC a c p) 30 by rw [hW]; have := VarA.new (w.alloc (.cells #[.int .i64 st, .int .i64 stage, .int .i64 healthy, .int .i64 tot, .int .i64 err, .int .i64 age] 28)) (PlC a c p) 30; rw [World.size_alloc] at this; exact this)
  have HI := Box.mk (h.keepP HB.out)
  clear h
  unfold PlV
  go_enter Try.func14, Try.ntmps14
  go_upto_region 1 with fail
  change Code.wp _ _ _ _ ((w.alloc (.cells #[.int .i64 st, .int .i64 stage, .int .i64 healthy, .int .i64 tot, .int .i64 err, .int .i64 age] 28)).alloc (.cells (PlC a c p) 30))
  rw [← hW]
  clear hW
  have c0 := HV.out.cell (i := 0) (v := .int .i64 st) rfl
  have c1 := HV.out.cell (i := 1) (v := .int .i64 stage) rfl
  have c2 := HV.out.cell (i := 2) (v := .int .i64 healthy) rfl
  have c3 := HV.out.cell (i := 3) (v := .int .i64 tot) rfl
  have c4 := HV.out.cell (i := 4) (v := .int .i64 err) rfl
  have c5 := HV.out.cell (i := 5) (v := .int .i64 age) rfl
  have q0 := HQ.out.cell (i := 0) (v := .slice a p.ws.length c) rfl
  have q1 := HQ.out.cell (i := 1) (v := .int .i64 p.ms) rfl
  have q2 := HQ.out.cell (i := 2) (v := .int .i64 p.num) rfl
  have q3 := HQ.out.cell (i := 3) (v := .int .i64 p.den) rfl
  have q4 := HQ.out.cell (i := 4) (v := .int .i64 p.hold) rfl
  have q5 := HQ.out.cell (i := 5) (v := .int .i64 p.win) rfl
  by_cases h1 : st = 1
  · have d1 := beq_i_yes h1
    have HY := Box.mk (show stageW p stage = x by rw [HX.out, weightV_live (by simp only; left; exact h1)])
    clear HX h1
    go_wp2_with fail
    change Calls _ _ #[PlV a c p, .int .i64 stage] W _
    refine (pWeight_all p a c stage W HI.out).mono ?_
    rintro e w1 ⟨he, hb⟩
    rw [HY.out] at he
    subst he
    have HB1 := Box.mk (below_trans HB.out hb)
    clear hb HV HQ HB HI c0 c1 c2 c3 c4 c5 q0 q1 q2 q3 q4 q5
    go_wp2_with fail
    go_ret
    exact ⟨rfl, HB1.out⟩
  · have d1 := beq_i_no h1
    by_cases h4 : st = 4
    · have d4 := beq_i_yes h4
      have HY := Box.mk (show stageW p stage = x by rw [HX.out, weightV_live (by simp only; right; exact h4)])
      clear HX h1 h4
      go_wp2_with fail
      change Calls _ _ #[PlV a c p, .int .i64 stage] W _
      refine (pWeight_all p a c stage W HI.out).mono ?_
      rintro e w1 ⟨he, hb⟩
      rw [HY.out] at he
      subst he
      have HB1 := Box.mk (below_trans HB.out hb)
      clear hb HV HQ HB HI c0 c1 c2 c3 c4 c5 q0 q1 q2 q3 q4 q5
      go_wp2_with fail
      go_ret
      exact ⟨rfl, HB1.out⟩
    · have d4 := beq_i_no h4
      by_cases h2 : st = 2
      · have d2 := beq_i_yes h2
        have HY := Box.mk (show (10000 : Int) = x by rw [HX.out]; unfold weightV; rw [if_neg (by simp only; omega), if_pos h2])
        clear HX h1 h4 h2
        go_wp2_with fail
        go_ret
        exact ⟨ret_int HY.out, HB.out⟩
      · have d2 := beq_i_no h2
        have HY := Box.mk (show (0 : Int) = x by rw [HX.out]; unfold weightV; rw [if_neg (by simp only; omega), if_neg h2])
        clear HX h1 h4 h2
        go_wp2_with fail
        go_ret
        exact ⟨ret_int HY.out, HB.out⟩

set_option maxRecDepth 10000 in
set_option maxHeartbeats 4000000 in
theorem rStep_any (r : Ro) (p : Pl) (x : Int × Int) (a : Option Addr) (c : Nat) (w : World) (hp : p.ok = true) (h : IsInts w a p.ws c) (hr : r.rng) (hs : r.stage < p.ws.length) (hh : r.healthy ≤ 1000000) :
    Calls Try.prog 16 #[.agg r.cells, PlV a c p, .agg #[.int .i64 x.1, .int .i64 x.2]] w fun e w' => e = .returned (.agg (stepV r p x).cells) ∧ Below w.heap.size w w' := by
  obtain ⟨R, hR⟩ : ∃ y, y = stepV r p x := ⟨_, rfl⟩
  rw [← hR]
  have HX := Box.mk hR
  clear hR
  have HP := Box.mk (And.intro hp (And.intro hr (And.intro hs hh)))
  clear hp hr hs hh
  obtain ⟨kd, cm⟩ := x
  obtain ⟨r', hr'⟩ : ∃ r', r' = r := ⟨_, rfl⟩
  rw [← hr'] at HX HP
  have HRR := Box.mk hr'
  clear hr'
  obtain ⟨st, stage, healthy, ⟨tot, err, age⟩⟩ := r
  unfold stepV at HX
  simp only at HX
  rw [show Ro.cells ⟨st, stage, healthy, ⟨tot, err, age⟩⟩ = #[.int .i64 st, .int .i64 stage, .int .i64 healthy, .int .i64 tot, .int .i64 err, .int .i64 age] from rfl]
  obtain ⟨RC, hRC⟩ : ∃ RC, RC = R.cells := ⟨_, rfl⟩
  rw [← hRC]
  have HRC := Box.mk hRC
  clear hRC
  simp only
  obtain ⟨W, hW⟩ : ∃ W, W = ((((w.alloc (.cells #[.int .i64 st, .int .i64 stage, .int .i64 healthy, .int .i64 tot, .int .i64 err, .int .i64 age] 28)).alloc (.cells (PlC a c p) 30)).alloc (.cells #[.int .i64 kd, .int .i64 cm] 24)).alloc (.cells #[.int .i64 0, .int .i64 0, .int .i64 0, .int .i64 0, .int .i64 0, .int .i64 0] 28)) := ⟨_, rfl⟩
  have HB := Box.mk (show Below w.heap.size w W by rw [hW]; exact below_twoF (below_twoF (below_twoF (below_oneF w _) _) _) _)
  have HV := Box.mk (show VarA W w.heap.size #[.int .i64 st, .int .i64 stage, .int .i64 healthy, .int .i64 tot, .int .i64 err, .int .i64 age] 28 by rw [hW]; exact (((VarA.new w #[.int .i64 st, .int .i64 stage, .int .i64 healthy, .int .i64 tot, .int .i64 err, .int .i64 age] 28).below (.cells (PlC a c p) 30)).below (.cells #[.int .i64 kd, .int .i64 cm] 24)).below (.cells #[.int .i64 0, .int .i64 0, .int .i64 0, .int .i64 0, .int .i64 0, .int .i64 0] 28))
  have HQ := Box.mk (show VarA W (w.heap.size + 1) (PlC a c p) 30 by rw [hW]; have := ((VarA.new (w.alloc (.cells #[.int .i64 st, .int .i64 stage, .int .i64 healthy, .int .i64 tot, .int .i64 err, .int .i64 age] 28)) (PlC a c p) 30).below (.cells #[.int .i64 kd, .int .i64 cm] 24)).below (.cells #[.int .i64 0, .int .i64 0, .int .i64 0, .int .i64 0, .int .i64 0, .int .i64 0] 28); rw [World.size_alloc] at this; exact this)
  have HXI := Box.mk (show VarA W (w.heap.size + 2) #[.int .i64 kd, .int .i64 cm] 24 by rw [hW]; have := (VarA.new ((w.alloc (.cells #[.int .i64 st, .int .i64 stage, .int .i64 healthy, .int .i64 tot, .int .i64 err, .int .i64 age] 28)).alloc (.cells (PlC a c p) 30)) #[.int .i64 kd, .int .i64 cm] 24).below (.cells #[.int .i64 0, .int .i64 0, .int .i64 0, .int .i64 0, .int .i64 0, .int .i64 0] 28); rw [World.size_alloc, World.size_alloc] at this; exact this)
  have HU := Box.mk (show VarA W (w.heap.size + 3) #[.int .i64 0, .int .i64 0, .int .i64 0, .int .i64 0, .int .i64 0, .int .i64 0] 28 by rw [hW]; have := VarA.new (((w.alloc (.cells #[.int .i64 st, .int .i64 stage, .int .i64 healthy, .int .i64 tot, .int .i64 err, .int .i64 age] 28)).alloc (.cells (PlC a c p) 30)).alloc (.cells #[.int .i64 kd, .int .i64 cm] 24)) #[.int .i64 0, .int .i64 0, .int .i64 0, .int .i64 0, .int .i64 0, .int .i64 0] 28; rw [World.size_alloc, World.size_alloc, World.size_alloc] at this; exact this)
  have HI := Box.mk (h.keepP HB.out)
  clear h
  unfold PlV
  go_enter Try.func16, Try.ntmps16
  go_upto_region 1 with fail
  change Code.wp _ _ _ _ ((((w.alloc (.cells #[.int .i64 st, .int .i64 stage, .int .i64 healthy, .int .i64 tot, .int .i64 err, .int .i64 age] 28)).alloc (.cells (PlC a c p) 30)).alloc (.cells #[.int .i64 kd, .int .i64 cm] 24)).alloc (.cells #[.int .i64 0, .int .i64 0, .int .i64 0, .int .i64 0, .int .i64 0, .int .i64 0] 28))
  rw [← hW]
  clear hW
  have c0 := HV.out.cell (i := 0) (v := .int .i64 st) rfl
  have c1 := HV.out.cell (i := 1) (v := .int .i64 stage) rfl
  have c2 := HV.out.cell (i := 2) (v := .int .i64 healthy) rfl
  have c3 := HV.out.cell (i := 3) (v := .int .i64 tot) rfl
  have c4 := HV.out.cell (i := 4) (v := .int .i64 err) rfl
  have c5 := HV.out.cell (i := 5) (v := .int .i64 age) rfl
  have q0 := HQ.out.cell (i := 0) (v := .slice a p.ws.length c) rfl
  have q1 := HQ.out.cell (i := 1) (v := .int .i64 p.ms) rfl
  have q2 := HQ.out.cell (i := 2) (v := .int .i64 p.num) rfl
  have q3 := HQ.out.cell (i := 3) (v := .int .i64 p.den) rfl
  have q4 := HQ.out.cell (i := 4) (v := .int .i64 p.hold) rfl
  have q5 := HQ.out.cell (i := 5) (v := .int .i64 p.win) rfl
  have x0 := HXI.out.cell (i := 0) (v := .int .i64 kd) rfl
  have x1 := HXI.out.cell (i := 1) (v := .int .i64 cm) rfl
  by_cases k1 : kd = 1
  · have e1 := beq_i_yes k1
    have HY := Box.mk (show tickR r' p = R by rw [HX.out, if_pos k1])
    clear HX k1
    go_wp2_with fail
    change Calls _ _ #[.agg (Ro.cells ⟨st, stage, healthy, ⟨tot, err, age⟩⟩), PlV a c p] W _
    rw [← HRR.out]
    refine (rTick_any r' p a c W HP.out.1 HI.out HP.out.2.1 HP.out.2.2.1 HP.out.2.2.2).mono ?_
    rw [HY.out]
    rintro e w1 ⟨he, hb⟩
    obtain ⟨z1, z2, z3, ⟨z4, z5, z6⟩⟩ := R
    have HC := Box.mk (show RC = #[.int .i64 z1, .int .i64 z2, .int .i64 z3, .int .i64 z4, .int .i64 z5, .int .i64 z6] from HRC.out)
    rw [show Ro.cells ⟨z1, z2, z3, ⟨z4, z5, z6⟩⟩ = #[.int .i64 z1, .int .i64 z2, .int .i64 z3, .int .i64 z4, .int .i64 z5, .int .i64 z6] from rfl] at he
    subst he
    have HB1 := Box.mk (below_trans HB.out hb)
    have HU1 := Box.mk (HU.out.keep hb)
    clear hb HV HU HB HQ HXI c0 c1 c2 c3 c4 c5 q0 q1 q2 q3 q4 q5 x0 x1
    go_wp2_with (refine wpList_store_row rfl 28 _ _ rfl (w.heap.size + 3) #[.int .i64 z1, .int .i64 z2, .int .i64 z3, .int .i64 z4, .int .i64 z5, .int .i64 z6] rfl rfl 28 _ HU1.out sizeRo rfl (oneRo ..) ?_)
    (try simp only [Exit.inBlock, Exit.then])
    refine ret_rowQ (cs := #[.int .i64 z1, .int .i64 z2, .int .i64 z3, .int .i64 z4, .int .i64 z5, .int .i64 z6]) rfl rfl rfl (setRow_heap _ _ _ _ _ _ HU1.out) Try.underlying28 rfl sizeRo ⟨by rw [HC.out], below_setRow HB1.out (by omega) _⟩
  · have e1 := beq_i_no k1
    by_cases k2 : kd = 2
    · have e2 := beq_i_yes k2
      have HY := Box.mk (show obsV r' false = R by rw [HX.out, if_neg k1, if_pos k2])
      clear HX k1 k2
      go_wp2_with fail
      change Calls _ _ #[.agg (Ro.cells ⟨st, stage, healthy, ⟨tot, err, age⟩⟩), .bool false] W _
      rw [← HRR.out]
      refine (rObserve_any r' false W HP.out.2.1.2.2.2).mono ?_
      rw [HY.out]
      rintro e w1 ⟨he, hb⟩
      obtain ⟨z1, z2, z3, ⟨z4, z5, z6⟩⟩ := R
      have HC := Box.mk (show RC = #[.int .i64 z1, .int .i64 z2, .int .i64 z3, .int .i64 z4, .int .i64 z5, .int .i64 z6] from HRC.out)
      rw [show Ro.cells ⟨z1, z2, z3, ⟨z4, z5, z6⟩⟩ = #[.int .i64 z1, .int .i64 z2, .int .i64 z3, .int .i64 z4, .int .i64 z5, .int .i64 z6] from rfl] at he
      subst he
      have HB1 := Box.mk (below_trans HB.out hb)
      have HU1 := Box.mk (HU.out.keep hb)
      clear hb HV HU HB HQ HXI c0 c1 c2 c3 c4 c5 q0 q1 q2 q3 q4 q5 x0 x1
      go_wp2_with (refine wpList_store_row rfl 28 _ _ rfl (w.heap.size + 3) #[.int .i64 z1, .int .i64 z2, .int .i64 z3, .int .i64 z4, .int .i64 z5, .int .i64 z6] rfl rfl 28 _ HU1.out sizeRo rfl (oneRo ..) ?_)
      (try simp only [Exit.inBlock, Exit.then])
      refine ret_rowQ (cs := #[.int .i64 z1, .int .i64 z2, .int .i64 z3, .int .i64 z4, .int .i64 z5, .int .i64 z6]) rfl rfl rfl (setRow_heap _ _ _ _ _ _ HU1.out) Try.underlying28 rfl sizeRo ⟨by rw [HC.out], below_setRow HB1.out (by omega) _⟩
    · have e2 := beq_i_no k2
      by_cases k3 : kd = 3
      · have e3 := beq_i_yes k3
        have HY := Box.mk (show obsV r' true = R by rw [HX.out, if_neg k1, if_neg k2, if_pos k3])
        clear HX k1 k2 k3
        go_wp2_with fail
        change Calls _ _ #[.agg (Ro.cells ⟨st, stage, healthy, ⟨tot, err, age⟩⟩), .bool true] W _
        rw [← HRR.out]
        refine (rObserve_any r' true W HP.out.2.1.2.2.2).mono ?_
        rw [HY.out]
        rintro e w1 ⟨he, hb⟩
        obtain ⟨z1, z2, z3, ⟨z4, z5, z6⟩⟩ := R
        have HC := Box.mk (show RC = #[.int .i64 z1, .int .i64 z2, .int .i64 z3, .int .i64 z4, .int .i64 z5, .int .i64 z6] from HRC.out)
        rw [show Ro.cells ⟨z1, z2, z3, ⟨z4, z5, z6⟩⟩ = #[.int .i64 z1, .int .i64 z2, .int .i64 z3, .int .i64 z4, .int .i64 z5, .int .i64 z6] from rfl] at he
        subst he
        have HB1 := Box.mk (below_trans HB.out hb)
        have HU1 := Box.mk (HU.out.keep hb)
        clear hb HV HU HB HQ HXI c0 c1 c2 c3 c4 c5 q0 q1 q2 q3 q4 q5 x0 x1
        go_wp2_with (refine wpList_store_row rfl 28 _ _ rfl (w.heap.size + 3) #[.int .i64 z1, .int .i64 z2, .int .i64 z3, .int .i64 z4, .int .i64 z5, .int .i64 z6] rfl rfl 28 _ HU1.out sizeRo rfl (oneRo ..) ?_)
        (try simp only [Exit.inBlock, Exit.then])
        refine ret_rowQ (cs := #[.int .i64 z1, .int .i64 z2, .int .i64 z3, .int .i64 z4, .int .i64 z5, .int .i64 z6]) rfl rfl rfl (setRow_heap _ _ _ _ _ _ HU1.out) Try.underlying28 rfl sizeRo ⟨by rw [HC.out], below_setRow HB1.out (by omega) _⟩
      · have e3 := beq_i_no k3
        by_cases k4 : kd = 4
        · have e4 := beq_i_yes k4
          have HY := Box.mk (show R = if (cmdV r' cm).2 = 0 then (cmdV r' cm).1 else r' by rw [HX.out, if_neg k1, if_neg k2, if_neg k3, if_pos k4])
          clear HX k1 k2 k3 k4
          go_wp2_with fail
          change Calls _ _ #[.agg (Ro.cells ⟨st, stage, healthy, ⟨tot, err, age⟩⟩), .int .i64 cm] W _
          rw [← HRR.out]
          refine (rCommand_any r' cm W).mono ?_
          rintro e w1 ⟨he, hb⟩
          generalize cmdV r' cm = cv at *
          obtain ⟨⟨z1, z2, z3, ⟨z4, z5, z6⟩⟩, er⟩ := cv
          rw [show Ro.cells ⟨z1, z2, z3, ⟨z4, z5, z6⟩⟩ = #[.int .i64 z1, .int .i64 z2, .int .i64 z3, .int .i64 z4, .int .i64 z5, .int .i64 z6] from rfl] at he
          simp only at he HY
          subst he
          have HB1 := Box.mk (below_trans HB.out hb)
          have HU1 := Box.mk (HU.out.keep hb)
          have HV1 := Box.mk (HV.out.keep hb)
          clear hb HV HU HB HQ HXI c0 c1 c2 c3 c4 c5 q0 q1 q2 q3 q4 q5 x0 x1
          have HGN := Box.mk (show w.heap.size + 3 < w1.heap.size from HU1.out.lt)
          obtain ⟨W3, hW3⟩ : ∃ y, y = (w1.alloc (.cells #[.int .i64 0, .int .i64 0, .int .i64 0, .int .i64 0, .int .i64 0, .int .i64 0] 28)).setRow w1.heap.size #[.int .i64 z1, .int .i64 z2, .int .i64 z3, .int .i64 z4, .int .i64 z5, .int .i64 z6] := ⟨_, rfl⟩
          have HB3 := Box.mk (show Below w.heap.size w W3 by rw [hW3]; exact below_setRow (below_twoF HB1.out _) (by have := HGN.out; omega) _)
          have HV3 := Box.mk (show VarA W3 w.heap.size #[.int .i64 st, .int .i64 stage, .int .i64 healthy, .int .i64 tot, .int .i64 err, .int .i64 age] 28 by rw [hW3]; exact (HV1.out.below _).row_other (by have := HGN.out; omega))
          have HU3 := Box.mk (show VarA W3 (w.heap.size + 3) #[.int .i64 0, .int .i64 0, .int .i64 0, .int .i64 0, .int .i64 0, .int .i64 0] 28 by rw [hW3]; exact (HU1.out.below _).row_other (by have := HGN.out; omega))
          have HN3 := Box.mk (show VarA W3 w1.heap.size #[.int .i64 z1, .int .i64 z2, .int .i64 z3, .int .i64 z4, .int .i64 z5, .int .i64 z6] 28 by rw [hW3]; exact setRow_heap _ _ _ _ _ _ (VarA.new _ _ _))
          go_upto_region 10 with (refine wpList_store_row rfl 28 _ _ rfl w1.heap.size #[.int .i64 z1, .int .i64 z2, .int .i64 z3, .int .i64 z4, .int .i64 z5, .int .i64 z6] rfl rfl 28 _ (VarA.new _ _ _) sizeRo rfl (oneRo ..) ?_)
          change Code.wp _ _ _ _ ((w1.alloc (.cells #[.int .i64 0, .int .i64 0, .int .i64 0, .int .i64 0, .int .i64 0, .int .i64 0] 28)).setRow w1.heap.size #[.int .i64 z1, .int .i64 z2, .int .i64 z3, .int .i64 z4, .int .i64 z5, .int .i64 z6])
          rw [← hW3]
          clear hW3 HV1 HU1 HB1
          generalize w1.heap.size = gn at *
          by_cases h0 : er = 0
          · have d0 := beq_i_yes h0
            have HC := Box.mk (show RC = #[.int .i64 z1, .int .i64 z2, .int .i64 z3, .int .i64 z4, .int .i64 z5, .int .i64 z6] by rw [HRC.out, HY.out, if_pos h0]; rfl)
            clear h0 HY HRC
            have c0 := HN3.out.cell (i := 0) (v := .int .i64 z1) rfl
            have c1 := HN3.out.cell (i := 1) (v := .int .i64 z2) rfl
            have c2 := HN3.out.cell (i := 2) (v := .int .i64 z3) rfl
            have c3 := HN3.out.cell (i := 3) (v := .int .i64 z4) rfl
            have c4 := HN3.out.cell (i := 4) (v := .int .i64 z5) rfl
            have c5 := HN3.out.cell (i := 5) (v := .int .i64 z6) rfl
            go_wp2_with (refine wpList_store_row rfl 28 _ _ rfl (w.heap.size + 3) #[.int .i64 z1, .int .i64 z2, .int .i64 z3, .int .i64 z4, .int .i64 z5, .int .i64 z6] rfl rfl 28 _ HU3.out sizeRo rfl (oneRo ..) ?_)
            (try simp only [Exit.inBlock, Exit.then])
            refine ret_rowQ (cs := #[.int .i64 z1, .int .i64 z2, .int .i64 z3, .int .i64 z4, .int .i64 z5, .int .i64 z6]) rfl rfl rfl (setRow_heap _ _ _ _ _ _ HU3.out) Try.underlying28 rfl sizeRo ⟨by rw [HC.out], below_setRow HB3.out (by omega) _⟩
          · have d0 := beq_i_no h0
            have HC := Box.mk (show RC = #[.int .i64 st, .int .i64 stage, .int .i64 healthy, .int .i64 tot, .int .i64 err, .int .i64 age] by rw [HRC.out, HY.out, if_neg h0, HRR.out]; rfl)
            clear h0 HY HRC
            have c0 := HV3.out.cell (i := 0) (v := .int .i64 st) rfl
            have c1 := HV3.out.cell (i := 1) (v := .int .i64 stage) rfl
            have c2 := HV3.out.cell (i := 2) (v := .int .i64 healthy) rfl
            have c3 := HV3.out.cell (i := 3) (v := .int .i64 tot) rfl
            have c4 := HV3.out.cell (i := 4) (v := .int .i64 err) rfl
            have c5 := HV3.out.cell (i := 5) (v := .int .i64 age) rfl
            go_wp2_with (refine wpList_store_row rfl 28 _ _ rfl (w.heap.size + 3) #[.int .i64 st, .int .i64 stage, .int .i64 healthy, .int .i64 tot, .int .i64 err, .int .i64 age] rfl rfl 28 _ HU3.out sizeRo rfl (oneRo ..) ?_)
            (try simp only [Exit.inBlock, Exit.then])
            refine ret_rowQ (cs := #[.int .i64 st, .int .i64 stage, .int .i64 healthy, .int .i64 tot, .int .i64 err, .int .i64 age]) rfl rfl rfl (setRow_heap _ _ _ _ _ _ HU3.out) Try.underlying28 rfl sizeRo ⟨by rw [HC.out], below_setRow HB3.out (by omega) _⟩
        · have e4 := beq_i_no k4
          have HC := Box.mk (show RC = #[.int .i64 st, .int .i64 stage, .int .i64 healthy, .int .i64 tot, .int .i64 err, .int .i64 age] by rw [HRC.out, HX.out, if_neg k1, if_neg k2, if_neg k3, if_neg k4, HRR.out]; rfl)
          clear HX HRC k1 k2 k3 k4
          go_wp2_with (refine wpList_store_row rfl 28 _ _ rfl (w.heap.size + 3) #[.int .i64 st, .int .i64 stage, .int .i64 healthy, .int .i64 tot, .int .i64 err, .int .i64 age] rfl rfl 28 _ HU.out sizeRo rfl (oneRo ..) ?_)
          (try simp only [Exit.inBlock, Exit.then])
          refine ret_rowQ (cs := #[.int .i64 st, .int .i64 stage, .int .i64 healthy, .int .i64 tot, .int .i64 err, .int .i64 age]) rfl rfl rfl (setRow_heap _ _ _ _ _ _ HU.out) Try.underlying28 rfl sizeRo ⟨by rw [HC.out], below_setRow HB.out (by omega) _⟩

theorem rStep_inv {r r' : Ro} {p : Pl} {x : Int × Int} {a : Option Addr} {c : Nat} (w : World) (hp : p.ok = true) (hI : r.inv p) (h : IsInts w a p.ws c) (hr : stepV r p x = r') :
    Calls Try.prog 16 #[.agg r.cells, PlV a c p, .agg #[.int .i64 x.1, .int .i64 x.2]] w fun e w' => e = .returned (.agg r'.cells) ∧ Below w.heap.size w w' := by
  subst hr
  have u := hI.use hp
  exact rStep_any r p x a c w hp h u.1 hI.2.1.2 u.2.2.1
set_option maxRecDepth 100000 in
set_option maxHeartbeats 4000000 in
theorem rRun_any (p : Pl) (l : List Inp) (a b : Option Addr) (c d : Nat) (w : World) (hp : p.ok = true) (h : IsInts w a p.ws c) (hl : InpsIn w b l) (hlen : l.length ≤ 1000) :
    Calls Try.prog 19 #[PlV a c p, .slice b l.length d] w fun e w' => e = .returned (.agg (runV p l).cells) ∧ Below w.heap.size w w' := by
  obtain ⟨R, hR⟩ : ∃ R, R = runV p l := ⟨_, rfl⟩
  rw [← hR]
  have HR := Box.mk hR
  have HP := Box.mk hp
  have HH := Box.mk (And.intro h hl)
  clear hR hp h hl
  obtain ⟨W, hW⟩ : ∃ W, W = ((w.alloc (.cells (PlC a c p) 30)).alloc (.cells (roS 0).cells 28)).alloc (.cells (roS 0).cells 28) := ⟨_, rfl⟩
  have HB := Box.mk (show Below w.heap.size w W by rw [hW]; exact below_twoF (below_twoF (below_oneF w _) _) _)
  have HV := Box.mk (show VarA W w.heap.size (PlC a c p) 30 by rw [hW]; exact ((VarA.new _ _ _).below _).below _)
  have HU := Box.mk (show VarA W (w.heap.size + 1) (roS 0).cells 28 by rw [hW]; have := (VarA.new (w.alloc (.cells (PlC a c p) 30)) (roS 0).cells 28).below (.cells (roS 0).cells 28); rw [World.size_alloc] at this; exact this)
  have HS := Box.mk (show VarA W (w.heap.size + 2) (roS 0).cells 28 by rw [hW]; have := VarA.new ((w.alloc (.cells (PlC a c p) 30)).alloc (.cells (roS 0).cells 28)) (roS 0).cells 28; rw [World.size_alloc, World.size_alloc] at this; exact this)
  unfold PlV
  go_enter Try.func19, Try.ntmps19
  go_upto_region 2 with fail
  change Code.wp _ _ _ _ (((w.alloc (.cells (PlC a c p) 30)).alloc (.cells (roS 0).cells 28)).alloc (.cells (roS 0).cells 28))
  rw [← hW]
  clear hW
  generalize hg : w.heap.size = g at HB HV HU HS ⊢
  have HG := Box.mk hg
  clear hg
  go_wp2_with fail
  go_loopw [10] (fun iv wr => ∃ k : Nat, k ≤ l.length ∧ iv = .int .i64 k ∧ Box (VarA wr (g + 2) (runV p (l.take k)).cells 28 ∧ VarA wr g (PlC a c p) 30 ∧ VarA wr (g + 1) (roS 0).cells 28 ∧ Below g w wr)) (fun iv _ => l.length - (intOf iv).toNat)
  case atStart => exact ⟨0, Nat.zero_le _, rfl, ⟨HS.out, HV.out, HU.out, HB.out⟩⟩
  case round =>
    clear HS HV HU HB
    obtain ⟨k, hk, rfl, HI⟩ := hrel
    have HBW := Box.mk (show Below w.heap.size w wr by rw [HG.out]; exact HI.out.2.2.2)
    by_cases hlt : k < l.length
    · obtain ⟨x, rfl, hx1, hx2⟩ := HH.out.2 k hlt
      clear hx1 hx2
      have HROW := Box.mk ((HH.out.2.keep HBW.out).row hlt)
      have HST := Box.mk (runV_snoc p l k hlt)
      have HINV := Box.mk (runV_inv HP.out l k hk)
      have HPI := Box.mk (HH.out.1.keepP HBW.out)
      generalize l[k] = y at *
      obtain ⟨y1, y2⟩ := y
      simp only at HROW
      obtain ⟨R2, hR2⟩ : ∃ R2, runV p (l.take (k + 1)) = R2 := ⟨_, rfl⟩
      rw [hR2] at HST
      have HR2 := Box.mk hR2
      clear hR2
      generalize runV p (l.take k) = r at *
      have HGX := Box.mk (show g + 2 < wr.heap.size from HI.out.1.lt)
      obtain ⟨W2, hW2⟩ : ∃ W2, W2 = (wr.alloc (.cells #[.int .i64 0, .int .i64 0] 24)).setRow wr.heap.size #[.int .i64 y1, .int .i64 y2] := ⟨_, rfl⟩
      have HB2 := Box.mk (show Below wr.heap.size wr W2 by rw [hW2]; exact below_setRow (below_oneF _ _) (Nat.le_refl _) _)
      have HX2 := Box.mk (show VarA W2 wr.heap.size #[.int .i64 y1, .int .i64 y2] 24 by rw [hW2]; exact setRow_heap _ _ _ _ _ _ (VarA.new _ _ _))
      have HI2 := Box.mk (show VarA W2 (g + 2) r.cells 28 ∧ VarA W2 g (PlC a c p) 30 ∧ VarA W2 (g + 1) (roS 0).cells 28 ∧ Below g w W2 from ⟨HI.out.1.keep HB2.out, HI.out.2.1.keep HB2.out, HI.out.2.2.1.keep HB2.out, HI.out.2.2.2.trans (HB2.out.mono (by have := HGX.out; omega))⟩)
      have HPI2 := Box.mk (HPI.out.keepP HB2.out)
      go_upto_region 5 with (first | refine wpList_load_rowP rfl 24 _ rfl (x.add (k * 2)) #[.int .i64 y1, .int .i64 y2] _ rfl HROW.out Try.underlying24 rfl (sizeIn y1 y2) ?_ | refine wpList_store_row rfl 24 _ _ rfl wr.heap.size #[.int .i64 y1, .int .i64 y2] rfl rfl 24 _ (VarA.new _ _ _) (sizeIn y1 y2) rfl (by simp [Value.oneCell']) ?_)
      change Code.wp _ _ _ _ ((wr.alloc (.cells #[.int .i64 0, .int .i64 0] 24)).setRow wr.heap.size #[.int .i64 y1, .int .i64 y2])
      rw [← hW2]
      clear hW2 HROW HI HPI HBW HB2
      generalize wr.heap.size = gx at *
      obtain ⟨r1, r2, r3, ⟨r4, r5, r6⟩⟩ := r
      have HRV := Box.mk (show VarA W2 (g + 2) #[.int .i64 r1, .int .i64 r2, .int .i64 r3, .int .i64 r4, .int .i64 r5, .int .i64 r6] 28 from HI2.out.1)
      have c0 := HRV.out.cell (i := 0) (v := .int .i64 r1) rfl
      have c1 := HRV.out.cell (i := 1) (v := .int .i64 r2) rfl
      have c2 := HRV.out.cell (i := 2) (v := .int .i64 r3) rfl
      have c3 := HRV.out.cell (i := 3) (v := .int .i64 r4) rfl
      have c4 := HRV.out.cell (i := 4) (v := .int .i64 r5) rfl
      have c5 := HRV.out.cell (i := 5) (v := .int .i64 r6) rfl
      have HQ2 := Box.mk HI2.out.2.1
      have q0 := HQ2.out.cell (i := 0) (v := .slice a p.ws.length c) rfl
      have q1 := HQ2.out.cell (i := 1) (v := .int .i64 p.ms) rfl
      have q2 := HQ2.out.cell (i := 2) (v := .int .i64 p.num) rfl
      have q3 := HQ2.out.cell (i := 3) (v := .int .i64 p.den) rfl
      have q4 := HQ2.out.cell (i := 4) (v := .int .i64 p.hold) rfl
      have q5 := HQ2.out.cell (i := 5) (v := .int .i64 p.win) rfl
      have x0 := HX2.out.cell (i := 0) (v := .int .i64 y1) rfl
      have x1 := HX2.out.cell (i := 1) (v := .int .i64 y2) rfl
      go_wp2_with fail
      change Calls _ _ #[.agg (Ro.cells ⟨r1, r2, r3, ⟨r4, r5, r6⟩⟩), PlV a c p, .agg #[.int .i64 y1, .int .i64 y2]] W2 _
      refine (rStep_inv (x := (y1, y2)) W2 HP.out HINV.out HPI2.out HST.out.symm).mono ?_
      rintro e w3 ⟨he, hb⟩
      obtain ⟨z1, z2, z3, ⟨z4, z5, z6⟩⟩ := R2
      rw [show Ro.cells ⟨z1, z2, z3, ⟨z4, z5, z6⟩⟩ = #[.int .i64 z1, .int .i64 z2, .int .i64 z3, .int .i64 z4, .int .i64 z5, .int .i64 z6] from rfl] at he
      subst he
      have HI3 := Box.mk (show VarA w3 (g + 2) #[.int .i64 r1, .int .i64 r2, .int .i64 r3, .int .i64 r4, .int .i64 r5, .int .i64 r6] 28 ∧ VarA w3 g (PlC a c p) 30 ∧ VarA w3 (g + 1) (roS 0).cells 28 ∧ Below g w w3 from ⟨HI2.out.1.keep hb, HI2.out.2.1.keep hb, HI2.out.2.2.1.keep hb, HI2.out.2.2.2.trans (hb.mono (Nat.le_of_lt HI2.out.2.1.lt))⟩)
      clear hb HI2 HPI2 HX2 HRV HQ2 c0 c1 c2 c3 c4 c5 q0 q1 q2 q3 q4 q5 x0 x1 HST HINV
      have HN := Box.mk (show VarA (w3.setRow (g + 2) #[.int .i64 z1, .int .i64 z2, .int .i64 z3, .int .i64 z4, .int .i64 z5, .int .i64 z6]) (g + 2) #[.int .i64 z1, .int .i64 z2, .int .i64 z3, .int .i64 z4, .int .i64 z5, .int .i64 z6] 28 ∧ VarA (w3.setRow (g + 2) #[.int .i64 z1, .int .i64 z2, .int .i64 z3, .int .i64 z4, .int .i64 z5, .int .i64 z6]) g (PlC a c p) 30 ∧ VarA (w3.setRow (g + 2) #[.int .i64 z1, .int .i64 z2, .int .i64 z3, .int .i64 z4, .int .i64 z5, .int .i64 z6]) (g + 1) (roS 0).cells 28 ∧ Below g w (w3.setRow (g + 2) #[.int .i64 z1, .int .i64 z2, .int .i64 z3, .int .i64 z4, .int .i64 z5, .int .i64 z6]) from
        ⟨setRow_heap _ _ _ _ _ _ HI3.out.1, HI3.out.2.1.row_other (by omega), HI3.out.2.2.1.row_other (by omega), below_setRow HI3.out.2.2.2 (by omega) _⟩)
      go_upto_region 6 with (refine wpList_store_row rfl 28 _ _ rfl (g + 2) #[.int .i64 z1, .int .i64 z2, .int .i64 z3, .int .i64 z4, .int .i64 z5, .int .i64 z6] rfl rfl 28 _ HI3.out.1 sizeRo rfl (oneRo ..) ?_)
      change Code.wp _ _ _ _ (w3.setRow (g + 2) #[.int .i64 z1, .int .i64 z2, .int .i64 z3, .int .i64 z4, .int .i64 z5, .int .i64 z6])
      generalize (w3.setRow (g + 2) #[.int .i64 z1, .int .i64 z2, .int .i64 z3, .int .i64 z4, .int .i64 z5, .int .i64 z6]) = w4 at *
      clear HI3
      go_wp2_with fail
      go_roundw
      case rel => exact ⟨k + 1, by omega, by go_num, ⟨by rw [HR2.out]; exact HN.out.1, HN.out.2.1, HN.out.2.2.1, HN.out.2.2.2⟩⟩
      case measure => simp [intOf]; omega
    · have HE := Box.mk (show runV p (l.take k) = R by rw [HR.out, List.take_of_length_le (by omega)])
      have HI := Box.mk (HE.out ▸ HI.out)
      obtain ⟨st, stage, healthy, ⟨tot, err, age⟩⟩ := R
      have HV := Box.mk (show VarA wr (g + 2) #[.int .i64 st, .int .i64 stage, .int .i64 healthy, .int .i64 tot, .int .i64 err, .int .i64 age] 28 from HI.out.1)
      have HU := Box.mk (show VarA wr (g + 1) #[.int .i64 0, .int .i64 0, .int .i64 0, .int .i64 0, .int .i64 0, .int .i64 0] 28 from HI.out.2.2.1)
      have HB := Box.mk HI.out.2.2.2
      clear HE HBW
      have c0 := HV.out.cell (i := 0) (v := .int .i64 st) rfl
      have c1 := HV.out.cell (i := 1) (v := .int .i64 stage) rfl
      have c2 := HV.out.cell (i := 2) (v := .int .i64 healthy) rfl
      have c3 := HV.out.cell (i := 3) (v := .int .i64 tot) rfl
      have c4 := HV.out.cell (i := 4) (v := .int .i64 err) rfl
      have c5 := HV.out.cell (i := 5) (v := .int .i64 age) rfl
      go_wp2_with (refine wpList_store_row rfl 28 _ _ rfl (g + 1) #[.int .i64 st, .int .i64 stage, .int .i64 healthy, .int .i64 tot, .int .i64 err, .int .i64 age] rfl rfl 28 _ HU.out sizeRo rfl (oneRo ..) ?_)
      (try simp only [Exit.inBlock, Exit.then])
      refine ret_rowQ (cs := #[.int .i64 st, .int .i64 stage, .int .i64 healthy, .int .i64 tot, .int .i64 err, .int .i64 age]) rfl rfl rfl (setRow_heap _ _ _ _ _ _ HU.out) Try.underlying28 rfl sizeRo ⟨rfl, by rw [HG.out]; exact below_setRow HB.out (by omega) _⟩
end Go.Proofs.Ytfjnpegpfmaekaa
namespace Go.Proofs.Ytfjnpegpfmaekaa
open Go.RowKit
set_option linter.unusedSimpArgs false

theorem pVerdict_eq {p : Pl} {a : Option Addr} {c : Nat} {v : Wn} {r : Int} (w : World) (h : IsInts w a p.ws c) (hp : p.rng) (hv : v.rng) (hr : verdV p v = r) :
    Calls Try.prog 20 #[PlV a c p, .agg v.cells] w fun e w' => e = .returned (.int .i64 r) ∧ Below w.heap.size w w' := by subst hr; exact pVerdict_any p a c v w h hp hv

end Go.Proofs.Ytfjnpegpfmaekaa
namespace Go.Proofs.Ytfjnpegpfmaekaa
open Go.RowKit
set_option linter.unusedSimpArgs false

theorem asc_at {l : List Int} : ∀ {n : Nat}, ascK l n = true → ∀ k, k < n → 1 ≤ l.getD k 0 ∧ l.getD k 0 ≤ 10000 ∧ (k = 0 ∨ l.getD (k - 1) 0 < l.getD k 0)
  | 0, _, k, hk => absurd hk (Nat.not_lt_zero _)
  | n + 1, h, k, hk => by
    rw [ascK_succ] at h
    simp only [Bool.and_eq_true, Bool.or_eq_true, decide_eq_true_eq] at h
    rcases Nat.lt_or_ge k n with h1 | h1
    · exact asc_at h.1 k h1
    · obtain rfl : k = n := by omega
      exact ⟨h.2.1.1, h.2.1.2, h.2.2⟩
theorem stage_facts (p : Pl) (s : Int) : stageW p s = 0 ∨ (1 ≤ stageW p s ∧ stageW p s ≤ 10000 ∧ 0 ≤ s ∧ s ≤ 8 ∧ (s = 0 ∨ stageW p (s - 1) < stageW p s)) := by
  by_cases h : p.ok = true ∧ 0 ≤ s ∧ s < p.ws.length
  · right
    have hn := Pl.ok_nums h.1
    have ha : ascK p.ws p.ws.length = true := by have := h.1; unfold Pl.ok at this; rw [Bool.and_eq_true] at this; exact this.2
    obtain ⟨k, rfl⟩ : ∃ k : Nat, s = k := ⟨s.toNat, by omega⟩
    have hk : k < p.ws.length := by omega
    have f := asc_at ha k hk
    have e : stageW p k = p.ws.getD k 0 := by unfold stageW; rw [if_pos h]; rfl
    unfold Pl.nums at hn
    rw [e]
    refine ⟨f.1, f.2.1, h.2.1, by omega, ?_⟩
    rcases f.2.2 with h0 | h0
    · left; omega
    · by_cases hz : k = 0
      · left; omega
      · right
        have e2 : stageW p ((k : Int) - 1) = p.ws.getD (k - 1) 0 := by
          unfold stageW
          rw [if_pos ⟨h.1, by omega, by omega⟩]
          congr 1; omega
        rw [e2]; exact h0
  · exact .inl (stageW_no s h)
theorem Pl.small.rng {p : Pl} (h : p.small) : p.rng := by
  unfold Pl.small at h
  unfold Pl.rng i64P
  omega
theorem srcPlan_box (a : Option Addr) (n c : Nat) (w : World) (h : IntsF w a n) (hn : n ≤ maxLen) :
    Calls Try.prog 23 #[.pointer (some ⟨w.heap.size, 0, none⟩)] (w.alloc (.cells #[.slice a n c, .int .i64 0] 51)) fun e w' => ∃ (p : Pl) (a' : Option Addr) (c' : Nat), e = .returned (PlV a' c' p) ∧ p.ok = true ∧ p.small ∧ IsInts w' a' p.ws c' ∧ (∀ x, a' = some x → w.heap.size ≤ x.block) ∧ Below w.heap.size w w' := by
  refine (srcPlan_any w.heap.size a n c _ (src_box h hn)).mono ?_
  rintro e w' ⟨p, a', c', h1, h2, h3, h4, h5, _, h6⟩
  refine ⟨p, a', c', h1, h2, h3, h4, fun x e => ?_, below_box (below_oneF w _) h6⟩
  have := h5 x e
  simp at this; omega

end Go.Proofs.Ytfjnpegpfmaekaa
namespace Go.Proofs.Ytfjnpegpfmaekaa
open Go.RowKit

/-- A new row, of the call's own. -/
def RowNewV (B : Nat) (cs : Array Value) (t : TypeId) (w : World) (v : Value) : Prop := ∃ g, v = .pointer (some ⟨g, 0, none⟩) ∧ B ≤ g ∧ VarA w g cs t
def Spec.rowNew (B : Nat) (cs : Array Value) (t : TypeId) : Spec := ⟨fun v w => RowNewV B cs t w v, fun _ _ _ h hb => by
  obtain ⟨g, h1, h2, h3⟩ := h
  exact ⟨g, h1, h2, h3.keep hb⟩⟩
section
variable {P : Program} {Q : Exit → Act → World → Prop} {act : Act} {w : World} {o : Oper} {s : Spec}
theorem loc_alloc_G {ty : TypeId} {cs : Array Value} (ho : o.op = .alloc ty) {B : Nat} (hB : B ≤ w.heap.size) (hz : (P.info? ty).bind (·.zero) = some (.agg cs)) (hs : ∀ v w', RowNewV B cs ty w' v → s.p v w') :
    o.wp P act w (fun a' w' => ∃ v, a' = act.put o.dst v ∧ Below w.heap.size w w' ∧ s.p v w') Q := by
  refine loc_run (v := .pointer (some ⟨w.heap.size, 0, none⟩)) (w' := w.alloc (.cells cs ty)) ?_ (below_oneF _ _) (hs _ _ ⟨_, rfl, hB, heap_alloc_new _ _⟩)
  cases hq : P.info? ty with
  | none => rw [hq] at hz; cases hz
  | some i =>
    rw [hq] at hz
    simp only [Option.bind_some] at hz
    unfold execOp
    simp [ho, Instr.alloc, zeroValue, typeInfo, hq, hz, newRow, newVar, Value.cells]
theorem wp_store_intG {K : Act → World → Prop} {ty : TypeId} {x y : Operand} (ho : o.op = .store ty x y) {p : Addr} {z : Int} {u : Value} (hx : act.eval x = .pointer (some p)) (hy : act.eval y = .int .i64 z) (hi : (P.info? ty).map (·.size) = some 1)
    (hc : w.cell? p = some u) (hf : w.frozen? p = false) (h : K (act.put o.dst undef) (w.setCell p (.int .i64 z))) : o.wp P act w K Q := by
  have hz : (sizeOf ty).run P w = .ok 1 w := by
    cases hq : P.info? ty with
    | none => rw [hq] at hi; cases hi
    | some i => rw [hq] at hi; simp at hi; simp [sizeOf, typeInfo, hq, hi]
  unfold Oper.wp execOp
  simp_all [Instr.storeAt, Instr.sureAddr, storeVar, storeCells, Value.cells, go_sem]
end
end Go.Proofs.Ytfjnpegpfmaekaa
namespace Go.Proofs.Ytfjnpegpfmaekaa
open Go.RowKit
set_option linter.unusedSimpArgs false

theorem cell_setRow_ne (w : World) (g : Nat) (cs : Array Value) {p : Addr} (h : p.block ≠ g) : (w.setRow g cs).cell? p = w.cell? p := by
  simp only [World.cell?, setRow_other w g p.block cs h]
theorem IsInts.row_other {w : World} {a : Option Addr} {l : List Int} {c g : Nat} {cs : Array Value} (h : IsInts w a l c) (hne : ∀ x, a = some x → x.block ≠ g) : IsInts (w.setRow g cs) a l c := by
  rcases h with h | ⟨x, h1, h2, h3, h4⟩
  · exact .inl h
  · exact .inr ⟨x, h1, h2, h3, fun j hj => ⟨by rw [cell_setRow_ne _ _ _ (by rw [add_blockF]; exact hne x h1)]; exact (h4 j hj).1, (h4 j hj).2⟩⟩
theorem InpsIn.row_other {w : World} {a : Option Addr} {l : List Inp} {g : Nat} {cs : Array Value} (h : InpsIn w a l) (hne : ∀ x, a = some x → x.block ≠ g) : InpsIn (w.setRow g cs) a l := fun j hj => by
  obtain ⟨x, e, h1, h2⟩ := h j hj
  have hb := hne x e
  exact ⟨x, e, by rw [cell_setRow_ne _ _ _ (by rw [add_blockF]; exact hb)]; exact h1, by rw [cell_setRow_ne _ _ _ (by rw [add_blockF]; exact hb)]; exact h2⟩
/-- What made makes. -/
def MadeR (w0 w : World) (p : Pl) (a : Option Addr) (c : Nat) (l : List Inp) (b : Option Addr) (d : Nat) : Prop :=
  p.ok = true ∧ p.small ∧ IsInts w a p.ws c ∧ InpsIn w b l ∧ l.length ≤ 160 ∧ l.length ≤ d ∧ (∀ x ∈ l, InpOk x) ∧ Below w0.heap.size w0 w
set_option maxRecDepth 10000 in
set_option maxHeartbeats 4000000 in
theorem roMade_any (la : Option Addr) (ln lc : Nat) (ma : Option Addr) (mn mc : Nat) (w : World) (hl : IntsF w la ln) (hn : ln ≤ maxLen) (hm : IntsF w ma mn) (hmn : mn ≤ maxLen) (hmc : mn ≤ mc) (hma : 0 < mn → ∃ ad, ma = some ad) :
    Calls Try.prog 9 #[.slice la ln lc, .slice ma mn mc] w fun e w' => ∃ p a c l b d, e = .returned (.tuple #[PlV a c p, .slice b (List.length l) d]) ∧ MadeR w w' p a c l b d := by
  obtain ⟨W, hW⟩ : ∃ W, W = w.alloc (.cells #[.slice none 0 0, .int .i64 0, .int .i64 0, .int .i64 0, .int .i64 0, .int .i64 0] 30) := ⟨_, rfl⟩
  have HB := Box.mk (show Below w.heap.size w W by rw [hW]; exact below_oneF w _)
  have HU := Box.mk (show VarA W w.heap.size #[.slice none 0 0, .int .i64 0, .int .i64 0, .int .i64 0, .int .i64 0, .int .i64 0] 30 by rw [hW]; exact VarA.new _ _ _)
  have HL := Box.mk (hl.keep HB.out)
  have HM := Box.mk hm
  have HX := Box.mk (And.intro hn (And.intro hmn (And.intro hmc hma)))
  clear hl hn hm hmn hmc hma
  go_enter Try.func9, Try.ntmps9
  go_upto_region 1 with fail
  change Code.wp _ _ _ _ (w.alloc (.cells #[.slice none 0 0, .int .i64 0, .int .i64 0, .int .i64 0, .int .i64 0, .int .i64 0] 30))
  rw [← hW]
  clear hW
  go_wp2_with fail
  refine (srcPlan_box la ln lc W HL.out HX.out.1).mono ?_
  rintro e w1 ⟨p, a, c, rfl, hok, hsm, hI, hab, hb⟩
  have HP := Box.mk (And.intro hok (And.intro hsm hI))
  have HAB := Box.mk (show ∀ x, a = some x → x.block ≠ w.heap.size from fun x e => by have := hab x e; have := HU.out.lt; omega)
  have HB1 := Box.mk (below_trans HB.out hb)
  have HU1 := Box.mk (HU.out.keep hb)
  clear hb hok hsm hI hab
  unfold PlV
  go_wp2_with fail
  refine (madeInputs_any ma mn mc w1 (HM.out.keep HB1.out) HX.out.2.1 HX.out.2.2.1 HX.out.2.2.2).mono ?_
  rintro e w2 ⟨l, b, d, rfl, hl, hl1, hl2, hall, hbb, hb⟩
  have HBB := Box.mk (show ∀ x, b = some x → x.block ≠ w.heap.size from fun x e => by have := hbb x e; have := HU1.out.lt; omega)
  have HQ := Box.mk (And.intro hl (And.intro hl1 (And.intro hl2 hall)))
  have HI2 := Box.mk (HP.out.2.2.keepP hb)
  have HB2 := Box.mk (below_trans HB1.out hb)
  have HU2 := Box.mk (HU1.out.keep hb)
  clear hl hl1 hl2 hall hbb hb HU HU1 HB HB1
  go_wp2_with (refine wpList_store_row rfl 30 _ _ rfl w.heap.size (PlC a c p) rfl rfl 30 _ HU2.out (sizePl a c p) rfl (onePl ..) ?_)
  (try simp only [Exit.inBlock, Exit.then])
  refine bodyPost_ret (results_row_tmpF rfl _ _ w.heap.size _ _ _ _ rfl (setRow_heap _ _ _ _ _ _ HU2.out) Try.underlying30 rfl (sizePl a c p)) rfl ?_
  exact ⟨p, a, c, l, b, d, rfl, HP.out.1, HP.out.2.1, HI2.out.row_other HAB.out, HQ.out.1.row_other HBB.out, HQ.out.2.1, HQ.out.2.2.1, HQ.out.2.2.2, below_setRow HB2.out (Nat.le_refl _) _⟩
end Go.Proofs.Ytfjnpegpfmaekaa
namespace Go.Proofs.Ytfjnpegpfmaekaa
open Go.RowKit
set_option linter.unusedSimpArgs false

def awR : Pl := ⟨[10], 1, 0, 1, 1, 1⟩
theorem awR_ok : awR.ok = true := by decide
theorem awR_a : runV awR [(4, 1), (2, 0), (1, 0)] = roS 2 := by kernel_rfl
theorem awR_b : runV awR [(4, 1), (3, 0), (1, 0)] = roS 3 := by kernel_rfl
theorem rRun_eq {p : Pl} {l : List Inp} {R : Ro} {a b : Option Addr} {c d : Nat} (w : World) (hp : p.ok = true) (h : IsInts w a p.ws c) (hl : InpsIn w b l) (hlen : l.length ≤ 1000) (hR : runV p l = R) :
    Calls Try.prog 19 #[PlV a c p, .slice b l.length d] w fun e w' => e = .returned (.agg R.cells) ∧ Below w.heap.size w w' := by subst hR; exact rRun_any p l a b c d w hp h hl hlen
theorem rWeight_eq {r : Ro} {p : Pl} {x : Int} {a : Option Addr} {c : Nat} (w : World) (h : IsInts w a p.ws c) (hx : weightV r p = x) :
    Calls Try.prog 14 #[.agg r.cells, PlV a c p] w fun e w' => e = .returned (.int .i64 x) ∧ Below w.heap.size w w' := by subst hx; exact rWeight_any r p a c w h
theorem inps_three (w : World) (f g h : Inp) (t : TypeId) : InpsIn (w.alloc (.cells #[.int .i64 f.1, .int .i64 f.2, .int .i64 g.1, .int .i64 g.2, .int .i64 h.1, .int .i64 h.2] t)) (some ⟨w.heap.size, 0, none⟩) [f, g, h] := fun j hj => by
  match j, hj with
  | 0, _ => exact ⟨_, rfl, by rw [Addr.add_lit, World.cell?_alloc_new]; rfl, by rw [Addr.add_lit, World.cell?_alloc_new]; rfl⟩
  | 1, _ => exact ⟨_, rfl, by rw [Addr.add_lit, World.cell?_alloc_new]; rfl, by rw [Addr.add_lit, World.cell?_alloc_new]; rfl⟩
  | 2, _ => exact ⟨_, rfl, by rw [Addr.add_lit, World.cell?_alloc_new]; rfl, by rw [Addr.add_lit, World.cell?_alloc_new]; rfl⟩

set_option maxRecDepth 10000 in
set_option maxHeartbeats 4000000 in
theorem roAwake_any (w : World) : Calls Try.prog 18 #[] w fun e w' => e = .returned (.bool true) ∧ Below w.heap.size w w' := by
  obtain ⟨W, hW⟩ : ∃ W, W = ((w.alloc (.cells #[.int .i64 10] 3)).alloc (.cells (PlC (some ⟨w.heap.size, 0, none⟩) 1 awR) 30)).alloc (.cells #[.int .i64 4, .int .i64 1] 24) := ⟨_, rfl⟩
  have HB := Box.mk (show Below w.heap.size w W by rw [hW]; exact below_twoF (below_twoF (below_oneF w _) _) _)
  have HI := Box.mk (show IsInts W (some ⟨w.heap.size, 0, none⟩) awR.ws 1 by rw [hW]; exact ((isInts_one w 10 (by unfold i64P; omega) 3).keepP (below_oneF _ _)).keepP (below_oneF _ _))
  have HV := Box.mk (show VarA W (w.heap.size + 1) (PlC (some ⟨w.heap.size, 0, none⟩) 1 awR) 30 by rw [hW]; have := (VarA.new (w.alloc (.cells #[.int .i64 10] 3)) (PlC (some ⟨w.heap.size, 0, none⟩) 1 awR) 30).below (.cells #[.int .i64 4, .int .i64 1] 24); rw [World.size_alloc] at this; exact this)
  have HX := Box.mk (show VarA W (w.heap.size + 2) #[.int .i64 4, .int .i64 1] 24 by rw [hW]; have := VarA.new ((w.alloc (.cells #[.int .i64 10] 3)).alloc (.cells (PlC (some ⟨w.heap.size, 0, none⟩) 1 awR) 30)) #[.int .i64 4, .int .i64 1] 24; rw [World.size_alloc, World.size_alloc] at this; exact this)
  have hcell : ∀ w' : World, VarA w' (w.heap.size + 1) (PlC (some ⟨w.heap.size, 0, none⟩) 1 awR) 30 → w'.cell? ⟨w.heap.size + 1, 0, none⟩ = some (.slice (some ⟨w.heap.size, 0, none⟩) 1 1) ∧ w'.cell? ⟨w.heap.size + 1, 1, none⟩ = some (.int .i64 1) ∧ w'.cell? ⟨w.heap.size + 1, 2, none⟩ = some (.int .i64 0) ∧ w'.cell? ⟨w.heap.size + 1, 3, none⟩ = some (.int .i64 1) ∧ w'.cell? ⟨w.heap.size + 1, 4, none⟩ = some (.int .i64 1) ∧ w'.cell? ⟨w.heap.size + 1, 5, none⟩ = some (.int .i64 1) := fun w' h => ⟨h.cell rfl, h.cell rfl, h.cell rfl, h.cell rfl, h.cell rfl, h.cell rfl⟩
  have HCELL := Box.mk hcell
  clear hcell
  go_enter Try.func18, Try.ntmps18
  go_upto_region 3 with fail
  change Code.wp _ _ _ _ (((w.alloc (.cells #[.int .i64 10] 3)).alloc (.cells (PlC (some ⟨w.heap.size, 0, none⟩) 1 awR) 30)).alloc (.cells #[.int .i64 4, .int .i64 1] 24))
  rw [← hW]
  clear hW
  obtain ⟨c0, c1, c2, c3, c4, c5⟩ := HCELL.out _ HV.out
  have x0 := HX.out.cell (i := 0) (v := .int .i64 4) rfl
  have x1 := HX.out.cell (i := 1) (v := .int .i64 1) rfl
  go_wp2_with fail
  refine (rRun_eq (p := awR) (l := [(4, 1), (2, 0), (1, 0)]) (R := roS 2) _ awR_ok (HI.out.keepP (below_oneF W _)) (inps_three W (4, 1) (2, 0) (1, 0) _) (by decide) awR_a).mono ?_
  rintro e w1 ⟨he, hb⟩
  rw [show (roS 2).cells = #[.int .i64 2, .int .i64 0, .int .i64 0, .int .i64 0, .int .i64 0, .int .i64 0] from rfl] at he
  subst he
  obtain ⟨W1, hW⟩ : ∃ W1, W1 = w1.alloc (.cells #[.int .i64 2, .int .i64 0, .int .i64 0, .int .i64 0, .int .i64 0, .int .i64 0] 28) := ⟨_, rfl⟩
  have HB1 := Box.mk (show Below w.heap.size w W1 by rw [hW]; exact below_twoF (below_trans (below_twoF HB.out _) hb) _)
  have HI1 := Box.mk (show IsInts W1 (some ⟨w.heap.size, 0, none⟩) awR.ws 1 by rw [hW]; exact ((HI.out.keepP (below_oneF _ _)).keepP hb).keepP (below_oneF _ _))
  have HV1 := Box.mk (show VarA W1 (w.heap.size + 1) (PlC (some ⟨w.heap.size, 0, none⟩) 1 awR) 30 by rw [hW]; exact ((HV.out.below _).keep hb).below _)
  have HX1 := Box.mk (show VarA W1 (w.heap.size + 2) #[.int .i64 4, .int .i64 1] 24 by rw [hW]; exact ((HX.out.below _).keep hb).below _)
  have HR1 := Box.mk (show VarA W1 w1.heap.size #[.int .i64 2, .int .i64 0, .int .i64 0, .int .i64 0, .int .i64 0, .int .i64 0] 28 by rw [hW]; exact VarA.new _ _ _)
  clear hb HB HI HV HX c0 c1 c2 c3 c4 c5 x0 x1
  go_upto_region 4 with fail
  change Code.wp _ _ _ _ (w1.alloc (.cells #[.int .i64 2, .int .i64 0, .int .i64 0, .int .i64 0, .int .i64 0, .int .i64 0] 28))
  rw [← hW]
  clear hW
  generalize w1.heap.size = ga at *
  obtain ⟨c0, c1, c2, c3, c4, c5⟩ := HCELL.out _ HV1.out
  have x0 := HX1.out.cell (i := 0) (v := .int .i64 4) rfl
  have x1 := HX1.out.cell (i := 1) (v := .int .i64 1) rfl
  go_wp2_with fail
  refine (rRun_eq (p := awR) (l := [(4, 1), (3, 0), (1, 0)]) (R := roS 3) _ awR_ok (HI1.out.keepP (below_oneF W1 _)) (inps_three W1 (4, 1) (3, 0) (1, 0) _) (by decide) awR_b).mono ?_
  rintro e w2 ⟨he, hb⟩
  rw [show (roS 3).cells = #[.int .i64 3, .int .i64 0, .int .i64 0, .int .i64 0, .int .i64 0, .int .i64 0] from rfl] at he
  subst he
  obtain ⟨W2, hW⟩ : ∃ W2, W2 = w2.alloc (.cells #[.int .i64 3, .int .i64 0, .int .i64 0, .int .i64 0, .int .i64 0, .int .i64 0] 28) := ⟨_, rfl⟩
  have HB2 := Box.mk (show Below w.heap.size w W2 by rw [hW]; exact below_twoF (below_trans (below_twoF HB1.out _) hb) _)
  have HI2 := Box.mk (show IsInts W2 (some ⟨w.heap.size, 0, none⟩) awR.ws 1 by rw [hW]; exact ((HI1.out.keepP (below_oneF _ _)).keepP hb).keepP (below_oneF _ _))
  have HV2 := Box.mk (show VarA W2 (w.heap.size + 1) (PlC (some ⟨w.heap.size, 0, none⟩) 1 awR) 30 by rw [hW]; exact ((HV1.out.below _).keep hb).below _)
  have HX2 := Box.mk (show VarA W2 (w.heap.size + 2) #[.int .i64 4, .int .i64 1] 24 by rw [hW]; exact ((HX1.out.below _).keep hb).below _)
  have HA2 := Box.mk (show VarA W2 ga #[.int .i64 2, .int .i64 0, .int .i64 0, .int .i64 0, .int .i64 0, .int .i64 0] 28 by rw [hW]; exact ((HR1.out.below _).keep hb).below _)
  have HR2 := Box.mk (show VarA W2 w2.heap.size #[.int .i64 3, .int .i64 0, .int .i64 0, .int .i64 0, .int .i64 0, .int .i64 0] 28 by rw [hW]; exact VarA.new _ _ _)
  clear HR1
  clear hb HB1 HI1 HV1 HX1 c0 c1 c2 c3 c4 c5 x0 x1
  go_upto_region 5 with fail
  change Code.wp _ _ _ _ (w2.alloc (.cells #[.int .i64 3, .int .i64 0, .int .i64 0, .int .i64 0, .int .i64 0, .int .i64 0] 28))
  rw [← hW]
  clear hW
  generalize w2.heap.size = gb at *
  obtain ⟨c0, c1, c2, c3, c4, c5⟩ := HCELL.out _ HV2.out
  have x0 := HX2.out.cell (i := 0) (v := .int .i64 4) rfl
  have x1 := HX2.out.cell (i := 1) (v := .int .i64 1) rfl
  have a0 := HA2.out.cell (i := 0) (v := .int .i64 2) rfl
  have a1 := HA2.out.cell (i := 1) (v := .int .i64 0) rfl
  have a2 := HA2.out.cell (i := 2) (v := .int .i64 0) rfl
  have a3 := HA2.out.cell (i := 3) (v := .int .i64 0) rfl
  have a4 := HA2.out.cell (i := 4) (v := .int .i64 0) rfl
  have a5 := HA2.out.cell (i := 5) (v := .int .i64 0) rfl
  have b0 := HR2.out.cell (i := 0) (v := .int .i64 3) rfl
  have b1 := HR2.out.cell (i := 1) (v := .int .i64 0) rfl
  have b2 := HR2.out.cell (i := 2) (v := .int .i64 0) rfl
  have b3 := HR2.out.cell (i := 3) (v := .int .i64 0) rfl
  have b4 := HR2.out.cell (i := 4) (v := .int .i64 0) rfl
  have b5 := HR2.out.cell (i := 5) (v := .int .i64 0) rfl
  go_wp2_with fail
  refine (rWeight_eq (r := roS 2) (p := awR) (x := 10000) W2 HI2.out (by decide)).mono ?_
  rintro e w3 ⟨rfl, hb⟩
  have HB3 := Box.mk (below_trans HB2.out hb)
  have HI3 := Box.mk (HI2.out.keepP hb)
  have HV3 := Box.mk (HV2.out.keep hb)
  have HR3 := Box.mk (HR2.out.keep hb)
  clear hb HB2 HI2 HV2 HR2 HX2 HA2 c0 c1 c2 c3 c4 c5 x0 x1 a0 a1 a2 a3 a4 a5 b0 b1 b2 b3 b4 b5
  obtain ⟨c0, c1, c2, c3, c4, c5⟩ := HCELL.out _ HV3.out
  have b0 := HR3.out.cell (i := 0) (v := .int .i64 3) rfl
  have b1 := HR3.out.cell (i := 1) (v := .int .i64 0) rfl
  have b2 := HR3.out.cell (i := 2) (v := .int .i64 0) rfl
  have b3 := HR3.out.cell (i := 3) (v := .int .i64 0) rfl
  have b4 := HR3.out.cell (i := 4) (v := .int .i64 0) rfl
  have b5 := HR3.out.cell (i := 5) (v := .int .i64 0) rfl
  go_wp2_with fail
  refine (rWeight_eq (r := roS 3) (p := awR) (x := 0) w3 HI3.out (by decide)).mono ?_
  rintro e w4 ⟨rfl, hb⟩
  have HB4 := Box.mk (below_trans HB3.out hb)
  clear hb c0 c1 c2 c3 c4 c5 b0 b1 b2 b3 b4 b5
  go_wp2_with fail
  go_ret
  exact ⟨rfl, HB4.out⟩
end Go.Proofs.Ytfjnpegpfmaekaa
namespace Go.Proofs.Ytfjnpegpfmaekaa
open Go.RowKit
set_option linter.unusedSimpArgs false

theorem eq_rollout (a b c d e f : Int) (w : World) : (Op.equalIn Op.maxDepth 28 (.agg #[.int .i64 a, .int .i64 b, .int .i64 c, .int .i64 d, .int .i64 e, .int .i64 f]) (.agg #[.int .i64 a, .int .i64 b, .int .i64 c, .int .i64 d, .int .i64 e, .int .i64 f])).run Try.prog w = .ok true w := by
  rw [show Op.maxDepth = 9999 + 1 from rfl, run_equalIn_struct w 9999 _ _ _ (by kernel_rfl) (by kernel_rfl)]
  go_simp
section
variable {Q : Exit → Act → World → Prop} {act : Act} {w : World} {o : Oper} {s : Spec}
theorem loc_eqlRo {x y : Operand} {t : TypeId} (ho : o.op = .binOp .eql 28 x y t) {r : Ro} (hx : act.eval x = .agg r.cells) (hy : act.eval y = .agg r.cells) (hs : s.p (.bool true) w) :
    o.wp Try.prog act w (fun a' w' => ∃ v, a' = act.put o.dst v ∧ Below w.heap.size w w' ∧ s.p v w') Q :=
  loc_run (v := .bool true) (by
    unfold execOp
    simp only [ho, hx, hy]
    have he := eq_rollout r.st r.stage r.healthy r.w.tot r.w.err r.w.age w
    unfold Ro.cells
    simp [eqGuard, binOp, Op.equal, he]) (Below.refl _ _) hs
theorem roAwake_v (w : World) : Calls Try.prog 18 #[] w fun e w' => ∃ v', e = .returned v' ∧ Below w.heap.size w w' ∧ v' = .bool true := by
  refine (roAwake_any w).mono ?_
  rintro e w' ⟨rfl, hb⟩
  exact ⟨_, rfl, hb, rfl⟩
end
theorem rStep_eq {r r' : Ro} {p : Pl} {x : Int × Int} {a : Option Addr} {c : Nat} (w : World) (hp : p.ok = true) (hI : r.inv p) (h : IsInts w a p.ws c) (hr : stepV r p x = r') :
    Calls Try.prog 16 #[.agg r.cells, PlV a c p, .agg #[.int .i64 x.1, .int .i64 x.2]] w fun e w' => e = .returned (.agg r'.cells) ∧ Below w.heap.size w w' := by
  subst hr
  exact rStep_inv w hp hI h rfl
theorem refRun_eq {p : Pl} {l : List Inp} {R : Ro} {a b : Option Addr} {c d : Nat} (w : World) (hp : p.ok = true) (h : IsInts w a p.ws c) (hl : InpsIn w b l) (hlen : l.length ≤ 1000) (hR : runV p l = R) :
    Calls Try.prog 10 #[PlV a c p, .slice b l.length d] w fun e w' => e = .returned (.agg R.cells) ∧ Below w.heap.size w w' := by subst hR; exact refRun_any p l a b c d w hp h hl hlen

set_option maxRecDepth 100000 in
set_option maxHeartbeats 4000000 in
theorem rolloutRun_any (la : Option Addr) (ln lc : Nat) (ma : Option Addr) (mn mc : Nat) (w : World) (hl : IntsF w la ln) (hn : ln ≤ maxLen) (hm : IntsF w ma mn) (hmn : mn ≤ maxLen) (hmc : mn ≤ mc) (hma : 0 < mn → ∃ ad, ma = some ad) :
    Calls Try.prog 4 #[.slice la ln lc, .slice ma mn mc] w fun e w' => e = .returned (.bool true) ∧ Below w.heap.size w w' := by
  have HIN := Box.mk (And.intro hl (And.intro hn (And.intro hm (And.intro hmn (And.intro hmc hma)))))
  clear hl hn hm hmn hmc hma
  go_enter Try.func4, Try.ntmps4
  go_wp2_with fail
  refine (roMade_any la ln lc ma mn mc w HIN.out.1 HIN.out.2.1 HIN.out.2.2.1 HIN.out.2.2.2.1 HIN.out.2.2.2.2.1 HIN.out.2.2.2.2.2).mono ?_
  rintro e w1 ⟨p, a, c, l, b, d, rfl, hM⟩
  have HM := Box.mk hM
  have hlen : l.length ≤ 160 := hM.2.2.2.2.1
  obtain ⟨W, hW⟩ : ∃ W, W = (w1.alloc (.cells (PlC a c p) 30)).alloc (.cells (roS 0).cells 28) := ⟨_, rfl⟩
  have HB := Box.mk (show Below w1.heap.size w1 W by rw [hW]; exact below_twoF (below_oneF w1 _) _)
  have HV := Box.mk (show VarA W w1.heap.size (PlC a c p) 30 by rw [hW]; exact (VarA.new _ _ _).below _)
  have HS := Box.mk (show VarA W (w1.heap.size + 1) (roS 0).cells 28 by rw [hW]; have := VarA.new (w1.alloc (.cells (PlC a c p) 30)) (roS 0).cells 28; rw [World.size_alloc] at this; exact this)
  clear hM HIN
  unfold PlV
  go_upto_region 3 with fail
  change Code.wp _ _ _ _ ((w1.alloc (.cells (PlC a c p) 30)).alloc (.cells (roS 0).cells 28))
  rw [← hW]
  clear hW
  generalize hgp : w1.heap.size = gp at *
  have HGP := Box.mk hgp
  clear hgp
  go_wp2_with fail
  go_loopw [8] (fun iv wr => ∃ k : Nat, k ≤ l.length ∧ iv = .int .i64 k ∧ Box (VarA wr (gp + 1) (runV p (l.take k)).cells 28 ∧ VarA wr gp (PlC a c p) 30 ∧ Below gp w1 wr)) (fun iv _ => l.length - (intOf iv).toNat)
  case atStart => exact ⟨0, Nat.zero_le _, rfl, ⟨HS.out, HV.out, HB.out⟩⟩
  case round =>
    clear HS HV HB
    obtain ⟨k, hk, rfl, HI⟩ := hrel
    have HB1 := Box.mk (show Below w1.heap.size w1 wr by rw [HGP.out]; exact HI.out.2.2)
    have hgl : gp + 1 < wr.heap.size := HI.out.1.lt
    by_cases hlt : k < l.length
    · obtain ⟨x, rfl, _⟩ := HM.out.2.2.2.1 k hlt
      have HROW := Box.mk (fun w' (hb : Below w1.heap.size w1 w') => (HM.out.2.2.2.1.keep hb).row hlt)
      have HST := Box.mk (runV_snoc p l k hlt)
      have HINV := Box.mk (runV_inv HM.out.1 l k hk)
      generalize l[k] = y at *
      generalize runV p (l.take k) = r at *
      go_upto_region 6 with fail
      rename_i K hK
      refine wp_region_last (S := [some (.val (.agg r.cells)), some (.val (PlV a c p)), some (.val (.slice (some x) l.length d)), some (.val (.int .i64 k)), some (.val (.pointer (some (x.add (k * 2))))), some (.val (.agg #[.int .i64 y.1, .int .i64 y.2])), some (.val (.agg (runV p (l.take (k + 1))).cells)), none]) 7
        (by kernel_rfl) (by kernel_rfl) (by kernel_rfl) (by kernel_rfl) rfl rfl rfl ?_ ?_
      · refine ⟨?_, ?_, ?_, ?_, ?_, ?_, ?_, trivial⟩ <;> intro a' w2 hb hf hd
        · exact ⟨wanted_none rfl, loc_load_rowG rfl (hf.base 7 rfl) (HI.out.1.keep hb).row Try.underlying28 rfl (sizeRoC r) rfl⟩
        · exact ⟨wanted_none rfl, loc_load_rowG rfl (hf.base 5 rfl) (HI.out.2.1.keep hb).row Try.underlying30 rfl (sizePl a c p) rfl⟩
        · exact ⟨wanted_none rfl, loc_move rfl (hf.base 6 rfl)⟩
        · exact ⟨wanted_none rfl, loc_move rfl (hf.base 8 rfl)⟩
        · exact ⟨wanted_none rfl, loc_index_G 2 rfl (hd 2 rfl) (hd 3 rfl) hlt (by kernel_rfl) (by kernel_rfl) rfl⟩
        · exact ⟨wanted_none rfl, loc_load_rowG rfl (hd 4 rfl) (HROW.out w2 (below_trans HB1.out hb)) Try.underlying24 rfl (sizeIn y.1 y.2) rfl⟩
        · refine ⟨wanted_none rfl, loc_call rfl (by kernel_rfl) ?_⟩
          show Calls _ _ #[a'.eval (.tmp 22), a'.eval (.tmp 23), a'.eval (.tmp 27)] w2 _
          rw [show a'.eval (.tmp 22) = .agg r.cells from hd 0 rfl, show a'.eval (.tmp 23) = PlV a c p from hd 1 rfl, show a'.eval (.tmp 27) = .agg #[.int .i64 y.1, .int .i64 y.2] from hd 5 rfl]
          refine (rStep_eq w2 HM.out.1 HINV.out (HM.out.2.2.1.keepP (below_trans HB1.out hb)) HST.out.symm).mono ?_
          rintro e w3 ⟨rfl, h3⟩
          exact ⟨_, rfl, h3, rfl⟩
      · intro a' w2 hb hf hd
        refine ⟨wanted_none rfl, ?_⟩
        have ev : a'.eval (.tmp 28) = .agg (runV p (l.take (k + 1))).cells := hd 6 (by decide) (by decide)
        refine wp_store_row 28 _ _ rfl (gp + 1) (runV p (l.take (k + 1))).cells (hf.base 7 rfl) ev 28 _ (HI.out.1.keep hb) (sizeRoC _) rfl (oneRoC _) ?_
        have HN := Box.mk (show VarA (w2.setRow (gp + 1) (runV p (l.take (k + 1))).cells) (gp + 1) (runV p (l.take (k + 1))).cells 28 ∧ VarA (w2.setRow (gp + 1) (runV p (l.take (k + 1))).cells) gp (PlC a c p) 30 ∧ Below gp w1 (w2.setRow (gp + 1) (runV p (l.take (k + 1))).cells) from
          ⟨setRow_heap _ _ _ _ _ _ (HI.out.1.keep hb), (HI.out.2.1.keep hb).row_other (by omega), below_setRow (HI.out.2.2.trans (hb.mono (by omega))) (by omega) _⟩)
        refine hK _ _ ?_
        rw [fr_putAll hf]
        simp only [putAll, ev]
        clear hf hd hb HI HROW HST HINV HB1 ev hK
        generalize a'.eval (.tmp 22) = u22
        generalize a'.eval (.tmp 23) = u23
        generalize a'.eval (.tmp 24) = u24
        generalize a'.eval (.tmp 25) = u25
        generalize a'.eval (.tmp 26) = u26
        generalize a'.eval (.tmp 27) = u27
        simp only [Act.put, List.setIfInBounds_toArray, List.set_cons_succ, List.set_cons_zero]
        go_wp2_with fail
        go_roundw
        case rel => exact ⟨k + 1, by omega, by go_num, HN⟩
        case measure => simp [intOf]; omega
    · have HE := Box.mk (show runV p (l.take k) = runV p l by rw [List.take_of_length_le (by omega)])
      rw [HE.out] at HI
      obtain ⟨R, hR⟩ : ∃ R, runV p l = R := ⟨_, rfl⟩
      rw [hR] at HI
      have HR := Box.mk hR
      clear HE hR
      have c0 := HI.out.2.1.cell (i := 0) (v := .slice a p.ws.length c) rfl
      have c1 := HI.out.2.1.cell (i := 1) (v := .int .i64 p.ms) rfl
      have c2 := HI.out.2.1.cell (i := 2) (v := .int .i64 p.num) rfl
      have c3 := HI.out.2.1.cell (i := 3) (v := .int .i64 p.den) rfl
      have c4 := HI.out.2.1.cell (i := 4) (v := .int .i64 p.hold) rfl
      have c5 := HI.out.2.1.cell (i := 5) (v := .int .i64 p.win) rfl
      go_wp2_with fail
      refine (rRun_eq wr HM.out.1 (HM.out.2.2.1.keepP HB1.out) (HM.out.2.2.2.1.keep HB1.out) (by omega) HR.out).mono ?_
      rintro e w3 ⟨he, hb⟩
      obtain ⟨r1, r2, r3, ⟨r4, r5, r6⟩⟩ := R
      simp only [Ro.cells] at he HI
      subst he
      obtain ⟨W4, hW4⟩ : ∃ W4, W4 = w3.alloc (.cells #[.int .i64 r1, .int .i64 r2, .int .i64 r3, .int .i64 r4, .int .i64 r5, .int .i64 r6] 28) := ⟨_, rfl⟩
      have HB4 := Box.mk (show Below gp w1 W4 by rw [hW4]; exact (HI.out.2.2.trans (hb.mono (by omega))).trans ((below_oneF w3 _).mono (by have := hb.size; omega)))
      have HX4 := Box.mk (show VarA W4 w3.heap.size #[.int .i64 r1, .int .i64 r2, .int .i64 r3, .int .i64 r4, .int .i64 r5, .int .i64 r6] 28 by rw [hW4]; exact VarA.new _ _ _)
      have HV4 := Box.mk (show VarA W4 gp (PlC a c p) 30 by rw [hW4]; exact (HI.out.2.1.keep hb).below _)
      have HS4 := Box.mk (show VarA W4 (gp + 1) #[.int .i64 r1, .int .i64 r2, .int .i64 r3, .int .i64 r4, .int .i64 r5, .int .i64 r6] 28 by rw [hW4]; exact (HI.out.1.keep hb).below _)
      clear hb HI HB1 c0 c1 c2 c3 c4 c5
      go_upto_region 8 with fail
      rename_i K hK
      change Code.wp _ _ _ _ (w3.alloc (.cells #[.int .i64 r1, .int .i64 r2, .int .i64 r3, .int .i64 r4, .int .i64 r5, .int .i64 r6] 28))
      rw [← hW4]
      clear hW4
      have HB5 := Box.mk (show Below w1.heap.size w1 W4 by rw [HGP.out]; exact HB4.out)
      generalize w3.heap.size = gx at *
      have hgl4 : gp + 1 < W4.heap.size := HS4.out.lt
      refine wp_region_local (S := [.val (.agg (Ro.cells ⟨r1, r2, r3, ⟨r4, r5, r6⟩⟩)), .val (.agg (Ro.cells ⟨r1, r2, r3, ⟨r4, r5, r6⟩⟩)), .val (.bool true), .val (.bool true), .val (.agg (Ro.cells ⟨r1, r2, r3, ⟨r4, r5, r6⟩⟩)), .val (PlV a c p), .val (.slice b l.length d), .val (.agg (Ro.cells ⟨r1, r2, r3, ⟨r4, r5, r6⟩⟩)), .val (.bool true), .val (.bool true), .val (.bool true), .val (.bool true), .val (.bool true), .val (.bool true)])
        (by kernel_rfl) (by kernel_rfl) (by kernel_rfl) ?_ ?_
      · refine ⟨?_, ?_, ?_, ?_, ?_, ?_, ?_, ?_, ?_, ?_, ?_, ?_, ?_, ?_, trivial⟩ <;> intro a' w2 hb hf hd
        · exact ⟨wanted_none rfl, loc_load_rowG rfl (hf.base 9 rfl) (HX4.out.keep hb).row Try.underlying28 rfl sizeRo rfl⟩
        · exact ⟨wanted_none rfl, loc_load_rowG rfl (hf.base 7 rfl) (HS4.out.keep hb).row Try.underlying28 rfl sizeRo rfl⟩
        · exact ⟨wanted_none rfl, loc_eqlRo rfl (hd 0 rfl) (hd 1 rfl) rfl⟩
        · exact ⟨wanted_none rfl, loc_move rfl (hd 2 rfl)⟩
        · exact ⟨wanted_true rfl rfl (hd 3 rfl), loc_load_rowG rfl (hf.base 9 rfl) (HX4.out.keep hb).row Try.underlying28 rfl sizeRo rfl⟩
        · exact ⟨wanted_true rfl rfl (hd 3 rfl), loc_load_rowG rfl (hf.base 5 rfl) (HV4.out.keep hb).row Try.underlying30 rfl (sizePl a c p) rfl⟩
        · exact ⟨wanted_true rfl rfl (hd 3 rfl), loc_move rfl (hf.base 6 rfl)⟩
        · refine ⟨wanted_true rfl rfl (hd 3 rfl), loc_call rfl (by kernel_rfl) ?_⟩
          show Calls _ _ #[a'.eval (.tmp 37), a'.eval (.tmp 38)] w2 _
          rw [show a'.eval (.tmp 37) = PlV a c p from hd 5 rfl, show a'.eval (.tmp 38) = .slice b l.length d from hd 6 rfl]
          refine (refRun_eq w2 HM.out.1 (HM.out.2.2.1.keepP (below_trans HB5.out hb)) (HM.out.2.2.2.1.keep (below_trans HB5.out hb)) (by omega) HR.out).mono ?_
          rintro e w5 ⟨rfl, h5⟩
          exact ⟨_, rfl, h5, rfl⟩
        · exact ⟨wanted_true rfl rfl (hd 3 rfl), loc_eqlRo rfl (hd 4 rfl) (hd 7 rfl) rfl⟩
        · exact ⟨wanted_none rfl, loc_pick rfl (hd 3 rfl) (hd 8 rfl)⟩
        · exact ⟨wanted_none rfl, loc_move rfl (hd 9 rfl)⟩
        · exact ⟨wanted_true rfl rfl (hd 10 rfl), loc_call rfl (by kernel_rfl) (roAwake_v w2)⟩
        · exact ⟨wanted_none rfl, loc_pick rfl (hd 10 rfl) (hd 11 rfl)⟩
        · exact ⟨wanted_none rfl, loc_assign rfl (hd 12 rfl)⟩
      · intro a' w2 hb hf hh
        refine hK a' w2 ?_
        go_wp2_with fail
        exact local_ret rfl hf.defers (show a'.eval (.tmp 4) = .bool true from hh 13 (by decide)) ⟨rfl, below_trans HM.out.2.2.2.2.2.2.2 (by rw [HGP.out]; exact HB4.out.trans (hb.mono (by omega)))⟩
end Go.Proofs.Ytfjnpegpfmaekaa
namespace Go.Proofs.Ytfjnpegpfmaekaa
open Go.RowKit

section
variable {Q : Exit → Act → World → Prop} {a : Act} {w : World} {o : Oper} {s : Spec}
theorem loc_load_int {x : Operand} (ho : o.op = .load 3 x) {p : Addr} (hx : a.eval x = .pointer (some p)) {v : Value} (hc : w.cell? p = some v) (hs : s.p v w) :
    o.wp Try.prog a w (fun a' w' => ∃ v, a' = a.put o.dst v ∧ Below w.heap.size w w' ∧ s.p v w') Q :=
  loc_load ho (v := v) (by
    rw [hx]
    simp [Instr.loadAt, Instr.sureAddr, loadVar, hc]) hs
end
end Go.Proofs.Ytfjnpegpfmaekaa
namespace Go.Proofs.Ytfjnpegpfmaekaa
open Go.RowKit
set_option linter.unusedSimpArgs false
set_option linter.unusedVariables false

def Spec.nopeT : Spec := ⟨fun _ _ => False, fun _ _ _ h _ => h⟩
def Ro.fine (r : Ro) (p : Pl) : Prop := r.rng ∧ r.stage ≤ 1000000 ∧ r.healthy ≤ 1000000 ∧ r.stage < p.ws.length ∧ p.ok = true
theorem rTick_eqM {r R : Ro} {p : Pl} {a : Option Addr} {c : Nat} {v u : Value} (w : World) (hv : v = .agg r.cells) (hu : u = PlV a c p) (h : IsInts w a p.ws c) (hr : r.fine p) (hwin : p.win ≤ 9223372036854775807) (hR : tickR r p = R) :
    Calls Try.prog 12 #[v, u] w fun e w' => ∃ v', e = .returned v' ∧ Below w.heap.size w w' ∧ v' = .agg R.cells := by
  subst hv hu hR
  refine (rTick_any r p a c w hr.2.2.2.2 h hr.1 hr.2.2.2.1 hr.2.2.1).mono ?_
  rintro e w' ⟨rfl, hb⟩
  exact ⟨_, rfl, hb, rfl⟩
theorem refTick_eqM {r R : Ro} {p : Pl} {a : Option Addr} {c : Nat} {v u : Value} (w : World) (hv : v = .agg r.cells) (hu : u = PlV a c p) (h : IsInts w a p.ws c) (hr : r.fine p) (hwin : p.win ≤ 9223372036854775807) (hR : tickR r p = R) :
    Calls Try.prog 13 #[v, u] w fun e w' => ∃ v', e = .returned v' ∧ Below w.heap.size w w' ∧ v' = .agg R.cells := by
  subst hv hu hR
  refine (refTick_any r p a c w h hr.1 hr.2.1 hr.2.2.1 hwin).mono ?_
  rintro e w' ⟨rfl, hb⟩
  exact ⟨_, rfl, hb, rfl⟩
theorem rWeight_eqM {r : Ro} {p : Pl} {x : Int} {a : Option Addr} {c : Nat} {v u : Value} (w : World) (hv : v = .agg r.cells) (hu : u = PlV a c p) (h : IsInts w a p.ws c) (hx : weightV r p = x) :
    Calls Try.prog 14 #[v, u] w fun e w' => ∃ v', e = .returned v' ∧ Below w.heap.size w w' ∧ v' = .int .i64 x := by
  subst hv hu hx
  refine (rWeight_any r p a c w h).mono ?_
  rintro e w' ⟨rfl, hb⟩
  exact ⟨_, rfl, hb, rfl⟩
theorem refWeight_eqM {r : Ro} {p : Pl} {x : Int} {a : Option Addr} {c : Nat} {v u : Value} (w : World) (hv : v = .agg r.cells) (hu : u = PlV a c p) (h : IsInts w a p.ws c) (hx : weightV r p = x) :
    Calls Try.prog 15 #[v, u] w fun e w' => ∃ v', e = .returned v' ∧ Below w.heap.size w w' ∧ v' = .int .i64 x := by
  subst hv hu hx
  refine (refWeight_any r p a c w h).mono ?_
  rintro e w' ⟨rfl, hb⟩
  exact ⟨_, rfl, hb, rfl⟩
theorem rStep_eqM {r R : Ro} {p : Pl} {x : Int × Int} {a : Option Addr} {c : Nat} {v u z : Value} (w : World) (hv : v = .agg r.cells) (hu : u = PlV a c p) (hz : z = .agg #[.int .i64 x.1, .int .i64 x.2]) (h : IsInts w a p.ws c) (hr : r.fine p) (hwin : p.win ≤ 9223372036854775807) (hR : stepV r p x = R) :
    Calls Try.prog 16 #[v, u, z] w fun e w' => ∃ v', e = .returned v' ∧ Below w.heap.size w w' ∧ v' = .agg R.cells := by
  subst hv hu hz hR
  refine (rStep_any r p x a c w hr.2.2.2.2 h hr.1 hr.2.2.2.1 hr.2.2.1).mono ?_
  rintro e w' ⟨rfl, hb⟩
  exact ⟨_, rfl, hb, rfl⟩
theorem refRStep_eqM {r R : Ro} {p : Pl} {x : Int × Int} {a : Option Addr} {c : Nat} {v u z : Value} (w : World) (hv : v = .agg r.cells) (hu : u = PlV a c p) (hz : z = .agg #[.int .i64 x.1, .int .i64 x.2]) (h : IsInts w a p.ws c) (hr : r.fine p) (hwin : p.win ≤ 9223372036854775807) (hR : stepV r p x = R) :
    Calls Try.prog 17 #[v, u, z] w fun e w' => ∃ v', e = .returned v' ∧ Below w.heap.size w w' ∧ v' = .agg R.cells := by
  subst hv hu hz hR
  refine (refRStep_any r p x a c w h hr.1 hr.2.1 hr.2.2.1 hwin).mono ?_
  rintro e w' ⟨rfl, hb⟩
  exact ⟨_, rfl, hb, rfl⟩
theorem withinM {z k : Int} {n : Nat} {v u : Value} (w : World) (hv : v = .int .i64 z) (hu : u = .int .i64 n) (h0 : 0 < n) (hn : n ≤ 1000000000) (hk : withI z n = k) :
    Calls Try.prog 11 #[v, u] w fun e w' => ∃ v', e = .returned v' ∧ Below w.heap.size w w' ∧ v' = .int .i64 k := by
  subst hv hu hk
  refine (withinF z n w h0 hn).mono ?_
  rintro e w' ⟨rfl, rfl⟩
  exact ⟨_, rfl, Below.refl _ _, rfl⟩
section
variable {Q : Exit → Act → World → Prop} {act : Act} {w : World} {o : Oper} {s : Spec}
theorem loc_fieldRo {x : Operand} {i : Nat} (ho : o.op = .fieldAddr 28 x i) {p : Addr} (hx : act.eval x = .pointer (some p)) (hi : i < 3) (hs : s.p (.pointer (some (p.add i))) w) :
    o.wp Try.prog act w (fun a' w' => ∃ v, a' = act.put o.dst v ∧ Below w.heap.size w w' ∧ s.p v w') Q :=
  loc_field_G ho hx (by
    match i, hi with
    | 0, _ => simp [Instr.fieldAt, run_underlying Try.underlying28, Instr.sureAddr, fieldPlace]
    | 1, _ => simp [Instr.fieldAt, run_underlying Try.underlying28, Instr.sureAddr, fieldPlace]
    | 2, _ => simp [Instr.fieldAt, run_underlying Try.underlying28, Instr.sureAddr, fieldPlace]) hs
theorem loc_fieldPl {x : Operand} {i : Nat} (ho : o.op = .fieldAddr 30 x i) {p : Addr} (hx : act.eval x = .pointer (some p)) (hi : i < 6) (hs : s.p (.pointer (some (p.add i))) w) :
    o.wp Try.prog act w (fun a' w' => ∃ v, a' = act.put o.dst v ∧ Below w.heap.size w w' ∧ s.p v w') Q :=
  loc_field_G ho hx (by
    match i, hi with
    | 0, _ => simp [Instr.fieldAt, run_underlying Try.underlying30, Instr.sureAddr, fieldPlace]
    | 1, _ => simp [Instr.fieldAt, run_underlying Try.underlying30, Instr.sureAddr, fieldPlace]
    | 2, _ => simp [Instr.fieldAt, run_underlying Try.underlying30, Instr.sureAddr, fieldPlace]
    | 3, _ => simp [Instr.fieldAt, run_underlying Try.underlying30, Instr.sureAddr, fieldPlace]
    | 4, _ => simp [Instr.fieldAt, run_underlying Try.underlying30, Instr.sureAddr, fieldPlace]
    | 5, _ => simp [Instr.fieldAt, run_underlying Try.underlying30, Instr.sureAddr, fieldPlace]) hs
theorem agg_intM (w : World) : (isAgg 3).run Try.prog w = .ok false w := by
  simp [isAgg, run_underlying Try.underlying3]
theorem agg_intsM (w : World) : (isAgg 22).run Try.prog w = .ok false w := by
  simp [isAgg, run_underlying Try.underlying22]
theorem loc_lenI {x : Operand} (ho : o.op = .call { callee := .builtin .len, args := #[x], argTypes := #[22] }) {ad : Option Addr} {n c : Nat} (hx : act.eval x = .slice ad n c) (hs : s.p (.int .i64 n) w) :
    o.wp Try.prog act w (fun a' w' => ∃ v, a' = act.put o.dst v ∧ Below w.heap.size w w' ∧ s.p v w') Q :=
  loc_run (v := .int .i64 n) (by
    unfold execOp
    simp [ho, hx, resolve, invoke, builtin, Builtin.len_, run_underlying Try.underlying22]
    try rfl) (Below.refl _ _) hs
end

set_option maxRecDepth 100000 in
set_option maxHeartbeats 8000000 in
theorem rolloutTick_any (la : Option Addr) (ln lc : Nat) (ma : Option Addr) (mn mc : Nat) (x : Int × Int) (rr : Ro) (wild : Bool) (w : World) (hl : IntsF w la ln) (hn : ln ≤ maxLen) (hm : IntsF w ma mn) (hmn : mn ≤ maxLen) (hmc : mn ≤ mc) (hma : 0 < mn → ∃ ad, ma = some ad) (hrr : rr.rng) :
    Calls Try.prog 3 #[.slice la ln lc, .slice ma mn mc, .agg #[.int .i64 x.1, .int .i64 x.2], .agg rr.cells, .bool wild] w fun e w' => e = .returned (.bool true) ∧ Below w.heap.size w w' := by
  obtain ⟨y1, y2⟩ := x
  obtain ⟨q1, q2, q3, ⟨q4, q5, q6⟩⟩ := rr
  unfold Ro.cells
  simp only
  have HRR := Box.mk hrr
  obtain ⟨W, hW⟩ : ∃ W, W = (w.alloc (.cells #[.int .i64 y1, .int .i64 y2] 24)).alloc (.cells #[.int .i64 q1, .int .i64 q2, .int .i64 q3, .int .i64 q4, .int .i64 q5, .int .i64 q6] 28) := ⟨_, rfl⟩
  have HB := Box.mk (show Below w.heap.size w W by rw [hW]; exact below_twoF (below_oneF w _) _)
  have HX := Box.mk (show VarA W w.heap.size #[.int .i64 y1, .int .i64 y2] 24 by rw [hW]; exact (VarA.new _ _ _).below _)
  have HQ := Box.mk (show VarA W (w.heap.size + 1) #[.int .i64 q1, .int .i64 q2, .int .i64 q3, .int .i64 q4, .int .i64 q5, .int .i64 q6] 28 by rw [hW]; have := VarA.new (w.alloc (.cells #[.int .i64 y1, .int .i64 y2] 24)) #[.int .i64 q1, .int .i64 q2, .int .i64 q3, .int .i64 q4, .int .i64 q5, .int .i64 q6] 28; rw [World.size_alloc] at this; exact this)
  have HIN := Box.mk (And.intro (hl.keep HB.out) (And.intro hn (And.intro (hm.keep HB.out) (And.intro hmn (And.intro hmc hma)))))
  clear hl hn hm hmn hmc hma hrr
  go_enter Try.func3, Try.ntmps3
  go_upto_region 1 with fail
  change Code.wp _ _ _ _ ((w.alloc (.cells #[.int .i64 y1, .int .i64 y2] 24)).alloc (.cells #[.int .i64 q1, .int .i64 q2, .int .i64 q3, .int .i64 q4, .int .i64 q5, .int .i64 q6] 28))
  rw [← hW]
  clear hW
  generalize hgx : w.heap.size = gx at *
  have HGX := Box.mk hgx
  clear hgx
  go_wp2_with fail
  refine (roMade_any la ln lc ma mn mc W HIN.out.1 HIN.out.2.1 HIN.out.2.2.1 HIN.out.2.2.2.1 HIN.out.2.2.2.2.1 HIN.out.2.2.2.2.2).mono ?_
  rintro e w1 ⟨p, a, c, l, b, d, rfl, hM⟩
  have HM := Box.mk hM
  have hlen : l.length ≤ 160 := hM.2.2.2.2.1
  obtain ⟨W1, hW1⟩ : ∃ W1, W1 = w1.alloc (.cells (PlC a c p) 30) := ⟨_, rfl⟩
  have HB1 := Box.mk (show Below w1.heap.size w1 W1 by rw [hW1]; exact below_oneF w1 _)
  have HV1 := Box.mk (show VarA W1 w1.heap.size (PlC a c p) 30 by rw [hW1]; exact VarA.new _ _ _)
  have HX1 := Box.mk ((HX.out.keep hM.2.2.2.2.2.2.2).keep HB1.out)
  have HQ1 := Box.mk ((HQ.out.keep hM.2.2.2.2.2.2.2).keep HB1.out)
  have HI1 := Box.mk (hM.2.2.1.keepP HB1.out)
  have HL1 := Box.mk (hM.2.2.2.1.keep HB1.out)
  have HBW := Box.mk (show Below gx w w1 from HB.out.trans (hM.2.2.2.2.2.2.2.mono (by have := HB.out.size; have := HQ.out.lt; omega)))
  have hgxp : gx + 1 < w1.heap.size := (HQ.out.keep hM.2.2.2.2.2.2.2).lt
  clear hM HIN HX HQ HB
  unfold PlV
  go_upto_region 2 with fail
  change Code.wp _ _ _ _ (w1.alloc (.cells (PlC a c p) 30))
  rw [← hW1]
  clear hW1
  generalize hgp : w1.heap.size = gp at *
  have HGP := Box.mk hgp
  clear hgp
  have c0 := HV1.out.cell (i := 0) (v := .slice a p.ws.length c) rfl
  have c1 := HV1.out.cell (i := 1) (v := .int .i64 p.ms) rfl
  have c2 := HV1.out.cell (i := 2) (v := .int .i64 p.num) rfl
  have c3 := HV1.out.cell (i := 3) (v := .int .i64 p.den) rfl
  have c4 := HV1.out.cell (i := 4) (v := .int .i64 p.hold) rfl
  have c5 := HV1.out.cell (i := 5) (v := .int .i64 p.win) rfl
  obtain ⟨R, hR⟩ : ∃ R, runV p l = R := ⟨_, rfl⟩
  have HFR := Box.mk (show Ro.fine R p by
    have h := runV_inv HM.out.1 l l.length (Nat.le_refl _)
    rw [List.take_length, hR] at h
    have u := h.use HM.out.1
    exact ⟨u.1, u.2.1, u.2.2.1, h.2.1.2, HM.out.1⟩)
  have HR := Box.mk hR
  clear hR
  go_wp2_with fail
  refine (refRun_eq W1 HM.out.1 HI1.out HL1.out (by omega) HR.out).mono ?_
  rintro e w3 ⟨he, hb⟩
  obtain ⟨r1, r2, r3, ⟨r4, r5, r6⟩⟩ := R
  simp only [Ro.cells] at he
  subst he
  have hgp1 : gp < W1.heap.size := HV1.out.lt
  obtain ⟨W4, hW4⟩ : ∃ W4, W4 = w3.alloc (.cells #[.int .i64 r1, .int .i64 r2, .int .i64 r3, .int .i64 r4, .int .i64 r5, .int .i64 r6] 28) := ⟨_, rfl⟩
  have hb4 : Below W1.heap.size W1 W4 := below_trans hb (by rw [hW4]; exact below_oneF w3 _)
  have HR4 := Box.mk (show VarA W4 w3.heap.size #[.int .i64 r1, .int .i64 r2, .int .i64 r3, .int .i64 r4, .int .i64 r5, .int .i64 r6] 28 by rw [hW4]; exact VarA.new _ _ _)
  have HV4 := Box.mk (HV1.out.keep hb4)
  have HX4 := Box.mk (HX1.out.keep hb4)
  have HQ4 := Box.mk (HQ1.out.keep hb4)
  have HB4 := Box.mk (show Below gp w1 W4 from HB1.out.trans (hb4.mono (by omega)))
  have hgr : gp < w3.heap.size := by have := hb.size; omega
  clear hb hb4 c0 c1 c2 c3 c4 c5 HV1 HX1 HQ1 HB1 HR HI1 HL1 hgp1
  go_upto_region 3 with fail
  change Code.wp _ _ _ _ (w3.alloc (.cells #[.int .i64 r1, .int .i64 r2, .int .i64 r3, .int .i64 r4, .int .i64 r5, .int .i64 r6] 28))
  rw [← hW4]
  clear hW4
  generalize w3.heap.size = gr at *
  go_upto_if 23 with fail
  go_cut [] (fun wx => Box (∃ R : Ro, R.fine p ∧ VarA wx gr R.cells 28 ∧ VarA wx gp (PlC a c p) 30 ∧ VarA wx gx #[.int .i64 y1, .int .i64 y2] 24 ∧ Below gp w1 wx))
  case first =>
    cases wild
    · go_wp2_with fail
      go_meet
      exact ⟨⟨⟨r1, r2, r3, ⟨r4, r5, r6⟩⟩, HFR.out, HR4.out, HV4.out, HX4.out, HB4.out⟩⟩
    · have hnum := Pl.ok_nums HM.out.1
      unfold Pl.nums at hnum
      obtain ⟨hN, hhN⟩ : ∃ n : Nat, p.hold = n := ⟨p.hold.toNat, by omega⟩
      have HHN := Box.mk hhN
      obtain ⟨k1, hk1, hw1⟩ := withI_range q2 p.ws.length (by omega) (by omega)
      obtain ⟨k2, hk2, hw2⟩ := withI_range q3 hN (by omega) (by omega)
      obtain ⟨k3, hk3, hw3⟩ := withI_range q4 20 (by decide) (by decide)
      obtain ⟨k4, hk4, hw4⟩ := withI_range q5 (k3 + 1) (by omega) (by omega)
      have HW := Box.mk (And.intro hw1 (And.intro hw2 (And.intro hw3 hw4)))
      have HKS := Box.mk (show k1 < 8 ∧ k2 ≤ 100 ∧ k3 < 20 ∧ k4 ≤ 20 ∧ k1 < p.ws.length by omega)
      have HLN := Box.mk (show 0 < p.ws.length ∧ p.ws.length ≤ 8 ∧ 0 < hN ∧ hN ≤ 100 by omega)
      clear hw1 hw2 hw3 hw4 hk1 hk2 hk4 hnum hhN
      have s0 := HQ4.out.cell (i := 0) (v := .int .i64 q1) rfl
      have s1 := HQ4.out.cell (i := 1) (v := .int .i64 q2) rfl
      have s2 := HQ4.out.cell (i := 2) (v := .int .i64 q3) rfl
      have s3 := HQ4.out.cell (i := 3) (v := .int .i64 q4) rfl
      have s4 := HQ4.out.cell (i := 4) (v := .int .i64 q5) rfl
      have s5 := HQ4.out.cell (i := 5) (v := .int .i64 q6) rfl
      have HN := Box.mk (show VarA (W4.setRow gr #[.int .i64 q1, .int .i64 q2, .int .i64 q3, .int .i64 q4, .int .i64 q5, .int .i64 q6]) gr #[.int .i64 q1, .int .i64 q2, .int .i64 q3, .int .i64 q4, .int .i64 q5, .int .i64 q6] 28 ∧ VarA (W4.setRow gr #[.int .i64 q1, .int .i64 q2, .int .i64 q3, .int .i64 q4, .int .i64 q5, .int .i64 q6]) gp (PlC a c p) 30 ∧ VarA (W4.setRow gr #[.int .i64 q1, .int .i64 q2, .int .i64 q3, .int .i64 q4, .int .i64 q5, .int .i64 q6]) gx #[.int .i64 y1, .int .i64 y2] 24 ∧ Below gp w1 (W4.setRow gr #[.int .i64 q1, .int .i64 q2, .int .i64 q3, .int .i64 q4, .int .i64 q5, .int .i64 q6]) from
        ⟨setRow_heap _ _ _ _ _ _ HR4.out, HV4.out.row_other (by omega), HX4.out.row_other (by omega), below_setRow HB4.out (by omega) _⟩)
      go_upto_region 5 with (refine wpList_store_row rfl 28 _ _ rfl gr #[.int .i64 q1, .int .i64 q2, .int .i64 q3, .int .i64 q4, .int .i64 q5, .int .i64 q6] rfl rfl 28 _ HR4.out sizeRo rfl (oneRo ..) ?_)
      clear s0 s1 s2 s3 s4 s5 HR4 HV4 HX4 HQ4 HB4 HFR
      generalize (W4.setRow gr #[.int .i64 q1, .int .i64 q2, .int .i64 q3, .int .i64 q4, .int .i64 q5, .int .i64 q6]) = W5 at *
      rename_i K hK
      refine wp_region_phases [12, 14] (fun ph => match ph with | 0 => [0, 1, 2, 3, 4, 5, 6, 7, 8, 9, 10, 11] | 1 => [13] | _ => [])
        (fun ph => match ph with
          | 0 => [.val (.pointer (some ⟨gr, 1, none⟩)), .val (.int .i64 q2), .val (.pointer (some ⟨gp, 0, none⟩)), .val (.slice a p.ws.length c), .val (.int .i64 (p.ws.length : Int)), .val (.int .i64 (k1 : Int)), .val (.pointer (some ⟨gr, 2, none⟩)), .val (.int .i64 q3), .val (.pointer (some ⟨gp, 4, none⟩)), .val (.int .i64 p.hold), .val (.int .i64 (k2 : Int)), .val (.pointer (some ⟨gr, 1, none⟩)), .any, .nopeT, .nopeT]
          | 1 => [.any, .any, .any, .any, .any, .any, .any, .any, .any, .any, .val (.int .i64 (k2 : Int)), .any, .any, .val (.pointer (some ⟨gr, 2, none⟩)), .nopeT]
          | _ => [.any, .any, .any, .any, .any, .any, .any, .any, .any, .any, .any, .any, .any, .any, .any])
        (fun ph => match ph with
          | 0 => fun wx => VarA wx gr #[.int .i64 q1, .int .i64 q2, .int .i64 q3, .int .i64 q4, .int .i64 q5, .int .i64 q6] 28 ∧ VarA wx gp (PlC a c p) 30 ∧ VarA wx gx #[.int .i64 y1, .int .i64 y2] 24 ∧ Below gp w1 wx
          | 1 => fun wx => VarA wx gr #[.int .i64 q1, .int .i64 (k1 : Int), .int .i64 q3, .int .i64 q4, .int .i64 q5, .int .i64 q6] 28 ∧ VarA wx gp (PlC a c p) 30 ∧ VarA wx gx #[.int .i64 y1, .int .i64 y2] 24 ∧ Below gp w1 wx
          | _ => fun wx => VarA wx gr #[.int .i64 q1, .int .i64 (k1 : Int), .int .i64 (k2 : Int), .int .i64 q4, .int .i64 q5, .int .i64 q6] 28 ∧ VarA wx gp (PlC a c p) 30 ∧ VarA wx gx #[.int .i64 y1, .int .i64 y2] 24 ∧ Below gp w1 wx)
        (by kernel_rfl) (by kernel_rfl) (by kernel_rfl) (by kernel_rfl) (by kernel_rfl) (by kernel_rfl) ?_ HN.out ?_ ?_ ?_
      · intro ph w1 w2 h hb
        match ph, h with
        | 0, h => exact ⟨h.1.keep hb, h.2.1.keep hb, h.2.2.1.keep hb, h.2.2.2.trans (hb.mono (Nat.le_of_lt h.2.1.lt))⟩
        | 1, h => exact ⟨h.1.keep hb, h.2.1.keep hb, h.2.2.1.keep hb, h.2.2.2.trans (hb.mono (Nat.le_of_lt h.2.1.lt))⟩
        | (_ + 2), h => exact ⟨h.1.keep hb, h.2.1.keep hb, h.2.2.1.keep hb, h.2.2.2.trans (hb.mono (Nat.le_of_lt h.2.1.lt))⟩
      · intro ph hp
        match ph, hp with
        | 0, _ =>
          refine ⟨?_, ?_, ?_, ?_, ?_, ?_, ?_, ?_, ?_, ?_, ?_, ?_, trivial⟩ <;> intro a1 w1 hv hf hd
          · exact ⟨wanted_none rfl, loc_fieldRo rfl (hf.base 13 rfl) (by decide) rfl⟩
          · exact ⟨wanted_none rfl, loc_load_cellG rfl (hd 0 rfl) (hv.1.cell rfl) agg_intM rfl⟩
          · exact ⟨wanted_none rfl, loc_fieldPl rfl (hf.base 11 rfl) (by decide) rfl⟩
          · exact ⟨wanted_none rfl, loc_load_cellG rfl (hd 2 rfl) (hv.2.1.cell rfl) agg_intsM rfl⟩
          · exact ⟨wanted_none rfl, loc_lenI rfl (hd 3 rfl) rfl⟩
          · exact ⟨wanted_none rfl, loc_call rfl (by kernel_rfl) (withinM w1 (hd 1 rfl) (hd 4 rfl) HLN.out.1 (by have := HLN.out; omega) HW.out.1)⟩
          · exact ⟨wanted_none rfl, loc_fieldRo rfl (hf.base 13 rfl) (by decide) rfl⟩
          · exact ⟨wanted_none rfl, loc_load_cellG rfl (hd 6 rfl) (hv.1.cell rfl) agg_intM rfl⟩
          · exact ⟨wanted_none rfl, loc_fieldPl rfl (hf.base 11 rfl) (by decide) rfl⟩
          · exact ⟨wanted_none rfl, loc_load_cellG rfl (hd 8 rfl) (hv.2.1.cell rfl) agg_intM rfl⟩
          · exact ⟨wanted_none rfl, loc_call rfl (by kernel_rfl) (withinM w1 (hd 7 rfl) ((hd 9 rfl).trans (by rw [HHN.out])) HLN.out.2.2.1 (by have := HLN.out; omega) HW.out.2.1)⟩
          · exact ⟨wanted_none rfl, loc_fieldRo rfl (hf.base 13 rfl) (by decide) rfl⟩
        | 1, _ =>
          refine ⟨?_, trivial⟩
          intro a1 w1 hv hf hd
          exact ⟨wanted_none rfl, loc_fieldRo rfl (hf.base 13 rfl) (by decide) rfl⟩
        | 2, _ => exact trivial
      · intro ph hp
        match ph, hp with
        | 0, _ =>
          intro a2 w2 hv hf hd
          have e36 : a2.eval (.tmp 36) = .pointer (some ⟨gr, 1, none⟩) := hd 11 rfl
          have e30 : a2.eval (.tmp 30) = .int .i64 (k1 : Int) := hd 5 rfl
          refine ⟨wanted_none rfl, wp_store_intG (u := .int .i64 q2) rfl e36 e30 (by kernel_rfl) (hv.1.cell rfl) hv.1.frozen ?_⟩
          exact ⟨undef, rfl, ⟨hv.1.set, hv.2.1.other (by show gp ≠ gr; omega), hv.2.2.1.other (by show gx ≠ gr; omega), hv.2.2.2.setCell (p := ⟨gr, 1, none⟩) (by show _ ≤ gr; omega) _⟩, trivial, ⟨.inr fun _ _ _ => trivial, .inr fun _ _ _ => trivial, .inr fun _ _ _ => trivial, .inr fun _ _ _ => trivial, .inr fun _ _ _ => trivial, .inr fun _ _ _ => trivial, .inr fun _ _ _ => trivial, .inr fun _ _ _ => trivial, .inr fun _ _ _ => trivial, .inr fun _ _ _ => trivial, .inr fun _ _ h => h, .inr fun _ _ _ => trivial, .inl rfl, .inr fun _ _ h => h.elim, .inr fun _ _ h => h, trivial⟩⟩
        | 1, _ =>
          intro a2 w2 hv hf hd
          have e37 : a2.eval (.tmp 37) = .pointer (some ⟨gr, 2, none⟩) := hd 13 rfl
          have e35 : a2.eval (.tmp 35) = .int .i64 (k2 : Int) := hd 10 rfl
          refine ⟨wanted_none rfl, wp_store_intG (u := .int .i64 q3) rfl e37 e35 (by kernel_rfl) (hv.1.cell rfl) hv.1.frozen ?_⟩
          exact ⟨undef, rfl, ⟨hv.1.set, hv.2.1.other (by show gp ≠ gr; omega), hv.2.2.1.other (by show gx ≠ gr; omega), hv.2.2.2.setCell (p := ⟨gr, 2, none⟩) (by show _ ≤ gr; omega) _⟩, trivial, ⟨.inr fun _ _ _ => trivial, .inr fun _ _ _ => trivial, .inr fun _ _ _ => trivial, .inr fun _ _ _ => trivial, .inr fun _ _ _ => trivial, .inr fun _ _ _ => trivial, .inr fun _ _ _ => trivial, .inr fun _ _ _ => trivial, .inr fun _ _ _ => trivial, .inr fun _ _ _ => trivial, .inr fun _ _ _ => trivial, .inr fun _ _ _ => trivial, .inr fun _ _ _ => trivial, .inr fun _ _ _ => trivial, .inl rfl, trivial⟩⟩
      · intro a2 w2 hv hf hh
        clear hh
        refine hK _ _ ?_
        rw [fr_putAll hf]
        clear hf hK
        simp only [putAll]
        generalize a2.eval (.tmp 25) = u25
        generalize a2.eval (.tmp 26) = u26
        generalize a2.eval (.tmp 27) = u27
        generalize a2.eval (.tmp 28) = u28
        generalize a2.eval (.tmp 29) = u29
        generalize a2.eval (.tmp 30) = u30
        generalize a2.eval (.tmp 31) = u31
        generalize a2.eval (.tmp 32) = u32
        generalize a2.eval (.tmp 33) = u33
        generalize a2.eval (.tmp 34) = u34
        generalize a2.eval (.tmp 35) = u35
        generalize a2.eval (.tmp 36) = u36
        generalize a2.eval (.tmp 37) = u37
        simp only [Act.put, List.setIfInBounds_toArray, List.set_cons_succ, List.set_cons_zero]
        change Code.wp _ _ _ (Act.mk _ _) _
        have HV := Box.mk (show VarA w2 gr #[.int .i64 q1, .int .i64 (k1 : Int), .int .i64 (k2 : Int), .int .i64 q4, .int .i64 q5, .int .i64 q6] 28 ∧ VarA w2 gp (PlC a c p) 30 ∧ VarA w2 gx #[.int .i64 y1, .int .i64 y2] 24 ∧ Below gp w1 w2 from hv)
        clear hv HN
        have d3 := HV.out.1.cell (i := 3) (v := .int .i64 q4) rfl
        have f3 := HV.out.1.frozen (i := 3)
        go_wp2_with fail
        refine (withinF q4 20 w2 (by decide) (by decide)).mono ?_
        rintro e w5 ⟨he, rfl⟩
        rw [HW.out.2.2.1] at he
        subst he
        go_upto_region 7 with fail
        have HV3 := Box.mk (show VarA (w5.setCell ⟨gr, 3, none⟩ (.int .i64 (k3 : Int))) gr #[.int .i64 q1, .int .i64 (k1 : Int), .int .i64 (k2 : Int), .int .i64 (k3 : Int), .int .i64 q5, .int .i64 q6] 28 ∧ VarA (w5.setCell ⟨gr, 3, none⟩ (.int .i64 (k3 : Int))) gp (PlC a c p) 30 ∧ VarA (w5.setCell ⟨gr, 3, none⟩ (.int .i64 (k3 : Int))) gx #[.int .i64 y1, .int .i64 y2] 24 ∧ Below gp w1 (w5.setCell ⟨gr, 3, none⟩ (.int .i64 (k3 : Int))) from ⟨HV.out.1.set, HV.out.2.1.other (by show gp ≠ gr; omega), HV.out.2.2.1.other (by show gx ≠ gr; omega), HV.out.2.2.2.setCell (p := ⟨gr, 3, none⟩) (by show _ ≤ gr; omega) _⟩)
        change Code.wp _ _ _ (Act.mk _ _) (w5.setCell ⟨gr, 3, none⟩ (.int .i64 (k3 : Int)))
        clear d3 f3 HV
        generalize (w5.setCell ⟨gr, 3, none⟩ (.int .i64 (k3 : Int))) = w6 at *
        have d3 := HV3.out.1.cell (i := 3) (v := .int .i64 (k3 : Int)) rfl
        have d4 := HV3.out.1.cell (i := 4) (v := .int .i64 q5) rfl
        have f4 := HV3.out.1.frozen (i := 4)
        go_wp2_with fail
        refine (withinF q5 (k3 + 1) w6 (by omega) (by omega)).mono ?_
        rintro e w7 ⟨he, rfl⟩
        rw [HW.out.2.2.2] at he
        subst he
        have HV4 := Box.mk (show VarA (w7.setCell ⟨gr, 4, none⟩ (.int .i64 (k4 : Int))) gr #[.int .i64 q1, .int .i64 (k1 : Int), .int .i64 (k2 : Int), .int .i64 (k3 : Int), .int .i64 (k4 : Int), .int .i64 q6] 28 ∧ VarA (w7.setCell ⟨gr, 4, none⟩ (.int .i64 (k4 : Int))) gp (PlC a c p) 30 ∧ VarA (w7.setCell ⟨gr, 4, none⟩ (.int .i64 (k4 : Int))) gx #[.int .i64 y1, .int .i64 y2] 24 ∧ Below gp w1 (w7.setCell ⟨gr, 4, none⟩ (.int .i64 (k4 : Int))) from ⟨HV3.out.1.set, HV3.out.2.1.other (by show gp ≠ gr; omega), HV3.out.2.2.1.other (by show gx ≠ gr; omega), HV3.out.2.2.2.setCell (p := ⟨gr, 4, none⟩) (by show _ ≤ gr; omega) _⟩)
        go_wp2_with fail
        go_meet
        exact ⟨⟨⟨q1, k1, k2, ⟨k3, k4, q6⟩⟩, ⟨by have h1 := HRR.out; have h2 := HKS.out; unfold Ro.rng Wn.rng i64P at h1 ⊢; simp only at h1 ⊢; omega, by have h2 := HKS.out; simp only; omega, by have h2 := HKS.out; simp only; omega, by have h2 := HKS.out; simp only; omega, HM.out.1⟩, HV4.out.1, HV4.out.2.1, HV4.out.2.2.1, HV4.out.2.2.2⟩⟩
  case rest =>
    obtain ⟨R, HFX⟩ := hcut.out
    have HFR := Box.mk HFX.1
    have HD := Box.mk HFX.2
    clear HFX hcut
    have HI := Box.mk (HM.out.2.2.1.keepP (show Below w1.heap.size w1 wc by rw [HGP.out]; exact HD.out.2.2.2))
    have HWIN := Box.mk (show p.win ≤ 9223372036854775807 by have h := Pl.ok_nums HM.out.1; unfold Pl.nums at h; omega)
    obtain ⟨TK, hTK⟩ : ∃ z, tickR R p = z := ⟨_, rfl⟩
    obtain ⟨SK, hSK⟩ : ∃ z, stepV R p (y1, y2) = z := ⟨_, rfl⟩
    obtain ⟨wt, hwt⟩ : ∃ z, weightV R p = z := ⟨_, rfl⟩
    have HTK := Box.mk hTK
    have HSK := Box.mk hSK
    have HWT := Box.mk hwt
    clear hTK hSK hwt
    go_upto_region 8 with fail
    rename_i K hK
    refine wp_region_local (S := [.val (.agg (Ro.cells R)), .val (PlV a c p), .val (.agg (Ro.cells TK)), .val (.agg (Ro.cells R)), .val (PlV a c p), .val (.agg (Ro.cells TK)), .val (.bool true), .val (.bool true), .val (.agg (Ro.cells R)), .val (PlV a c p), .val (.int .i64 wt), .val (.agg (Ro.cells R)), .val (PlV a c p), .val (.int .i64 wt), .val (.bool true), .val (.bool true), .val (.bool true), .val (.agg (Ro.cells R)), .val (PlV a c p), .val (.agg #[.int .i64 y1, .int .i64 y2]), .val (.agg (Ro.cells SK)), .val (.agg (Ro.cells R)), .val (PlV a c p), .val (.agg #[.int .i64 y1, .int .i64 y2]), .val (.agg (Ro.cells SK)), .val (.bool true), .val (.bool true), .val (.bool true), .val (.bool true), .val (.bool true), .val (.bool true)])
      (by kernel_rfl) (by kernel_rfl) (by kernel_rfl) ?_ ?_
    · refine ⟨?_, ?_, ?_, ?_, ?_, ?_, ?_, ?_, ?_, ?_, ?_, ?_, ?_, ?_, ?_, ?_, ?_, ?_, ?_, ?_, ?_, ?_, ?_, ?_, ?_, ?_, ?_, ?_, ?_, ?_, ?_, trivial⟩ <;> intro a' w2 hb hf hd
      · exact ⟨wanted_none rfl, loc_load_rowG rfl (hf.base 13 rfl) (HD.out.1.keep hb).row Try.underlying28 rfl (sizeRoC R) rfl⟩
      · exact ⟨wanted_none rfl, loc_load_rowG rfl (hf.base 11 rfl) (HD.out.2.1.keep hb).row Try.underlying30 rfl (sizePl a c p) rfl⟩
      · exact ⟨wanted_none rfl, loc_call rfl (by kernel_rfl) (rTick_eqM w2 (hd 0 rfl) (hd 1 rfl) (HI.out.keepP hb) HFR.out HWIN.out HTK.out)⟩
      · exact ⟨wanted_none rfl, loc_load_rowG rfl (hf.base 13 rfl) (HD.out.1.keep hb).row Try.underlying28 rfl (sizeRoC R) rfl⟩
      · exact ⟨wanted_none rfl, loc_load_rowG rfl (hf.base 11 rfl) (HD.out.2.1.keep hb).row Try.underlying30 rfl (sizePl a c p) rfl⟩
      · exact ⟨wanted_none rfl, loc_call rfl (by kernel_rfl) (refTick_eqM w2 (hd 3 rfl) (hd 4 rfl) (HI.out.keepP hb) HFR.out HWIN.out HTK.out)⟩
      · exact ⟨wanted_none rfl, loc_eqlRo rfl (hd 2 rfl) (hd 5 rfl) rfl⟩
      · exact ⟨wanted_none rfl, loc_move rfl (hd 6 rfl)⟩
      · exact ⟨wanted_true rfl rfl (hd 7 rfl), loc_load_rowG rfl (hf.base 13 rfl) (HD.out.1.keep hb).row Try.underlying28 rfl (sizeRoC R) rfl⟩
      · exact ⟨wanted_true rfl rfl (hd 7 rfl), loc_load_rowG rfl (hf.base 11 rfl) (HD.out.2.1.keep hb).row Try.underlying30 rfl (sizePl a c p) rfl⟩
      · exact ⟨wanted_true rfl rfl (hd 7 rfl), loc_call rfl (by kernel_rfl) (rWeight_eqM w2 (hd 8 rfl) (hd 9 rfl) (HI.out.keepP hb) HWT.out)⟩
      · exact ⟨wanted_true rfl rfl (hd 7 rfl), loc_load_rowG rfl (hf.base 13 rfl) (HD.out.1.keep hb).row Try.underlying28 rfl (sizeRoC R) rfl⟩
      · exact ⟨wanted_true rfl rfl (hd 7 rfl), loc_load_rowG rfl (hf.base 11 rfl) (HD.out.2.1.keep hb).row Try.underlying30 rfl (sizePl a c p) rfl⟩
      · exact ⟨wanted_true rfl rfl (hd 7 rfl), loc_call rfl (by kernel_rfl) (refWeight_eqM w2 (hd 11 rfl) (hd 12 rfl) (HI.out.keepP hb) HWT.out)⟩
      · exact ⟨wanted_true rfl rfl (hd 7 rfl), loc_eql_int rfl (hd 10 rfl) (hd 13 rfl) rfl⟩
      · exact ⟨wanted_none rfl, loc_pick rfl (hd 7 rfl) (hd 14 rfl)⟩
      · exact ⟨wanted_none rfl, loc_move rfl (hd 15 rfl)⟩
      · exact ⟨wanted_true rfl rfl (hd 16 rfl), loc_load_rowG rfl (hf.base 13 rfl) (HD.out.1.keep hb).row Try.underlying28 rfl (sizeRoC R) rfl⟩
      · exact ⟨wanted_true rfl rfl (hd 16 rfl), loc_load_rowG rfl (hf.base 11 rfl) (HD.out.2.1.keep hb).row Try.underlying30 rfl (sizePl a c p) rfl⟩
      · exact ⟨wanted_true rfl rfl (hd 16 rfl), loc_load_rowG rfl (hf.base 7 rfl) (HD.out.2.2.1.keep hb).row Try.underlying24 rfl (sizeIn y1 y2) rfl⟩
      · exact ⟨wanted_true rfl rfl (hd 16 rfl), loc_call rfl (by kernel_rfl) (rStep_eqM (x := (y1, y2)) w2 (hd 17 rfl) (hd 18 rfl) (hd 19 rfl) (HI.out.keepP hb) HFR.out HWIN.out HSK.out)⟩
      · exact ⟨wanted_true rfl rfl (hd 16 rfl), loc_load_rowG rfl (hf.base 13 rfl) (HD.out.1.keep hb).row Try.underlying28 rfl (sizeRoC R) rfl⟩
      · exact ⟨wanted_true rfl rfl (hd 16 rfl), loc_load_rowG rfl (hf.base 11 rfl) (HD.out.2.1.keep hb).row Try.underlying30 rfl (sizePl a c p) rfl⟩
      · exact ⟨wanted_true rfl rfl (hd 16 rfl), loc_load_rowG rfl (hf.base 7 rfl) (HD.out.2.2.1.keep hb).row Try.underlying24 rfl (sizeIn y1 y2) rfl⟩
      · exact ⟨wanted_true rfl rfl (hd 16 rfl), loc_call rfl (by kernel_rfl) (refRStep_eqM (x := (y1, y2)) w2 (hd 21 rfl) (hd 22 rfl) (hd 23 rfl) (HI.out.keepP hb) HFR.out HWIN.out HSK.out)⟩
      · exact ⟨wanted_true rfl rfl (hd 16 rfl), loc_eqlRo rfl (hd 20 rfl) (hd 24 rfl) rfl⟩
      · exact ⟨wanted_none rfl, loc_pick rfl (hd 16 rfl) (hd 25 rfl)⟩
      · exact ⟨wanted_none rfl, loc_move rfl (hd 26 rfl)⟩
      · exact ⟨wanted_true rfl rfl (hd 27 rfl), loc_call rfl (by kernel_rfl) (roAwake_v w2)⟩
      · exact ⟨wanted_none rfl, loc_pick rfl (hd 27 rfl) (hd 28 rfl)⟩
      · exact ⟨wanted_none rfl, loc_assign rfl (hd 29 rfl)⟩
    · intro a' w2 hb hf hh
      refine hK a' w2 ?_
      go_wp2_with fail
      exact local_ret rfl hf.defers (show a'.eval (.tmp 10) = .bool true from hh 30 (by decide)) ⟨rfl, by rw [HGX.out]; exact HBW.out.trans ((HD.out.2.2.2.trans (hb.mono (Nat.le_of_lt HD.out.2.1.lt))).mono (by omega))⟩
end Go.Proofs.Ytfjnpegpfmaekaa
namespace Go.Proofs.Ytfjnpegpfmaekaa
open Go.ChangeShapes Go.WideShapes Go.ChangeAt Go.RowKit

theorem i64_ofF {x : Int} (h : (Lit.int .i64 x).wf = true) : -9223372036854775808 ≤ x ∧ x ≤ 9223372036854775807 := bounds_i64 h
theorem open_intsf {H : Type} {enc : TypeId × Value → H} {W : World} {a : Option Addr} {len cap : Nat} {d : DataW H} {ps : List MemPlace} {base : Nat}
    (h : DataW.Trod enc Try.prog W base (fun _ => true) true 22 (.slice a len cap) d ps) : IntsF W a len ∧ len ≤ maxLen := by
  obtain ⟨fuel, hf⟩ := h
  rcases open_ints Try.underlying22 Try.underlying3 (by kernel_rfl) hf with ⟨hcs, _⟩ | ⟨x, l, c, zs, hcs, _, hl, hm, hz, _, hcell, hwz⟩
  · simp [Value.cells] at hcs
    obtain ⟨rfl, rfl, rfl⟩ := hcs
    exact ⟨fun k hk => absurd hk (Nat.not_lt_zero _), Nat.zero_le _⟩
  · simp [Value.cells] at hcs
    obtain ⟨rfl, rfl, rfl⟩ := hcs
    have hz' : zs.length = cap := by simpa using hz
    refine ⟨fun k hk => ?_, Nat.le_trans hl hm⟩
    have hk' : k < zs.length := by omega
    have e : zs.getD k 0 = zs[k] := by rw [List.getD_eq_getElem?_getD, List.getElem?_eq_getElem hk']; rfl
    refine ⟨x, zs[k], rfl, by rw [hcell k hk', e], i64_ofF (hwz zs[k] (List.getElem_mem _))⟩
end Go.Proofs.Ytfjnpegpfmaekaa
