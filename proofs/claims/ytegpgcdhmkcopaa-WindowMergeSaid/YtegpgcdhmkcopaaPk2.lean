/- The landed package window: Merge, Count, later, Tick. The laws of package window: awake, WindowTick. Opening the arguments of the laws on fields. The source of the laws: inputs of a rollout. The landed package plan: within, validWeights, validNumbers, Validate, Weight, Verdict. Opening a plan, a window and an input among the arguments. Queues: Take. The law WindowCloses. Single operations of a region that draws its order: a new struct, a truth value. The law WindowNever. Windows in memory; the reference's Merge. Opening a slice of truth values, of windows, among the arguments. -/
import Derived.Test.YtegpgcdhmkcopaaPk1
import Derived.Test.YtegpgcdhmkcopaaRows
import Derived.WalkKit
import Derived.WalkSpells
import Derived.WalkLawsBesides
import Derived.BigQuiet
import Derived.Deep.QuietTactic
import Derived.Lib.Bytealg
import Derived.Lib.IndexLaws
import Derived.Lib.Hide
import Derived.Laws.IdiomStrings
import Derived.Lib.SlTrimSet
import Derived.Lib.IndexBytes
import Derived.Lib.Split
import Derived.Deep.AppendLies
import Derived.Shelf.LaysM
import Derived.Test.YtegpgcdhmkcopaaProg
import Derived.Shelf.Strings.SlTrimAscii
import Derived.Lib.SplitLaws
import Derived.Shelf.Strings.SplitShaped
import Derived.WalkSmall
import Derived.ProofKit
import Derived.OpenShut
import Derived.Lib.Strings
import Derived.SliceStrings
import Derived.Deep.Quiet
import Derived.Tactics
import Derived.KernelRfl
import Derived.Below
import Derived.Laws.Bits64
import Derived.Lib.SlBytesConst
import Derived.Maps.AppendAt
import Derived.Laws.AppendOwnNone
import Derived.Great.BuildSlice
import Derived.Laws.Rows
import Derived.Laws.BitsAllLaws
import Derived.Laws.Shifts
import Derived.Maps.OwnOps
import Derived.Maps.OwnSet
import Derived.Deep.SlicePairs
import Derived.Lib.AppendZerosOnto
import Derived.Lib.AppendStr
import Derived.Laws.CopyOwn
import Derived.OwnWalk
import Derived.Laws.Strings3
import Derived.Laws.Concat
import Derived.Lib.ItoaMem
import Derived.Deep.DeepCutAuto
import Derived.Deep.CutBlock
import Derived.Laws.Tables
import Derived.Deep.Matrix
import Derived.IntWalk
import Derived.Laws.RangeAny
import Derived.Sort.Grow
import Derived.Lib.LaidTab
import Derived.LaidSub
import Derived.Laws.Bits64b
import Derived.Deep.WholeRow
import Derived.StillTailTactics
import Derived.Lib.ConvBytes
import Derived.ArgAppend
import Derived.Deep.Slices
import Derived.Deep.Grids
namespace Go.Proofs.Ytegpgcdhmkcopaa
open Go.RowKit
set_option linter.unusedVariables false
set_option linter.unusedSimpArgs false

theorem wpList_load_rowP {P : Program} {ops : Array Oper} {rest : List Oper} {o : Oper} {a : Act} {w : World} {Q : Exit → Act → World → Prop} (hgd : o.guard = none) (ty : TypeId) (x : Operand) (ho : o.op = .load ty x) (p : Addr) (cs : Array Value) (d : TypeDesc) (hx : a.eval x = .pointer (some p)) (hc : ∀ (j : Nat) (v : Value), cs[j]? = some v → w.cell? (p.add j) = some v)
    (hu : P.underlying ty = some d) (hd : (match d with | .struct _ | .array _ _ => true | _ => false) = true) (hi : (P.info? ty).map (·.size) = some cs.size) (h : wpList P ops Q rest (a.put o.dst (.agg cs)) w) : wpList P ops Q (o :: rest) a w :=
  wpList_plain hgd fun _ hK => by
    unfold Oper.wp execOp
    simp only [ho, hx, Instr.loadAt, Instr.sureAddr, Sem.run_bind, Sem.run_pure, Result.andThen_ok, run_loadVar_rowG w p ty cs d hc hu hd hi]
    exact hK _ _ h
theorem Try.info23 : (Try.prog.info? 23).map (fun i => (i.zero, i.size, i.bytes)) = some (some (.agg #[.int .i64 0, .int .i64 0, .int .i64 0]), 3, 24) := by kernel_rfl
theorem winsIn_pair (w : World) (f g : Wn) (hf : f.rng) (hg : g.rng) (t : TypeId) : WinsIn (w.alloc (.cells #[.int .i64 f.tot, .int .i64 f.err, .int .i64 f.age, .int .i64 g.tot, .int .i64 g.err, .int .i64 g.age] t)) (some ⟨w.heap.size, 0, none⟩) [f, g] := fun j hj => by
  match j, hj with
  | 0, _ => exact ⟨_, rfl, by rw [Addr.add_lit, World.cell?_alloc_new]; rfl, by rw [Addr.add_lit, World.cell?_alloc_new]; rfl, by rw [Addr.add_lit, World.cell?_alloc_new]; rfl, hf⟩
  | 1, _ => exact ⟨_, rfl, by rw [Addr.add_lit, World.cell?_alloc_new]; rfl, by rw [Addr.add_lit, World.cell?_alloc_new]; rfl, by rw [Addr.add_lit, World.cell?_alloc_new]; rfl, hg⟩
theorem wpList_slice2Wn {ops : Array Oper} {rest : List Oper} {o : Oper} {act : Act} {w : World} {Q : Exit → Act → World → Prop} {x y : Operand} (hgd : o.guard = none) (ho : o.op = .buildSlice 29 2 #[(0, x), (1, y)]) (f g : Wn) (hx : act.eval x = .agg #[.int .i64 f.tot, .int .i64 f.err, .int .i64 f.age]) (hy : act.eval y = .agg #[.int .i64 g.tot, .int .i64 g.err, .int .i64 g.age])
    (h : wpList Try.prog ops Q rest (act.put o.dst (.slice (some ⟨w.heap.size, 0, none⟩) 2 2)) (w.alloc (.cells #[.int .i64 f.tot, .int .i64 f.err, .int .i64 f.age, .int .i64 g.tot, .int .i64 g.err, .int .i64 g.age] 23))) : wpList Try.prog ops Q (o :: rest) act w :=
  wpList_plain hgd fun _ hK => by
    obtain ⟨i0, hi, hz0, hz1, hz2⟩ := info_parts Try.info23
    have hrun := run_buildSlice (P := Try.prog) w 29 23 2 #[(0, .agg #[.int .i64 f.tot, .int .i64 f.err, .int .i64 f.age]), (1, .agg #[.int .i64 g.tot, .int .i64 g.err, .int .i64 g.age])] #[.int .i64 f.tot, .int .i64 f.err, .int .i64 f.age, .int .i64 g.tot, .int .i64 g.err, .int .i64 g.age] i0 _ Try.underlying29 hi hz0 (by rw [hz1]; decide) (by rw [hz1]; decide) (by rw [hz1]; simp [Instr.fill, Value.cells, Array.range_succ, show Array.range 0 = #[] from rfl])
    have hrun2 : (execOp act.eval o).run Try.prog w = .ok (.value (.slice (some ⟨w.heap.size, 0, none⟩) 2 2)) (w.alloc (.cells #[.int .i64 f.tot, .int .i64 f.err, .int .i64 f.age, .int .i64 g.tot, .int .i64 g.err, .int .i64 g.age] 23)) := by
      unfold execOp
      simp only [ho, List.map_toArray, List.map_cons, List.map_nil, hx, hy]
      rw [Sem.run_bind, hrun]; rfl
    unfold Oper.wp
    rw [hrun2]
    exact hK _ _ h
theorem WinsIn.row {w : World} {x : Addr} {l : List Wn} (h : WinsIn w (some x) l) {k : Nat} (hk : k < l.length) : ∀ (j : Nat) (v : Value), (#[Value.int .i64 l[k].tot, .int .i64 l[k].err, .int .i64 l[k].age] : Array Value)[j]? = some v → w.cell? ((x.add (k * 3)).add j) = some v := by
  obtain ⟨y, e, h1, h2, h3, _⟩ := h k hk
  obtain rfl := Option.some.inj e
  intro j v hv
  rw [Go.Deep.add_add]
  match j, hv with
  | 0, hv => simp at hv; subst hv; exact h1
  | 1, hv => simp at hv; subst hv; exact h2
  | 2, hv => simp at hv; subst hv; exact h3
  | j + 3, hv => simp at hv
theorem numAdd_v (m x y : Int) (a : Option Addr) (w : World) (h0 : i64P m) (h : IsInts w a [x, y] 2) :
    Calls Try.prog 15 #[.int .i64 m, .slice a 2 2] w fun e w' => e = .returned (.int .i64 (addS m [x, y])) ∧ w = w' :=
  numAdd_any m [x, y] a 2 w h0.1 h0.2 h

set_option maxRecDepth 100000 in
set_option maxHeartbeats 4000000 in
theorem wMerge_any (l : List Wn) (a : Option Addr) (c : Nat) (w : World) (hl : WinsIn w a l) (hlen : l.length ≤ 1000000) :
    Calls Try.prog 12 #[.slice a l.length c] w fun e w' => e = .returned (.agg (mergeV l).cells) ∧ Below w.heap.size w w' := by
  obtain ⟨R, hR⟩ : ∃ R, R = mergeV l := ⟨_, rfl⟩
  rw [← hR]
  have HR := Box.mk hR
  have HL := Box.mk hl
  clear hR hl
  obtain ⟨W, hW⟩ : ∃ W, W = (w.alloc (.cells #[.int .i64 0, .int .i64 0, .int .i64 0] 23)).alloc (.cells #[.int .i64 0, .int .i64 0, .int .i64 0] 23) := ⟨_, rfl⟩
  have HB := Box.mk (show Below w.heap.size w W by rw [hW]; exact below_twoF (below_oneF w _) _)
  have HU := Box.mk (show VarA W w.heap.size #[.int .i64 0, .int .i64 0, .int .i64 0] 23 by rw [hW]; exact (VarA.new _ _ _).below _)
  have HV := Box.mk (show VarA W (w.heap.size + 1) #[.int .i64 0, .int .i64 0, .int .i64 0] 23 by rw [hW]; have := VarA.new (w.alloc (.cells #[.int .i64 0, .int .i64 0, .int .i64 0] 23)) #[.int .i64 0, .int .i64 0, .int .i64 0] 23; rw [World.size_alloc] at this; exact this)
  go_enter Try.func12, Try.ntmps12
  go_upto_region 2 with fail
  change Code.wp _ _ _ _ ((w.alloc (.cells #[.int .i64 0, .int .i64 0, .int .i64 0] 23)).alloc (.cells #[.int .i64 0, .int .i64 0, .int .i64 0] 23))
  rw [← hW]
  clear hW
  generalize hgp : w.heap.size = gp at *
  have HGP := Box.mk hgp
  clear hgp
  go_wp2_with fail
  go_loopw [8] (fun iv wr => ∃ k : Nat, k ≤ l.length ∧ iv = .int .i64 k ∧ Box (VarA wr (gp + 1) #[.int .i64 (mergeV (l.take k)).tot, .int .i64 (mergeV (l.take k)).err, .int .i64 0] 23 ∧ VarA wr gp #[.int .i64 0, .int .i64 0, .int .i64 0] 23 ∧ Below gp w wr)) (fun iv _ => l.length - (intOf iv).toNat)
  case atStart => exact ⟨0, Nat.zero_le _, rfl, ⟨HV.out, HU.out, HB.out⟩⟩
  case round =>
    clear HV HU HB
    obtain ⟨k, hk, rfl, HI⟩ := hrel
    by_cases hlt : k < l.length
    · obtain ⟨x, rfl, hx1, hx2, hx3, HYR⟩ := HL.out k hlt
      clear hx1 hx2 hx3
      have HROW := Box.mk ((HL.out.keep (by rw [HGP.out]; exact HI.out.2.2)).row hlt)
      have HST := Box.mk (mergeV_snoc l k hlt)
      have HINV := Box.mk (mergeV_inv l k hk)
      replace HYR := Box.mk HYR
      generalize l[k] = y at *
      generalize mergeV (l.take k) = r at *
      obtain ⟨rt, re, ra⟩ := r
      obtain ⟨yt, ye, ya⟩ := y
      simp only [Wn.rng] at HI HINV HROW HYR
      have HN := Box.mk (show (mergeV (l.take (k + 1))).tot = addMx rt yt ∧ (mergeV (l.take (k + 1))).err = addMx re ye by rw [HST.out]; exact ⟨rfl, rfl⟩)
      clear HST
      obtain ⟨nt, hnt⟩ : ∃ nt, addMx rt yt = nt := ⟨_, rfl⟩
      obtain ⟨ne, hne⟩ : ∃ ne, addMx re ye = ne := ⟨_, rfl⟩
      rw [hnt, hne] at HN
      have HNT := Box.mk hnt
      have HNE := Box.mk hne
      clear hnt hne
      obtain ⟨W4, hW4⟩ : ∃ W4, W4 = (wr.alloc (.cells #[.int .i64 0, .int .i64 0, .int .i64 0] 23)).setRow wr.heap.size #[.int .i64 yt, .int .i64 ye, .int .i64 ya] := ⟨_, rfl⟩
      have hgl : gp + 1 < wr.heap.size := HI.out.1.lt
      have HY4 := Box.mk (show VarA W4 wr.heap.size #[.int .i64 yt, .int .i64 ye, .int .i64 ya] 23 by rw [hW4]; exact setRow_heap _ _ _ _ _ _ (VarA.new _ _ _))
      have HI4 := Box.mk (show VarA W4 (gp + 1) #[.int .i64 rt, .int .i64 re, .int .i64 0] 23 ∧ VarA W4 gp #[.int .i64 0, .int .i64 0, .int .i64 0] 23 ∧ Below gp w W4 by
        rw [hW4]
        exact ⟨(HI.out.1.below _).row_other (by omega), (HI.out.2.1.below _).row_other (by omega), below_setRow (HI.out.2.2.trans ((below_oneF wr _).mono (by omega))) (by omega) _⟩)
      go_upto_region 5 with (first | refine wpList_load_rowP rfl 23 _ rfl (x.add (k * 3)) #[.int .i64 yt, .int .i64 ye, .int .i64 ya] _ rfl HROW.out Try.underlying23 rfl sizeWn ?_ | refine wpList_store_row rfl 23 _ _ rfl wr.heap.size #[.int .i64 yt, .int .i64 ye, .int .i64 ya] rfl rfl 23 _ (VarA.new _ _ _) sizeWn rfl (oneWn ..) ?_)
      change Code.wp _ _ _ _ ((wr.alloc (.cells #[.int .i64 0, .int .i64 0, .int .i64 0] 23)).setRow wr.heap.size #[.int .i64 yt, .int .i64 ye, .int .i64 ya])
      rw [← hW4]
      clear hW4 HROW
      have c0 := HI4.out.1.cell (i := 0) (v := .int .i64 rt) rfl
      have y0 := HY4.out.cell (i := 0) (v := .int .i64 yt) rfl
      have HS5 := Box.mk (isInts_two W4 rt yt (by unfold i64P; have := HINV.out; omega) HYR.out.1 3)
      go_wp2_with fail
      refine (numAdd_v 1000000000 rt yt _ _ (by unfold i64P; omega) HS5.out).mono ?_
      rintro e w5a ⟨rfl, hw⟩
      have HBz := Box.mk (show Below W4.heap.size W4 w5a by rw [← hw]; exact below_oneF _ _)
      rw [show addS 1000000000 [rt, yt] = nt from HNT.out]
      have HI5a := Box.mk (show VarA w5a (gp + 1) #[.int .i64 rt, .int .i64 re, .int .i64 0] 23 ∧ VarA w5a gp #[.int .i64 0, .int .i64 0, .int .i64 0] 23 ∧ Below gp w w5a from ⟨HI4.out.1.keep HBz.out, HI4.out.2.1.keep HBz.out, HI4.out.2.2.trans (HBz.out.mono (by have := HI4.out.1.lt; omega))⟩)
      have HY5a := Box.mk (HY4.out.keep HBz.out)
      clear hw c0 y0 HS5 HBz HI4 HY4
      have c0 := HI5a.out.1.cell (i := 0) (v := .int .i64 rt) rfl
      have hf := HI5a.out.1.frozen (i := 0)
      obtain ⟨w5, hw5⟩ : ∃ w5, w5 = w5a.setCell ⟨gp + 1, 0, none⟩ (.int .i64 nt) := ⟨_, rfl⟩
      have HI5 := Box.mk (show VarA w5 (gp + 1) #[.int .i64 nt, .int .i64 re, .int .i64 0] 23 ∧ VarA w5 gp #[.int .i64 0, .int .i64 0, .int .i64 0] 23 ∧ Below gp w w5 by
        rw [hw5]
        exact ⟨HI5a.out.1.set, HI5a.out.2.1.other (by show gp ≠ gp + 1; omega), HI5a.out.2.2.setCell (by show gp ≤ gp + 1; omega) _⟩)
      have HY5 := Box.mk (show VarA w5 wr.heap.size #[.int .i64 yt, .int .i64 ye, .int .i64 ya] 23 by rw [hw5]; exact HY5a.out.other (by show wr.heap.size ≠ gp + 1; omega))
      clear HI5a HY5a
      go_upto_region 6 with fail
      change Code.wp _ _ _ _ (w5a.setCell ⟨gp + 1, 0, none⟩ (.int .i64 nt))
      rw [← hw5]
      clear hw5 c0 hf
      have c0 := HI5.out.1.cell (i := 1) (v := .int .i64 re) rfl
      have y0 := HY5.out.cell (i := 1) (v := .int .i64 ye) rfl
      have HS6 := Box.mk (isInts_two w5 re ye (by unfold i64P; have := HINV.out; omega) HYR.out.2.1 3)
      go_wp2_with fail
      refine (numAdd_v 1000000000 re ye _ _ (by unfold i64P; omega) HS6.out).mono ?_
      rintro e w6a ⟨rfl, hw⟩
      have HBz := Box.mk (show Below w5.heap.size w5 w6a by rw [← hw]; exact below_oneF _ _)
      rw [show addS 1000000000 [re, ye] = ne from HNE.out]
      have HI6a := Box.mk (show VarA w6a (gp + 1) #[.int .i64 nt, .int .i64 re, .int .i64 0] 23 ∧ VarA w6a gp #[.int .i64 0, .int .i64 0, .int .i64 0] 23 ∧ Below gp w w6a from ⟨HI5.out.1.keep HBz.out, HI5.out.2.1.keep HBz.out, HI5.out.2.2.trans (HBz.out.mono (by have := HI5.out.1.lt; omega))⟩)
      have HY6a := Box.mk (HY5.out.keep HBz.out)
      clear hw c0 y0 HS6 HBz HI5 HY5
      have c0 := HI6a.out.1.cell (i := 1) (v := .int .i64 re) rfl
      have hf := HI6a.out.1.frozen (i := 1)
      obtain ⟨w6, hw6⟩ : ∃ w6, w6 = w6a.setCell ⟨gp + 1, 1, none⟩ (.int .i64 ne) := ⟨_, rfl⟩
      have HI6 := Box.mk (show VarA w6 (gp + 1) #[.int .i64 nt, .int .i64 ne, .int .i64 0] 23 ∧ VarA w6 gp #[.int .i64 0, .int .i64 0, .int .i64 0] 23 ∧ Below gp w w6 by
        rw [hw6]
        exact ⟨HI6a.out.1.set, HI6a.out.2.1.other (by show gp ≠ gp + 1; omega), HI6a.out.2.2.setCell (by show gp ≤ gp + 1; omega) _⟩)
      have HY6 := Box.mk (show VarA w6 wr.heap.size #[.int .i64 yt, .int .i64 ye, .int .i64 ya] 23 by rw [hw6]; exact HY6a.out.other (by show wr.heap.size ≠ gp + 1; omega))
      clear HI6a HY6a
      go_upto_region 7 with fail
      change Code.wp _ _ _ _ (w6a.setCell ⟨gp + 1, 1, none⟩ (.int .i64 ne))
      rw [← hw6]
      clear hw6 c0 hf
      go_wp2_with fail
      go_roundw
      case rel => exact ⟨k + 1, by omega, by go_num, ⟨by rw [HN.out.1, HN.out.2]; exact HI6.out.1, HI6.out.2.1, HI6.out.2.2⟩⟩
      case measure => simp [intOf]; omega
    · have HE := Box.mk (show mergeV (l.take k) = R by rw [HR.out, List.take_of_length_le (by omega)])
      have HA := Box.mk (mergeV_inv l k hk)
      rw [HE.out] at HI HA
      obtain ⟨rt, re, ra⟩ := R
      simp only at HI HA
      have c0 := HI.out.1.cell (i := 0) (v := .int .i64 rt) rfl
      have c1 := HI.out.1.cell (i := 1) (v := .int .i64 re) rfl
      have c2 := HI.out.1.cell (i := 2) (v := .int .i64 0) rfl
      clear HE HL
      go_wp2_with (refine wpList_store_row rfl 23 _ _ rfl gp #[.int .i64 rt, .int .i64 re, .int .i64 0] rfl rfl 23 _ HI.out.2.1 sizeWn rfl (oneWn ..) ?_)
      (try simp only [Exit.inBlock, Exit.then])
      refine ret_rowQ (cs := #[.int .i64 rt, .int .i64 re, .int .i64 0]) rfl rfl rfl (setRow_heap _ _ _ _ _ _ HI.out.2.1) Try.underlying23 rfl sizeWn ⟨by unfold Wn.cells; rw [HA.out.2.2], by rw [HGP.out]; exact below_setRow HI.out.2.2 (Nat.le_refl _) _⟩

theorem countV_eq (v : Wn) (failed : Bool) : (joinV (joinV ⟨0, 0, 0⟩ v) ⟨1, if failed = true then 1 else 0, 0⟩).tot = (smpV v failed).tot ∧ (joinV (joinV ⟨0, 0, 0⟩ v) ⟨1, if failed = true then 1 else 0, 0⟩).err = (smpV v failed).err := by
  unfold joinV smpV
  simp only
  unfold addMx
  cases failed <;> simp only [addS_eq, cnt1_eq, cnt0_eq, if_neg (show ¬ (1000000000 : Int) < 0 by omega), sumX] <;> constructor <;> simp <;> omega
set_option maxRecDepth 10000 in
set_option maxHeartbeats 4000000 in
theorem wCount_any (v : Wn) (failed : Bool) (w : World) (h : v.rng) :
    Calls Try.prog 11 #[.agg v.cells, .bool failed] w fun e w' => e = .returned (.agg (smpV v failed).cells) ∧ Below w.heap.size w w' := by
  obtain ⟨s, hs⟩ : ∃ s, smpV v failed = s := ⟨_, rfl⟩
  have HM := Box.mk (countV_eq v failed)
  have HAG := Box.mk (show (smpV v failed).age = v.age from rfl)
  rw [hs] at HM HAG
  rw [hs]
  clear hs
  have HR := Box.mk h
  clear h
  obtain ⟨tot, err, age⟩ := v
  obtain ⟨t2, e2, a2⟩ := s
  simp only at HM HAG
  have haa : age = a2 := HAG.out.symm
  subst haa
  clear HAG
  have HFV := Box.mk (show VarA (w.alloc (.cells #[.int .i64 tot, .int .i64 err, .int .i64 age] 23)) w.heap.size #[.int .i64 tot, .int .i64 err, .int .i64 age] 23 from VarA.new _ _ _)
  obtain ⟨d, hd⟩ : ∃ d : Int, d = if failed = true then 1 else 0 := ⟨_, rfl⟩
  have HD := Box.mk (show (0 ≤ d ∧ d ≤ 1) by rw [hd]; split <;> omega)
  have HDE := Box.mk hd
  rw [← hd] at HM
  clear hd
  obtain ⟨W1, hW1⟩ : ∃ W1, W1 = ((w.alloc (.cells #[.int .i64 tot, .int .i64 err, .int .i64 age] 23)).alloc (.cells #[.int .i64 0, .int .i64 0, .int .i64 0] 23)).alloc (.cells #[.int .i64 1, .int .i64 0, .int .i64 0] 23) := ⟨_, rfl⟩
  have HB1 := Box.mk (show Below w.heap.size w W1 by rw [hW1]; exact below_twoF (below_twoF (below_oneF w _) _) _)
  have HV1 := Box.mk (show VarA W1 w.heap.size #[.int .i64 tot, .int .i64 err, .int .i64 age] 23 by rw [hW1]; exact (HFV.out.below _).below _)
  have HU1 := Box.mk (show VarA W1 (w.heap.size + 1) #[.int .i64 0, .int .i64 0, .int .i64 0] 23 by rw [hW1]; have := (VarA.new (w.alloc (.cells #[.int .i64 tot, .int .i64 err, .int .i64 age] 23)) #[.int .i64 0, .int .i64 0, .int .i64 0] 23).below (.cells #[.int .i64 1, .int .i64 0, .int .i64 0] 23); rw [World.size_alloc] at this; exact this)
  have HX1 := Box.mk (show VarA W1 (w.heap.size + 1 + 1) #[.int .i64 1, .int .i64 0, .int .i64 0] 23 by rw [hW1]; have := VarA.new ((w.alloc (.cells #[.int .i64 tot, .int .i64 err, .int .i64 age] 23)).alloc (.cells #[.int .i64 0, .int .i64 0, .int .i64 0] 23)) #[.int .i64 1, .int .i64 0, .int .i64 0] 23; rw [World.size_alloc, World.size_alloc] at this; exact this)
  unfold Wn.cells
  simp only
  go_enter Try.func11, Try.ntmps11
  go_upto_region 2 with fail
  change Code.wp _ _ _ _ (((w.alloc (.cells #[.int .i64 tot, .int .i64 err, .int .i64 age] 23)).alloc (.cells #[.int .i64 0, .int .i64 0, .int .i64 0] 23)).alloc (.cells #[.int .i64 1, .int .i64 0, .int .i64 0] 23))
  rw [← hW1]
  clear hW1 HFV
  cases failed
  · have hd : d = 0 := HDE.out
    subst hd
    go_upto_region 4 with fail
    have HMV := Box.mk (show mergeV [⟨tot, err, age⟩, ⟨1, 0, 0⟩] = ⟨t2, e2, 0⟩ by show joinV (joinV ⟨0, 0, 0⟩ ⟨tot, err, age⟩) ⟨1, 0, 0⟩ = _; rw [← HM.out.1, ← HM.out.2]; rfl)
    have HP := Box.mk (winsIn_pair W1 ⟨tot, err, age⟩ ⟨1, 0, 0⟩ HR.out (by unfold Wn.rng i64P; simp only; omega) 23)
    have c0 := HV1.out.cell (i := 0) (v := .int .i64 tot) rfl
    have c1 := HV1.out.cell (i := 1) (v := .int .i64 err) rfl
    have c2 := HV1.out.cell (i := 2) (v := .int .i64 age) rfl
    have x0 := HX1.out.cell (i := 0) (v := .int .i64 1) rfl
    have x1 := HX1.out.cell (i := 1) (v := .int .i64 0) rfl
    have x2 := HX1.out.cell (i := 2) (v := .int .i64 0) rfl
    clear HM HDE HD
    go_wp2_with (refine wpList_slice2Wn rfl rfl ⟨tot, err, age⟩ ⟨1, 0, 0⟩ rfl rfl ?_)
    refine (wMerge_any [⟨tot, err, age⟩, ⟨1, 0, 0⟩] _ 2 _ HP.out (show 2 ≤ 1000000 by decide)).mono ?_
    rintro e w3 ⟨he, hb⟩
    rw [HMV.out] at he
    simp only [Wn.cells] at he
    subst he
    have hb := Box.mk (below_trans (below_oneF W1 _) hb)
    have HB3 := Box.mk (below_trans HB1.out hb.out)
    have HV3 := Box.mk (HV1.out.keep hb.out)
    have HU3 := Box.mk (HU1.out.keep hb.out)
    clear hb HMV HP c0 c1 c2 x0 x1 x2 HB1 HV1 HU1 HX1 HR
    obtain ⟨W4, hW4⟩ : ∃ W4, W4 = (w3.alloc (.cells #[.int .i64 0, .int .i64 0, .int .i64 0] 23)).setRow w3.heap.size #[.int .i64 t2, .int .i64 e2, .int .i64 0] := ⟨_, rfl⟩
    have hlv := HU3.out.lt
    have HB4 := Box.mk (show Below w.heap.size w W4 by rw [hW4]; exact below_setRow (below_trans HB3.out (below_oneF _ _)) (by omega) _)
    have HV4 := Box.mk (show VarA W4 w.heap.size #[.int .i64 tot, .int .i64 err, .int .i64 age] 23 by rw [hW4]; exact (HV3.out.below _).row_other (by omega))
    have HU4 := Box.mk (show VarA W4 (w.heap.size + 1) #[.int .i64 0, .int .i64 0, .int .i64 0] 23 by rw [hW4]; exact (HU3.out.below _).row_other (by omega))
    have HY4 := Box.mk (show VarA W4 w3.heap.size #[.int .i64 t2, .int .i64 e2, .int .i64 0] 23 by rw [hW4]; exact setRow_heap _ _ _ _ _ _ (VarA.new _ _ _))
    go_upto_region 5 with (refine wpList_store_row rfl 23 _ _ rfl w3.heap.size #[.int .i64 t2, .int .i64 e2, .int .i64 0] rfl rfl 23 _ (VarA.new _ _ _) sizeWn rfl (oneWn ..) ?_)
    change Code.wp _ _ _ _ ((w3.alloc (.cells #[.int .i64 0, .int .i64 0, .int .i64 0] 23)).setRow w3.heap.size #[.int .i64 t2, .int .i64 e2, .int .i64 0])
    rw [← hW4]
    clear hW4 HB3 HV3 HU3
    obtain ⟨gz, hgz⟩ : ∃ gz, w3.heap.size = gz := ⟨_, rfl⟩
    rw [hgz] at hlv HY4 ⊢
    clear hgz
    have c2 := HV4.out.cell (i := 2) (v := .int .i64 age) rfl
    have y2 := HY4.out.cell (i := 2) (v := .int .i64 0) rfl
    have hf := HY4.out.frozen (i := 2)
    obtain ⟨W5, hW5⟩ : ∃ W5, W5 = W4.setCell ⟨gz, 2, none⟩ (.int .i64 age) := ⟨_, rfl⟩
    have HB5 := Box.mk (show Below w.heap.size w W5 by rw [hW5]; exact HB4.out.setCell (by show w.heap.size ≤ gz; omega) _)
    have HU5 := Box.mk (show VarA W5 (w.heap.size + 1) #[.int .i64 0, .int .i64 0, .int .i64 0] 23 by rw [hW5]; exact HU4.out.other (by show w.heap.size + 1 ≠ gz; omega))
    have HY5 := Box.mk (show VarA W5 gz #[.int .i64 t2, .int .i64 e2, .int .i64 age] 23 by rw [hW5]; exact HY4.out.set)
    go_upto_region 6 with fail
    change Code.wp _ _ _ _ (W4.setCell ⟨gz, 2, none⟩ (.int .i64 age))
    rw [← hW5]
    clear hW5 HB4 HU4 HY4 HV4 c2 y2 hf
    have y0 := HY5.out.cell (i := 0) (v := .int .i64 t2) rfl
    have y1 := HY5.out.cell (i := 1) (v := .int .i64 e2) rfl
    have y2 := HY5.out.cell (i := 2) (v := .int .i64 age) rfl
    go_wp2_with (refine wpList_store_row rfl 23 _ _ rfl (w.heap.size + 1) #[.int .i64 t2, .int .i64 e2, .int .i64 age] rfl rfl 23 _ HU5.out sizeWn rfl (oneWn ..) ?_)
    (try simp only [Exit.inBlock, Exit.then])
    refine ret_rowQ (cs := #[.int .i64 t2, .int .i64 e2, .int .i64 age]) rfl rfl rfl (setRow_heap _ _ _ _ _ _ HU5.out) Try.underlying23 rfl sizeWn ⟨rfl, below_setRow HB5.out (by omega) _⟩
  · have hd : d = 1 := HDE.out
    subst hd
    have x1 := HX1.out.cell (i := 1) (v := .int .i64 0) rfl
    have hf := HX1.out.frozen (i := 1)
    obtain ⟨W2, hW2⟩ : ∃ W2, W2 = W1.setCell ⟨w.heap.size + 1 + 1, 1, none⟩ (.int .i64 1) := ⟨_, rfl⟩
    have HB2 := Box.mk (show Below w.heap.size w W2 by rw [hW2]; exact HB1.out.setCell (by show w.heap.size ≤ w.heap.size + 1 + 1; omega) _)
    have HV2 := Box.mk (show VarA W2 w.heap.size #[.int .i64 tot, .int .i64 err, .int .i64 age] 23 by rw [hW2]; exact HV1.out.other (by show w.heap.size ≠ w.heap.size + 1 + 1; omega))
    have HU2 := Box.mk (show VarA W2 (w.heap.size + 1) #[.int .i64 0, .int .i64 0, .int .i64 0] 23 by rw [hW2]; exact HU1.out.other (by show w.heap.size + 1 ≠ w.heap.size + 1 + 1; omega))
    have HX2 := Box.mk (show VarA W2 (w.heap.size + 1 + 1) #[.int .i64 1, .int .i64 1, .int .i64 0] 23 by rw [hW2]; exact HX1.out.set)
    go_upto_region 4 with fail
    change Code.wp _ _ _ _ (W1.setCell ⟨w.heap.size + 1 + 1, 1, none⟩ (.int .i64 1))
    rw [← hW2]
    clear hW2 HB1 HV1 HU1 HX1 x1 hf
    have HMV := Box.mk (show mergeV [⟨tot, err, age⟩, ⟨1, 1, 0⟩] = ⟨t2, e2, 0⟩ by show joinV (joinV ⟨0, 0, 0⟩ ⟨tot, err, age⟩) ⟨1, 1, 0⟩ = _; rw [← HM.out.1, ← HM.out.2]; rfl)
    have HP := Box.mk (winsIn_pair W2 ⟨tot, err, age⟩ ⟨1, 1, 0⟩ HR.out (by unfold Wn.rng i64P; simp only; omega) 23)
    have c0 := HV2.out.cell (i := 0) (v := .int .i64 tot) rfl
    have c1 := HV2.out.cell (i := 1) (v := .int .i64 err) rfl
    have c2 := HV2.out.cell (i := 2) (v := .int .i64 age) rfl
    have x0 := HX2.out.cell (i := 0) (v := .int .i64 1) rfl
    have x1 := HX2.out.cell (i := 1) (v := .int .i64 1) rfl
    have x2 := HX2.out.cell (i := 2) (v := .int .i64 0) rfl
    clear HM HDE HD
    go_wp2_with (refine wpList_slice2Wn rfl rfl ⟨tot, err, age⟩ ⟨1, 1, 0⟩ rfl rfl ?_)
    refine (wMerge_any [⟨tot, err, age⟩, ⟨1, 1, 0⟩] _ 2 _ HP.out (show 2 ≤ 1000000 by decide)).mono ?_
    rintro e w3 ⟨he, hb⟩
    rw [HMV.out] at he
    simp only [Wn.cells] at he
    subst he
    have hb := Box.mk (below_trans (below_oneF W2 _) hb)
    have HB3 := Box.mk (below_trans HB2.out hb.out)
    have HV3 := Box.mk (HV2.out.keep hb.out)
    have HU3 := Box.mk (HU2.out.keep hb.out)
    clear hb HMV HP c0 c1 c2 x0 x1 x2 HB2 HV2 HU2 HX2 HR
    obtain ⟨W4, hW4⟩ : ∃ W4, W4 = (w3.alloc (.cells #[.int .i64 0, .int .i64 0, .int .i64 0] 23)).setRow w3.heap.size #[.int .i64 t2, .int .i64 e2, .int .i64 0] := ⟨_, rfl⟩
    have hlv := HU3.out.lt
    have HB4 := Box.mk (show Below w.heap.size w W4 by rw [hW4]; exact below_setRow (below_trans HB3.out (below_oneF _ _)) (by omega) _)
    have HV4 := Box.mk (show VarA W4 w.heap.size #[.int .i64 tot, .int .i64 err, .int .i64 age] 23 by rw [hW4]; exact (HV3.out.below _).row_other (by omega))
    have HU4 := Box.mk (show VarA W4 (w.heap.size + 1) #[.int .i64 0, .int .i64 0, .int .i64 0] 23 by rw [hW4]; exact (HU3.out.below _).row_other (by omega))
    have HY4 := Box.mk (show VarA W4 w3.heap.size #[.int .i64 t2, .int .i64 e2, .int .i64 0] 23 by rw [hW4]; exact setRow_heap _ _ _ _ _ _ (VarA.new _ _ _))
    go_upto_region 5 with (refine wpList_store_row rfl 23 _ _ rfl w3.heap.size #[.int .i64 t2, .int .i64 e2, .int .i64 0] rfl rfl 23 _ (VarA.new _ _ _) sizeWn rfl (oneWn ..) ?_)
    change Code.wp _ _ _ _ ((w3.alloc (.cells #[.int .i64 0, .int .i64 0, .int .i64 0] 23)).setRow w3.heap.size #[.int .i64 t2, .int .i64 e2, .int .i64 0])
    rw [← hW4]
    clear hW4 HB3 HV3 HU3
    obtain ⟨gz, hgz⟩ : ∃ gz, w3.heap.size = gz := ⟨_, rfl⟩
    rw [hgz] at hlv HY4 ⊢
    clear hgz
    have c2 := HV4.out.cell (i := 2) (v := .int .i64 age) rfl
    have y2 := HY4.out.cell (i := 2) (v := .int .i64 0) rfl
    have hf := HY4.out.frozen (i := 2)
    obtain ⟨W5, hW5⟩ : ∃ W5, W5 = W4.setCell ⟨gz, 2, none⟩ (.int .i64 age) := ⟨_, rfl⟩
    have HB5 := Box.mk (show Below w.heap.size w W5 by rw [hW5]; exact HB4.out.setCell (by show w.heap.size ≤ gz; omega) _)
    have HU5 := Box.mk (show VarA W5 (w.heap.size + 1) #[.int .i64 0, .int .i64 0, .int .i64 0] 23 by rw [hW5]; exact HU4.out.other (by show w.heap.size + 1 ≠ gz; omega))
    have HY5 := Box.mk (show VarA W5 gz #[.int .i64 t2, .int .i64 e2, .int .i64 age] 23 by rw [hW5]; exact HY4.out.set)
    go_upto_region 6 with fail
    change Code.wp _ _ _ _ (W4.setCell ⟨gz, 2, none⟩ (.int .i64 age))
    rw [← hW5]
    clear hW5 HB4 HU4 HY4 HV4 c2 y2 hf
    have y0 := HY5.out.cell (i := 0) (v := .int .i64 t2) rfl
    have y1 := HY5.out.cell (i := 1) (v := .int .i64 e2) rfl
    have y2 := HY5.out.cell (i := 2) (v := .int .i64 age) rfl
    go_wp2_with (refine wpList_store_row rfl 23 _ _ rfl (w.heap.size + 1) #[.int .i64 t2, .int .i64 e2, .int .i64 age] rfl rfl 23 _ HU5.out sizeWn rfl (oneWn ..) ?_)
    (try simp only [Exit.inBlock, Exit.then])
    refine ret_rowQ (cs := #[.int .i64 t2, .int .i64 e2, .int .i64 age]) rfl rfl rfl (setRow_heap _ _ _ _ _ _ HU5.out) Try.underlying23 rfl sizeWn ⟨rfl, below_setRow HB5.out (by omega) _⟩

theorem later_eq (v : Wn) (len : Int) (hl : len ≤ 9223372036854775807) : (tickV v len).1 = if len ≤ addS 9223372036854775807 [v.age, 1] then ⟨0, 0, 0⟩ else ⟨v.tot, v.err, addS 9223372036854775807 [v.age, 1]⟩ := by
  have h : addS 9223372036854775807 [v.age, 1] = min 9223372036854775807 (max v.age 0 + 1) := by
    rw [addS_eq, if_neg (by omega)]; simp only [sumX]; omega
  have h0 : max0 v.age = max v.age 0 := by unfold max0; omega
  rw [h]
  by_cases hc : len ≤ max0 v.age ∨ len ≤ max0 v.age + 1
  · rw [tickV_yes hc, if_pos (by omega)]
  · rw [tickV_no hc, if_neg (by omega), h0]
    show (⟨v.tot, v.err, max v.age 0 + 1⟩ : Wn) = ⟨v.tot, v.err, _⟩
    congr 1
    omega
set_option maxRecDepth 10000 in
set_option maxHeartbeats 4000000 in
theorem wLater_any (v : Wn) (len : Int) (w : World) (h : v.rng) (hl : i64P len) :
    Calls Try.prog 14 #[.agg v.cells, .int .i64 len] w fun e w' => e = .returned (.agg (tickV v len).1.cells) ∧ Below w.heap.size w w' := by
  obtain ⟨s, hs⟩ : ∃ s, (tickV v len).1 = s := ⟨_, rfl⟩
  have HM := Box.mk (later_eq v len hl.2)
  rw [hs] at HM
  rw [hs]
  clear hs
  have HR := Box.mk h
  have HL := Box.mk hl
  clear h hl
  obtain ⟨tot, err, age⟩ := v
  obtain ⟨W, hW⟩ : ∃ W, W = (w.alloc (.cells #[.int .i64 tot, .int .i64 err, .int .i64 age] 23)).alloc (.cells #[.int .i64 0, .int .i64 0, .int .i64 0] 23) := ⟨_, rfl⟩
  have HB := Box.mk (show Below w.heap.size w W by rw [hW]; exact below_twoF (below_oneF w _) _)
  have HV := Box.mk (show VarA W w.heap.size #[.int .i64 tot, .int .i64 err, .int .i64 age] 23 by rw [hW]; exact (VarA.new _ _ _).below _)
  have HU := Box.mk (show VarA W (w.heap.size + 1) #[.int .i64 0, .int .i64 0, .int .i64 0] 23 by rw [hW]; have := VarA.new (w.alloc (.cells #[.int .i64 tot, .int .i64 err, .int .i64 age] 23)) #[.int .i64 0, .int .i64 0, .int .i64 0] 23; rw [World.size_alloc] at this; exact this)
  obtain ⟨A, hA⟩ : ∃ A, addS 9223372036854775807 [age, 1] = A := ⟨_, rfl⟩
  simp only [hA] at HM
  have HA := Box.mk hA
  clear hA
  have HI := Box.mk (isInts_two W age 1 HR.out.2.2 (by unfold i64P; omega) 3)
  unfold Wn.cells
  simp only
  go_enter Try.func14, Try.ntmps14
  go_upto_region 1 with fail
  change Code.wp _ _ _ _ ((w.alloc (.cells #[.int .i64 tot, .int .i64 err, .int .i64 age] 23)).alloc (.cells #[.int .i64 0, .int .i64 0, .int .i64 0] 23))
  rw [← hW]
  clear hW
  have c2 := HV.out.cell (i := 2) (v := .int .i64 age) rfl
  go_wp2_with fail
  refine (numAdd_v 9223372036854775807 age 1 _ _ (by unfold i64P; omega) HI.out).mono ?_
  rintro e w1 ⟨rfl, hw⟩
  have HBz := Box.mk (show Below W.heap.size W w1 by rw [← hw]; exact below_oneF _ _)
  rw [show addS 9223372036854775807 [age, 1] = A from HA.out]
  have HB1 := Box.mk (below_trans HB.out HBz.out)
  have HV1 := Box.mk (HV.out.keep HBz.out)
  have HU1 := Box.mk (HU.out.keep HBz.out)
  clear hw HBz HI c2 HB HV HU HA
  have c2 := HV1.out.cell (i := 2) (v := .int .i64 age) rfl
  have hf := HV1.out.frozen (i := 2)
  obtain ⟨W2, hW2⟩ : ∃ W2, W2 = w1.setCell ⟨w.heap.size, 2, none⟩ (.int .i64 A) := ⟨_, rfl⟩
  have HB2 := Box.mk (show Below w.heap.size w W2 by rw [hW2]; exact HB1.out.setCell (Nat.le_refl _) _)
  have HV2 := Box.mk (show VarA W2 w.heap.size #[.int .i64 tot, .int .i64 err, .int .i64 A] 23 by rw [hW2]; exact HV1.out.set)
  have HU2 := Box.mk (show VarA W2 (w.heap.size + 1) #[.int .i64 0, .int .i64 0, .int .i64 0] 23 by rw [hW2]; exact HU1.out.other (by show w.heap.size + 1 ≠ w.heap.size; omega))
  go_upto_region 2 with fail
  change Code.wp _ _ _ _ (w1.setCell ⟨w.heap.size, 2, none⟩ (.int .i64 A))
  rw [← hW2]
  clear hW2 HB1 HV1 HU1 c2 hf
  have c0 := HV2.out.cell (i := 0) (v := .int .i64 tot) rfl
  have c1 := HV2.out.cell (i := 1) (v := .int .i64 err) rfl
  have c2 := HV2.out.cell (i := 2) (v := .int .i64 A) rfl
  by_cases hc : len ≤ A
  · have HX := Box.mk (show s = ⟨0, 0, 0⟩ by rw [HM.out, if_pos hc])
    have d1 := decide_eq_true hc
    clear HM hc
    go_wp2_with (refine wpList_store_row rfl 23 _ _ rfl (w.heap.size + 1) #[.int .i64 0, .int .i64 0, .int .i64 0] rfl rfl 23 _ HU2.out sizeWn rfl (oneWn ..) ?_)
    (try simp only [Exit.inBlock, Exit.then])
    refine ret_rowQ (cs := #[.int .i64 0, .int .i64 0, .int .i64 0]) rfl rfl rfl (setRow_heap _ _ _ _ _ _ HU2.out) Try.underlying23 rfl sizeWn ⟨by rw [HX.out], below_setRow HB2.out (by omega) _⟩
  · have HX := Box.mk (show s = ⟨tot, err, A⟩ by rw [HM.out, if_neg hc])
    have d1 := decide_eq_false hc
    clear HM hc
    go_wp2_with (refine wpList_store_row rfl 23 _ _ rfl (w.heap.size + 1) #[.int .i64 tot, .int .i64 err, .int .i64 A] rfl rfl 23 _ HU2.out sizeWn rfl (oneWn ..) ?_)
    (try simp only [Exit.inBlock, Exit.then])
    refine ret_rowQ (cs := #[.int .i64 tot, .int .i64 err, .int .i64 A]) rfl rfl rfl (setRow_heap _ _ _ _ _ _ HU2.out) Try.underlying23 rfl sizeWn ⟨by rw [HX.out], below_setRow HB2.out (by omega) _⟩

theorem eq_window0 (n m k : Int) (w : World) : (Op.equalIn Op.maxDepth 23 (.agg #[.int .i64 n, .int .i64 m, .int .i64 k]) (.agg #[.int .i64 0, .int .i64 0, .int .i64 0])).run Try.prog w = .ok (decide (n = 0) && (decide (m = 0) && decide (k = 0))) w := by
  rw [show Op.maxDepth = 9999 + 1 from rfl, run_equalIn_struct w 9999 _ _ _ (by kernel_rfl) (by kernel_rfl)]
  by_cases h1 : n = 0 <;> by_cases h2 : m = 0 <;> by_cases h3 : k = 0 <;> go_simp
theorem loc_eqlWn0 {Q : Exit → Act → World → Prop} {act : Act} {w : World} {o : Oper} {s : Spec} {x y : Operand} {t : TypeId} (ho : o.op = .binOp .eql 23 x y t) {n m k : Int} (hx : act.eval x = .agg #[.int .i64 n, .int .i64 m, .int .i64 k]) (hy : act.eval y = .agg #[.int .i64 0, .int .i64 0, .int .i64 0]) (hs : s.p (.bool (decide (n = 0) && (decide (m = 0) && decide (k = 0)))) w) :
    o.wp Try.prog act w (fun a' w' => ∃ v, a' = act.put o.dst v ∧ Below w.heap.size w w' ∧ s.p v w') Q :=
  loc_run (v := .bool (decide (n = 0) && (decide (m = 0) && decide (k = 0)))) (by
    unfold execOp
    simp only [ho, hx, hy]
    have he := eq_window0 n m k w
    simp [eqGuard, binOp, Op.equal, he]) (Below.refl _ _) hs
theorem tickW_zero (v : Wn) (len : Int) : (tickV v len).2 = (decide ((tickV v len).1.tot = 0) && (decide ((tickV v len).1.err = 0) && decide ((tickV v len).1.age = 0))) := by
  unfold tickV
  split
  · rfl
  · have := max0_ge v.age
    simp only [decide_eq_false (show ¬ max0 v.age + 1 = 0 by omega), Bool.and_false]
def Spec.neverW : Spec := ⟨fun _ _ => False, fun _ _ _ h _ => h⟩
theorem loc_build0Wn {Q : Exit → Act → World → Prop} {act : Act} {w : World} {o : Oper} {s : Spec} (ho : o.op = .build 23 #[]) (hs : s.p (.agg #[.int .i64 0, .int .i64 0, .int .i64 0]) w) :
    o.wp Try.prog act w (fun a' w' => ∃ v, a' = act.put o.dst v ∧ Below w.heap.size w w' ∧ s.p v w') Q := by
  refine loc_run (v := .agg #[.int .i64 0, .int .i64 0, .int .i64 0]) ?_ (Below.refl _ _) hs
  have hb := run_build (P := Try.prog) w 23 #[] #[.int .i64 0, .int .i64 0, .int .i64 0] (by kernel_rfl)
  unfold execOp
  simp only [ho, List.map_toArray, List.map_cons, List.map_nil, Sem.run_bind, hb, Result.andThen_ok, Sem.run_pure]
set_option maxRecDepth 10000 in
set_option maxHeartbeats 4000000 in
theorem wTick_any (v : Wn) (len : Int) (w : World) (h : v.rng) (hl : i64P len) :
    Calls Try.prog 8 #[.agg v.cells, .int .i64 len] w fun e w' => e = .returned (.tuple #[.agg (tickV v len).1.cells, .bool (tickV v len).2]) ∧ Below w.heap.size w w' := by
  obtain ⟨s, hs⟩ : ∃ s, tickV v len = s := ⟨_, rfl⟩
  have HZ := Box.mk (tickW_zero v len)
  rw [hs] at HZ
  rw [hs]
  have HS := Box.mk hs
  have HR := Box.mk h
  have HL := Box.mk hl
  clear hs h hl
  obtain ⟨tot, err, age⟩ := v
  obtain ⟨⟨t2, e2, a2⟩, b⟩ := s
  simp only at HZ
  obtain ⟨W, hW⟩ : ∃ W, W = (w.alloc (.cells #[.int .i64 tot, .int .i64 err, .int .i64 age] 23)).alloc (.cells #[.int .i64 0, .int .i64 0, .int .i64 0] 23) := ⟨_, rfl⟩
  have HB := Box.mk (show Below w.heap.size w W by rw [hW]; exact below_twoF (below_oneF w _) _)
  have HV := Box.mk (show VarA W w.heap.size #[.int .i64 tot, .int .i64 err, .int .i64 age] 23 by rw [hW]; exact (VarA.new _ _ _).below _)
  have HU := Box.mk (show VarA W (w.heap.size + 1) #[.int .i64 0, .int .i64 0, .int .i64 0] 23 by rw [hW]; have := VarA.new (w.alloc (.cells #[.int .i64 tot, .int .i64 err, .int .i64 age] 23)) #[.int .i64 0, .int .i64 0, .int .i64 0] 23; rw [World.size_alloc] at this; exact this)
  unfold Wn.cells
  simp only
  go_enter Try.func8, Try.ntmps8
  go_upto_region 1 with fail
  change Code.wp _ _ _ _ ((w.alloc (.cells #[.int .i64 tot, .int .i64 err, .int .i64 age] 23)).alloc (.cells #[.int .i64 0, .int .i64 0, .int .i64 0] 23))
  rw [← hW]
  clear hW
  have c0 := HV.out.cell (i := 0) (v := .int .i64 tot) rfl
  have c1 := HV.out.cell (i := 1) (v := .int .i64 err) rfl
  have c2 := HV.out.cell (i := 2) (v := .int .i64 age) rfl
  go_wp2_with fail
  refine (wLater_any ⟨tot, err, age⟩ len W HR.out HL.out).mono ?_
  rintro e w1 ⟨he, hb⟩
  rw [HS.out] at he
  simp only [Wn.cells] at he
  subst he
  have HB1 := Box.mk (below_trans HB.out hb)
  have HU1 := Box.mk (HU.out.keep hb)
  clear hb HB HU HV c0 c1 c2 HS HR HL
  have hlu := HU1.out.lt
  obtain ⟨W2, hW2⟩ : ∃ W2, W2 = (w1.alloc (.cells #[.int .i64 0, .int .i64 0, .int .i64 0] 23)).setRow w1.heap.size #[.int .i64 t2, .int .i64 e2, .int .i64 a2] := ⟨_, rfl⟩
  have HB2 := Box.mk (show Below w.heap.size w W2 by rw [hW2]; exact below_setRow (below_trans HB1.out (below_oneF _ _)) (by omega) _)
  have HU2 := Box.mk (show VarA W2 (w.heap.size + 1) #[.int .i64 0, .int .i64 0, .int .i64 0] 23 by rw [hW2]; exact (HU1.out.below _).row_other (by omega))
  have HN2 := Box.mk (show VarA W2 w1.heap.size #[.int .i64 t2, .int .i64 e2, .int .i64 a2] 23 by rw [hW2]; exact setRow_heap _ _ _ _ _ _ (VarA.new _ _ _))
  go_upto_region 2 with (refine wpList_store_row rfl 23 _ _ rfl w1.heap.size #[.int .i64 t2, .int .i64 e2, .int .i64 a2] rfl rfl 23 _ (VarA.new _ _ _) sizeWn rfl (oneWn ..) ?_)
  change Code.wp _ _ _ _ ((w1.alloc (.cells #[.int .i64 0, .int .i64 0, .int .i64 0] 23)).setRow w1.heap.size #[.int .i64 t2, .int .i64 e2, .int .i64 a2])
  rw [← hW2]
  clear hW2 HB1 HU1
  generalize w1.heap.size = gn at *
  rename_i K hK
  refine wp_region_phases [4] (fun ph => match ph with | 0 => [0, 1, 2, 3] | _ => [1, 2, 3, 5])
    (fun ph => match ph with
      | 0 => [.val (.agg #[.int .i64 t2, .int .i64 e2, .int .i64 a2]), .val (.agg #[.int .i64 t2, .int .i64 e2, .int .i64 a2]), .val (.agg #[.int .i64 0, .int .i64 0, .int .i64 0]), .val (.bool b), .any, .neverW]
      | _ => [.any, .val (.agg #[.int .i64 t2, .int .i64 e2, .int .i64 a2]), .val (.agg #[.int .i64 0, .int .i64 0, .int .i64 0]), .val (.bool b), .any, .val (.bool b)])
    (fun ph => match ph with
      | 0 => fun wx => Below W2.heap.size W2 wx
      | _ => fun wx => VarA wx (w.heap.size + 1) #[.int .i64 t2, .int .i64 e2, .int .i64 a2] 23 ∧ VarA wx gn #[.int .i64 t2, .int .i64 e2, .int .i64 a2] 23 ∧ Below w.heap.size w wx)
    (by kernel_rfl) (by kernel_rfl) (by kernel_rfl) (by kernel_rfl) (by kernel_rfl) (by kernel_rfl) ?_ (Below.refl _ _) ?_ ?_ ?_
  · intro ph w6 w7 h hb
    match ph, h with
    | 0, h => exact below_trans h hb
    | (_ + 1), h => exact ⟨h.1.keep hb, h.2.1.keep hb, below_trans h.2.2 hb⟩
  · intro ph hp
    match ph, hp with
    | 0, _ =>
      refine ⟨?_, ?_, ?_, ?_, trivial⟩ <;> intro a' w6 hb hf hd
      · exact ⟨wanted_none rfl, loc_load_rowG rfl (hf.base 6 rfl) (HN2.out.keep hb).row Try.underlying23 rfl sizeWn rfl⟩
      · exact ⟨wanted_none rfl, loc_load_rowG rfl (hf.base 6 rfl) (HN2.out.keep hb).row Try.underlying23 rfl sizeWn rfl⟩
      · exact ⟨wanted_none rfl, loc_build0Wn rfl rfl⟩
      · exact ⟨wanted_none rfl, loc_eqlWn0 rfl (hd 1 rfl) (hd 2 rfl) (by rw [← HZ.out]; rfl)⟩
    | 1, _ =>
      refine ⟨?_, ?_, ?_, ?_, trivial⟩ <;> intro a' w6 hb hf hd
      · exact ⟨wanted_none rfl, loc_load_rowG rfl (hf.base 6 rfl) hb.2.1.row Try.underlying23 rfl sizeWn rfl⟩
      · exact ⟨wanted_none rfl, loc_build0Wn rfl rfl⟩
      · exact ⟨wanted_none rfl, loc_eqlWn0 rfl (hd 1 rfl) (hd 2 rfl) (by rw [← HZ.out]; rfl)⟩
      · exact ⟨wanted_none rfl, loc_assign rfl (hd 3 rfl)⟩
  · intro ph hp
    match ph, hp with
    | 0, _ =>
      intro a' w6 hv hf hd
      refine ⟨wanted_none rfl, wp_store_row 23 _ _ rfl (w.heap.size + 1) #[.int .i64 t2, .int .i64 e2, .int .i64 a2] (hf.base 4 rfl) (hd 0 rfl) 23 _ (HU2.out.keep hv) sizeWn rfl (oneWn ..) ⟨undef, rfl, ?_, trivial, ?_⟩⟩
      · exact ⟨setRow_heap _ _ _ _ _ _ (HU2.out.keep hv), (HN2.out.keep hv).row_other (by omega), below_setRow (below_trans HB2.out hv) (by omega) _⟩
      · exact ⟨.inr fun _ _ _ => trivial, .inr fun _ _ h => h, .inr fun _ _ h => h, .inr fun _ _ h => h, .inl rfl, .inr fun _ _ h => h.elim, trivial⟩
  · intro ax w10 hv hf hh
    have e5 : ax.eval (.tmp 5) = .bool b := hh 5 (by decide)
    (try simp only [Exit.inBlock, Exit.then])
    refine hK _ _ ?_
    rw [fr_putAll hf]
    simp only [putAll, e5]
    have HV := Box.mk hv
    clear hf hh hv e5 hK K HU2 HN2 HB2
    generalize ax.eval (.tmp 10) = t10
    generalize ax.eval (.tmp 11) = t11
    generalize ax.eval (.tmp 12) = t12
    generalize ax.eval (.tmp 13) = t13
    clear ax
    simp only [Act.put, List.setIfInBounds_toArray, List.set_cons_succ, List.set_cons_zero]
    go_wp2_with fail
    (try simp only [Exit.inBlock, Exit.then])
    refine bodyPost_ret (results_row_tmpF rfl _ _ (w.heap.size + 1) _ _ _ _ rfl HV.out.1 Try.underlying23 rfl sizeWn) rfl ?_
    exact ⟨rfl, HV.out.2.2⟩
end Go.Proofs.Ytegpgcdhmkcopaa
namespace Go.Proofs.Ytegpgcdhmkcopaa
open Go.RowKit
set_option linter.unusedSimpArgs false

set_option maxRecDepth 10000 in
set_option maxHeartbeats 2000000 in
theorem wnAwake_any (w : World) : Calls Try.prog 10 #[] w fun e w' => e = .returned (.bool true) ∧ Below w.heap.size w w' := by
  go_enter Try.func10, Try.ntmps10
  go_wp2_with fail
  have ht : tickV ⟨5, 0, 9⟩ 10 = (⟨0, 0, 0⟩, true) := tickV_yes (.inr (by decide))
  refine (wTick_any ⟨5, 0, 9⟩ 10 w (by unfold Wn.rng i64P; simp only; omega) (by unfold i64P; omega)).mono ?_
  rintro e w1 ⟨he, hb⟩
  rw [ht] at he
  simp only [Wn.cells] at he
  subst he
  obtain ⟨W, hW⟩ : ∃ W, W = w1.alloc (.cells #[.int .i64 0, .int .i64 0, .int .i64 0] 23) := ⟨_, rfl⟩
  have HB := Box.mk (show Below w.heap.size w W by rw [hW]; exact below_twoF hb _)
  have HV := Box.mk (show VarA W w1.heap.size #[.int .i64 0, .int .i64 0, .int .i64 0] 23 by rw [hW]; exact VarA.new _ _ _)
  clear hb ht
  go_upto_region 2 with fail
  change Code.wp _ _ _ _ (w1.alloc (.cells #[.int .i64 0, .int .i64 0, .int .i64 0] 23))
  rw [← hW]
  clear hW
  have c0 := HV.out.cell (i := 0) (v := .int .i64 0) rfl
  have c1 := HV.out.cell (i := 1) (v := .int .i64 0) rfl
  have c2 := HV.out.cell (i := 2) (v := .int .i64 0) rfl
  go_wp2_with fail
  have hs : smpV ⟨0, 0, 0⟩ true = ⟨1, 1, 0⟩ := rfl
  refine (wCount_any ⟨0, 0, 0⟩ true W (by unfold Wn.rng i64P; simp only; omega)).mono ?_
  rintro e w2 ⟨he, hb⟩
  rw [hs] at he
  simp only [Wn.cells] at he
  subst he
  have HB2 := Box.mk (below_trans HB.out hb)
  clear hb hs
  go_wp2_with fail
  go_ret
  exact ⟨rfl, HB2.out⟩

set_option maxRecDepth 10000 in
set_option maxHeartbeats 4000000 in
theorem windowTick_any (rv : Wn) (len : Int) (raw : Bool) (w : World) (hr : rv.rng) (hl : i64P len) :
    Calls Try.prog 3 #[.agg rv.cells, .int .i64 len, .bool raw] w fun e w' => e = .returned (.bool true) ∧ Below w.heap.size w w' := by
  obtain ⟨tot, err, age⟩ := rv
  obtain ⟨W, hW⟩ : ∃ W, W = w.alloc (.cells #[.int .i64 tot, .int .i64 err, .int .i64 age] 23) := ⟨_, rfl⟩
  have HB := Box.mk (show Below w.heap.size w W by rw [hW]; exact below_oneF w _)
  have HV := Box.mk (show VarA W w.heap.size #[.int .i64 tot, .int .i64 err, .int .i64 age] 23 by rw [hW]; exact VarA.new _ _ _)
  have HI := Box.mk (And.intro hr hl)
  clear hr hl
  unfold Wn.cells
  simp only
  go_enter Try.func3, Try.ntmps3
  go_upto_region 1 with fail
  change Code.wp _ _ _ _ (w.alloc (.cells #[.int .i64 tot, .int .i64 err, .int .i64 age] 23))
  rw [← hW]
  clear hW
  go_upto_if 12 with fail
  go_cut [1] (fun s wx => ∃ (z n : Int), s = .int .i64 n ∧ Box (VarA wx w.heap.size #[.int .i64 tot, .int .i64 err, .int .i64 z] 23 ∧ Wn.rng ⟨tot, err, z⟩ ∧ i64P n ∧ Below w.heap.size w wx))
  case first =>
    cases raw
    · obtain ⟨k1, hk1, hw1⟩ := withI_range age 12 (by decide) (by decide)
      obtain ⟨k2, hk2, hw2⟩ := withI_range len 12 (by decide) (by decide)
      have HW1 := Box.mk hw1
      have HW2 := Box.mk hw2
      have c2 := HV.out.cell (i := 2) (v := .int .i64 age) rfl
      have hf := HV.out.frozen (i := 2)
      clear hw1 hw2
      go_wp2_with fail
      refine (withinF age 12 _ (by decide) (by decide)).mono ?_
      rintro e w2 ⟨he, rfl⟩
      rw [HW1.out] at he
      subst he
      go_wp2_with fail
      refine (withinF len 12 _ (by decide) (by decide)).mono ?_
      rintro e w3 ⟨he, rfl⟩
      rw [HW2.out] at he
      subst he
      have HV3 := Box.mk (show VarA (w3.setCell ⟨w.heap.size, 2, none⟩ (.int .i64 k1)) w.heap.size #[.int .i64 tot, .int .i64 err, .int .i64 k1] 23 from HV.out.set)
      have HB3 := Box.mk (show Below w.heap.size w (w3.setCell ⟨w.heap.size, 2, none⟩ (.int .i64 k1)) from HB.out.setCell (Nat.le_refl _) _)
      go_wp2_with fail
      go_meet
      exact ⟨k1, k2, rfl, ⟨HV3.out, ⟨HI.out.1.1, HI.out.1.2.1, by unfold i64P; simp only; omega⟩, by unfold i64P; omega, HB3.out⟩⟩
    · go_wp2_with fail
      go_meet
      exact ⟨age, len, rfl, ⟨HV.out, HI.out.1, HI.out.2, HB.out⟩⟩
  case rest =>
    obtain ⟨z, n, rfl, HC⟩ := hcut
    clear HB HV HI
    have c0 := HC.out.1.cell (i := 0) (v := .int .i64 tot) rfl
    have c1 := HC.out.1.cell (i := 1) (v := .int .i64 err) rfl
    have c2 := HC.out.1.cell (i := 2) (v := .int .i64 z) rfl
    obtain ⟨s, hs⟩ : ∃ s, tickV ⟨tot, err, z⟩ n = s := ⟨_, rfl⟩
    have HS := Box.mk hs
    clear hs
    obtain ⟨⟨t2, e2, a2⟩, b⟩ := s
    go_wp2_with fail
    refine (wTick_any ⟨tot, err, z⟩ n wc HC.out.2.1 HC.out.2.2.1).mono ?_
    rintro e w1 ⟨he, hb⟩
    rw [HS.out] at he
    simp only [Wn.cells] at he
    subst he
    obtain ⟨W1, hW1⟩ : ∃ W1, W1 = w1.alloc (.cells #[.int .i64 t2, .int .i64 e2, .int .i64 a2] 23) := ⟨_, rfl⟩
    have HB1 := Box.mk (show Below w.heap.size w W1 by rw [hW1]; exact below_twoF (below_trans HC.out.2.2.2 hb) _)
    have HV1 := Box.mk (show VarA W1 w.heap.size #[.int .i64 tot, .int .i64 err, .int .i64 z] 23 by rw [hW1]; exact (HC.out.1.keep hb).below _)
    have HA1 := Box.mk (show VarA W1 w1.heap.size #[.int .i64 t2, .int .i64 e2, .int .i64 a2] 23 by rw [hW1]; exact VarA.new _ _ _)
    have HR := Box.mk (And.intro HC.out.2.1 HC.out.2.2.1)
    clear hb HC c0 c1 c2
    go_upto_region 4 with fail
    change Code.wp _ _ _ _ (w1.alloc (.cells #[.int .i64 t2, .int .i64 e2, .int .i64 a2] 23))
    rw [← hW1]
    clear hW1
    have c0 := HV1.out.cell (i := 0) (v := .int .i64 tot) rfl
    have c1 := HV1.out.cell (i := 1) (v := .int .i64 err) rfl
    have c2 := HV1.out.cell (i := 2) (v := .int .i64 z) rfl
    generalize w1.heap.size = ga at *
    go_wp2_with fail
    refine (refTickWindow_any ⟨tot, err, z⟩ n W1 HR.out.1 HR.out.2.2).mono ?_
    rintro e w2 ⟨he, hb⟩
    rw [HS.out] at he
    simp only [Wn.cells] at he
    subst he
    obtain ⟨W2, hW2⟩ : ∃ W2, W2 = w2.alloc (.cells #[.int .i64 t2, .int .i64 e2, .int .i64 a2] 23) := ⟨_, rfl⟩
    have HB2 := Box.mk (show Below w.heap.size w W2 by rw [hW2]; exact below_twoF (below_trans HB1.out hb) _)
    have HA2 := Box.mk (show VarA W2 ga #[.int .i64 t2, .int .i64 e2, .int .i64 a2] 23 by rw [hW2]; exact (HA1.out.keep hb).below _)
    have HC2 := Box.mk (show VarA W2 w2.heap.size #[.int .i64 t2, .int .i64 e2, .int .i64 a2] 23 by rw [hW2]; exact VarA.new _ _ _)
    clear hb c0 c1 c2 HV1 HA1 HB1
    go_upto_region 5 with fail
    change Code.wp _ _ _ _ (w2.alloc (.cells #[.int .i64 t2, .int .i64 e2, .int .i64 a2] 23))
    rw [← hW2]
    clear hW2
    have c0 := HA2.out.cell (i := 0) (v := .int .i64 t2) rfl
    have c1 := HA2.out.cell (i := 1) (v := .int .i64 e2) rfl
    have c2 := HA2.out.cell (i := 2) (v := .int .i64 a2) rfl
    have d0 := HC2.out.cell (i := 0) (v := .int .i64 t2) rfl
    have d1 := HC2.out.cell (i := 1) (v := .int .i64 e2) rfl
    have d2 := HC2.out.cell (i := 2) (v := .int .i64 a2) rfl
    generalize w2.heap.size = gb at *
    cases b
    all_goals
      go_wp2_with fail
      refine (wnAwake_any W2).mono ?_
      rintro e w3 ⟨rfl, hb⟩
      have HB3 := Box.mk (below_trans HB2.out hb)
      clear hb
      go_wp2_with fail
      go_ret
      exact ⟨rfl, HB3.out⟩
end Go.Proofs.Ytegpgcdhmkcopaa
namespace Go.Proofs.Ytegpgcdhmkcopaa
open Go.ChangeShapes Go.WideShapes Go.ChangeAt Go.RowKit

theorem i64_ofF {x : Int} (h : (Lit.int .i64 x).wf = true) : -9223372036854775808 ≤ x ∧ x ≤ 9223372036854775807 := bounds_i64 h
end Go.Proofs.Ytegpgcdhmkcopaa
namespace Go.Proofs.Ytegpgcdhmkcopaa
open Go.RowKit
set_option linter.unusedSimpArgs false

/-- A row of cells that is new, read whole. -/
theorem VarA.newRow (w : World) (cs : Array Value) (t : TypeId) (fr : Nat × Nat) {i : Nat} {v : Value} (h : cs[i]? = some v) : (w.alloc (.cells cs t fr)).cell? ⟨w.heap.size, i, none⟩ = some v := by
  rw [cell_of_row _ _ _ _ _ _ (heap_alloc_new _ _)]; exact h

end Go.Proofs.Ytegpgcdhmkcopaa
namespace Go.Proofs.Ytegpgcdhmkcopaa
open Go.RowKit
set_option linter.unusedVariables false

def Pl.rng (p : Pl) : Prop := i64P p.ms ∧ i64P p.num ∧ i64P p.den ∧ i64P p.hold ∧ i64P p.win

section
variable {ops : Array Oper} {rest : List Oper} {o : Oper} {act : Act} {Q : Exit → Act → World → Prop}
end

end Go.Proofs.Ytegpgcdhmkcopaa
namespace Go.Proofs.Ytegpgcdhmkcopaa
open Go.ChangeShapes Go.WideShapes Go.ChangeAt Go.RowKit
set_option linter.unusedVariables false

set_option maxRecDepth 100000 in
theorem open_win3 {H : Type} {enc : TypeId × Value → H} {W : World} {r : Reach} {q0 : Nat} {v : Value} {d : DataW H} {ps : List MemPlace} {base : Nat} (hval : Value.okWide Try.prog W r q0 23 v)
    (h : DataW.Trod enc Try.prog W base (fun _ => true) true 23 v d ps) :
    ∃ (z0 : Int) (z1 : Int) (z2 : Int), v = .agg #[.int .i64 z0, .int .i64 z1, .int .i64 z2] ∧ (-9223372036854775808 ≤ z0 ∧ z0 ≤ 9223372036854775807) ∧ (-9223372036854775808 ≤ z1 ∧ z1 ≤ 9223372036854775807) ∧ (-9223372036854775808 ≤ z2 ∧ z2 ≤ 9223372036854775807) := by
  obtain ⟨cs, rfl, hsz⟩ := okWide_struct Try.underlying23 hval
  obtain ⟨fuel, hf⟩ := h
  have hsz2 : cs.size = 3 := by rw [hsz]; kernel_rfl
  obtain ⟨x0, x1, x2, rfl⟩ : ∃ x0 x1 x2, cs = #[x0, x1, x2] := by
    match cs, hsz2 with
    | ⟨[x0, x1, x2]⟩, _ => exact ⟨x0, x1, x2, rfl⟩
  obtain ⟨ys, n, _, hdp, _, hlen, hfs⟩ := DataW.trod_struct Try.underlying23 hf
  obtain ⟨y0, y1, y2, rfl⟩ : ∃ y0 y1 y2, ys = [y0, y1, y2] := by
    match ys, hlen with
    | [y0, y1, y2], _ => exact ⟨y0, y1, y2, rfl⟩
  have h0 : DataW.trod enc Try.prog W base (fun _ => true) true n 3 [x0] = some y0 := by
    have e : ((Value.agg #[x0, x1, x2]).cells.toList.drop 0).take (Try.prog.cellsOf 3) = [x0] := by rw [show Try.prog.cellsOf 3 = 1 by kernel_rfl]; rfl
    rw [← e]; exact hfs 0 _ rfl
  have h1 : DataW.trod enc Try.prog W base (fun _ => true) true n 3 [x1] = some y1 := by
    have e : ((Value.agg #[x0, x1, x2]).cells.toList.drop 1).take (Try.prog.cellsOf 3) = [x1] := by rw [show Try.prog.cellsOf 3 = 1 by kernel_rfl]; rfl
    rw [← e]; exact hfs 1 _ rfl
  have h2 : DataW.trod enc Try.prog W base (fun _ => true) true n 3 [x2] = some y2 := by
    have e : ((Value.agg #[x0, x1, x2]).cells.toList.drop 2).take (Try.prog.cellsOf 3) = [x2] := by rw [show Try.prog.cellsOf 3 = 1 by kernel_rfl]; rfl
    rw [← e]; exact hfs 2 _ rfl
  have hd : d = .agg [y0.1, y1.1, y2.1] := by have := congrArg Prod.fst hdp; simpa using this
  obtain ⟨z0, ez0, fz0, wz0⟩ := DataW.trod_int Try.underlying3 h0
  injection ez0 with ez0
  subst ez0
  obtain ⟨z1, ez1, fz1, wz1⟩ := DataW.trod_int Try.underlying3 h1
  injection ez1 with ez1
  subst ez1
  obtain ⟨z2, ez2, fz2, wz2⟩ := DataW.trod_int Try.underlying3 h2
  injection ez2 with ez2
  subst ez2
  subst hd
  subst fz0 fz1 fz2
  exact ⟨z0, z1, z2, rfl, i64_ofF wz0, i64_ofF wz1, i64_ofF wz2⟩
theorem open_window {H : Type} {enc : TypeId × Value → H} {W : World} {r : Reach} {q0 : Nat} {v : Value} {d : DataW H} {ps : List MemPlace} {base : Nat} (hval : Value.okWide Try.prog W r q0 23 v)
    (h : DataW.Trod enc Try.prog W base (fun _ => true) true 23 v d ps) : ∃ p : Wn, v = .agg p.cells ∧ p.rng := by
  obtain ⟨z0, z1, z2, rfl, h0, h1, h2⟩ := open_win3 hval h
  exact ⟨⟨z0, z1, z2⟩, rfl, h0, h1, h2⟩
end Go.Proofs.Ytegpgcdhmkcopaa
namespace Go.Proofs.Ytegpgcdhmkcopaa
open Go.RowKit

section
variable {Q : Exit → Act → World → Prop} {a : Act} {w : World} {o : Oper} {s : Spec}
theorem loc_load_int {x : Operand} (ho : o.op = .load 3 x) {p : Addr} (hx : a.eval x = .pointer (some p)) {v : Value} (hc : w.cell? p = some v) (hs : s.p v w) :
    o.wp Try.prog a w (fun a' w' => ∃ v, a' = a.put o.dst v ∧ Below w.heap.size w w' ∧ s.p v w') Q :=
  loc_load ho (v := v) (by
    rw [hx]
    simp [Instr.loadAt, Instr.sureAddr, loadVar, hc]) hs
end
end Go.Proofs.Ytegpgcdhmkcopaa
namespace Go.Proofs.Ytegpgcdhmkcopaa
open Go.RowKit
set_option linter.unusedSimpArgs false

theorem tick_zero {L r : Nat} (hr : r < L) : tickV ⟨0, 0, (r : Int)⟩ (L : Int) = if r + 1 = L then (⟨0, 0, 0⟩, true) else (⟨0, 0, ((r + 1 : Nat) : Int)⟩, false) := by
  have hm : max0 (r : Int) = r := by unfold max0; split <;> omega
  by_cases h : r + 1 = L
  · rw [if_pos h]
    exact tickV_yes (.inr (by rw [hm]; omega))
  · rw [if_neg h, tickV_no (by rw [hm]; omega), hm]
    simp
section
variable {Q : Exit → Act → World → Prop} {act : Act} {w : World} {o : Oper} {s : Spec}
theorem loc_quoN {x y : Operand} {t : TypeId} (ho : o.op = .binOp .quo 3 x y t) {n L q : Nat} (hx : act.eval x = .int .i64 n) (hy : act.eval y = .int .i64 L) (hL : 0 < L) (hn : n ≤ 1000000) (hq : n / L = q) (hs : s.p (.int .i64 q) w) :
    o.wp Try.prog act w (fun a' w' => ∃ v, a' = act.put o.dst v ∧ Below w.heap.size w w' ∧ s.p v w') Q :=
  loc_run (v := .int .i64 q) (by
    have e : (n : Int).tdiv (L : Int) = (q : Int) := by rw [Int.tdiv_eq_ediv_of_nonneg (by omega), ← hq]; rfl
    have e2 : IntKind.i64.wrap (q : Int) = q := by
      have : q ≤ n := by rw [← hq]; exact Nat.div_le_self _ _
      simp only [IntKind.wrap, IntKind.bits, IntKind.signed]; simp; omega
    have hz : ¬ (L : Int) = 0 := by omega
    unfold execOp
    simp [ho, hx, hy, eqGuard, binOp, Op.intDiv, e, e2, hz, show ¬ L = 0 by omega]) (Below.refl _ _) hs
theorem loc_remN {x y : Operand} {t : TypeId} (ho : o.op = .binOp .rem 3 x y t) {n L q : Nat} (hx : act.eval x = .int .i64 n) (hy : act.eval y = .int .i64 L) (hL : 0 < L) (hn : n ≤ 1000000) (hq : n % L = q) (hs : s.p (.int .i64 q) w) :
    o.wp Try.prog act w (fun a' w' => ∃ v, a' = act.put o.dst v ∧ Below w.heap.size w w' ∧ s.p v w') Q :=
  loc_run (v := .int .i64 q) (by
    have e : (n : Int).tmod (L : Int) = (q : Int) := by rw [Int.tmod_eq_emod_of_nonneg (by omega), ← hq]; rfl
    have e2 : IntKind.i64.wrap (q : Int) = q := by
      have : q ≤ n := by rw [← hq]; exact Nat.mod_le _ _
      simp only [IntKind.wrap, IntKind.bits, IntKind.signed]; simp; omega
    have hz : ¬ (L : Int) = 0 := by omega
    unfold execOp
    simp [ho, hx, hy, eqGuard, binOp, Op.intDiv, e, e2, hz, show ¬ L = 0 by omega]) (Below.refl _ _) hs
theorem loc_fieldW {x : Operand} {i : Nat} (ho : o.op = .fieldAddr 23 x i) {g : Nat} (hx : act.eval x = .pointer (some ⟨g, 0, none⟩)) (hi : i < 3) (hs : s.p (.pointer (some ⟨g, i, none⟩)) w) :
    o.wp Try.prog act w (fun a' w' => ∃ v, a' = act.put o.dst v ∧ Below w.heap.size w w' ∧ s.p v w') Q :=
  loc_field_G ho hx (by
    match i, hi with
    | 0, _ => simp [Instr.fieldAt, run_underlying Try.underlying23, Instr.sureAddr, fieldPlace, Addr.add]
    | 1, _ => simp [Instr.fieldAt, run_underlying Try.underlying23, Instr.sureAddr, fieldPlace, Addr.add]
    | 2, _ => simp [Instr.fieldAt, run_underlying Try.underlying23, Instr.sureAddr, fieldPlace, Addr.add]) hs
end
theorem wnAwake_v (w : World) : Calls Try.prog 10 #[] w fun e w' => ∃ v', e = .returned v' ∧ Below w.heap.size w w' ∧ v' = .bool true := by
  refine (wnAwake_any w).mono ?_
  rintro e w' ⟨rfl, hb⟩
  exact ⟨_, rfl, hb, rfl⟩
theorem div_next {L q r : Nat} (h : r + 1 = L) : q * L + r + 1 = (q + 1) * L := by rw [Nat.add_mul]; omega
theorem div_end {n L q r : Nat} (h : n = q * L + r) (hr : r < L) : n / L = q ∧ n % L = r := by
  subst h
  constructor
  · rw [Nat.add_comm, Nat.add_mul_div_right _ _ (by omega), Nat.div_eq_of_lt hr]; omega
  · rw [Nat.add_comm, Nat.add_mul_mod_self_right, Nat.mod_eq_of_lt hr]

set_option maxRecDepth 100000 in
set_option maxHeartbeats 4000000 in
theorem windowCloses_any (x y : Int) (w : World) :
    Calls Try.prog 6 #[.int .i64 x, .int .i64 y] w fun e w' => e = .returned (.bool true) ∧ Below w.heap.size w w' := by
  obtain ⟨l0, hl0, hw1⟩ := withI_range x 20 (by decide) (by decide)
  obtain ⟨n, hn, hw2⟩ := withI_range y 200 (by decide) (by decide)
  have HW1 := Box.mk hw1
  have HW2 := Box.mk hw2
  obtain ⟨L, hL⟩ : ∃ L : Nat, l0 + 1 = L := ⟨_, rfl⟩
  have HLE := Box.mk (show (1 : Int) + (l0 : Int) = (L : Int) by omega)
  have hL1 : 1 ≤ L ∧ L ≤ 20 := by omega
  clear hw1 hw2 hL hl0
  go_enter Try.func6, Try.ntmps6
  go_wp2_with fail
  refine (withinF x 20 _ (by decide) (by decide)).mono ?_
  rintro e w2 ⟨he, rfl⟩
  rw [HW1.out] at he
  subst he
  have hLE := HLE.out
  go_wp2_with fail
  refine (withinF y 200 _ (by decide) (by decide)).mono ?_
  rintro e w3 ⟨he, rfl⟩
  rw [HW2.out] at he
  subst he
  obtain ⟨W, hW⟩ : ∃ W, W = w3.alloc (.cells #[.int .i64 0, .int .i64 0, .int .i64 0] 23) := ⟨_, rfl⟩
  have HB := Box.mk (show Below w3.heap.size w3 W by rw [hW]; exact below_oneF w3 _)
  have HV := Box.mk (show VarA W w3.heap.size #[.int .i64 0, .int .i64 0, .int .i64 0] 23 by rw [hW]; exact VarA.new _ _ _)
  go_upto_region 3 with fail
  change Code.wp _ _ _ _ (w3.alloc (.cells #[.int .i64 0, .int .i64 0, .int .i64 0] 23))
  rw [← hW]
  clear hW hLE HLE HW1 HW2
  generalize hgp : w3.heap.size = gp at *
  have HGP := Box.mk hgp
  clear hgp
  go_wp2_with fail
  go_loopw [6, 7] (fun cv iv wr => ∃ i q r : Nat, i ≤ n ∧ q ≤ i ∧ r < L ∧ cv = .int .i64 q ∧ iv = .int .i64 i ∧ Box (i = q * L + r ∧ VarA wr gp #[.int .i64 0, .int .i64 0, .int .i64 r] 23 ∧ Below gp w3 wr)) (fun _ iv _ => n - (intOf iv).toNat)
  case atStart => exact ⟨0, 0, 0, Nat.zero_le _, Nat.le_refl _, by omega, rfl, rfl, ⟨by simp, HV.out, HB.out⟩⟩
  case round =>
    clear HB HV
    obtain ⟨i, q, r, hi, hq, hr, rfl, rfl, HM⟩ := hrel
    by_cases hlt : i < n
    · have c0 := HM.out.2.1.cell (i := 0) (v := .int .i64 0) rfl
      have c1 := HM.out.2.1.cell (i := 1) (v := .int .i64 0) rfl
      have c2 := HM.out.2.1.cell (i := 2) (v := .int .i64 r) rfl
      have HT := Box.mk (tick_zero hr)
      go_wp2_with fail
      refine (wTick_any ⟨0, 0, (r : Int)⟩ L wr (by unfold Wn.rng i64P; simp only; omega) (by unfold i64P; omega)).mono ?_
      rintro e w5 ⟨he, hb⟩
      have HV5 := Box.mk (HM.out.2.1.keep hb)
      have hgl : gp < wr.heap.size := HM.out.2.1.lt
      have HB5 := Box.mk (show Below gp w3 w5 from HM.out.2.2.trans (hb.mono (by omega)))
      have HE := Box.mk HM.out.1
      rw [HT.out] at he
      clear hb HM c0 c1 c2 HT
      by_cases hrL : r + 1 = L
      · have HN := Box.mk (show i + 1 = (q + 1) * L + 0 by rw [HE.out, div_next hrL]; rfl)
        rw [if_pos hrL] at he
        simp only [Wn.cells] at he
        subst he
        have HV6 := Box.mk (show VarA (w5.setRow gp #[.int .i64 0, .int .i64 0, .int .i64 0]) gp #[.int .i64 0, .int .i64 0, .int .i64 ((0 : Nat) : Int)] 23 from setRow_heap _ _ _ _ _ _ HV5.out)
        have HB6 := Box.mk (show Below gp w3 (w5.setRow gp #[.int .i64 0, .int .i64 0, .int .i64 0]) from below_setRow HB5.out (Nat.le_refl _) _)
        clear hrL HE
        go_wp2_with (refine wpList_store_row rfl 23 _ _ rfl gp #[.int .i64 0, .int .i64 0, .int .i64 0] rfl rfl 23 _ HV5.out sizeWn rfl (oneWn ..) ?_)
        go_roundw
        case rel => exact ⟨i + 1, q + 1, 0, by omega, by omega, by omega, by go_num, by go_num, ⟨HN.out, HV6.out, HB6.out⟩⟩
        case measure => simp [intOf]; omega
      · have HN := Box.mk (show i + 1 = q * L + (r + 1) by rw [HE.out]; omega)
        have hr2 : r + 1 < L := by omega
        rw [if_neg hrL] at he
        simp only [Wn.cells] at he
        subst he
        have HV6 := Box.mk (show VarA (w5.setRow gp #[.int .i64 0, .int .i64 0, .int .i64 ((r + 1 : Nat) : Int)]) gp #[.int .i64 0, .int .i64 0, .int .i64 ((r + 1 : Nat) : Int)] 23 from setRow_heap _ _ _ _ _ _ HV5.out)
        have HB6 := Box.mk (show Below gp w3 (w5.setRow gp #[.int .i64 0, .int .i64 0, .int .i64 ((r + 1 : Nat) : Int)]) from below_setRow HB5.out (Nat.le_refl _) _)
        clear hrL HE
        go_wp2_with (refine wpList_store_row rfl 23 _ _ rfl gp #[.int .i64 0, .int .i64 0, .int .i64 ((r + 1 : Nat) : Int)] rfl rfl 23 _ HV5.out sizeWn rfl (oneWn ..) ?_)
        go_roundw
        case rel => exact ⟨i + 1, q, r + 1, by omega, by omega, by omega, rfl, by go_num, ⟨HN.out, HV6.out, HB6.out⟩⟩
        case measure => simp [intOf]; omega
    · have HE := Box.mk (div_end (show n = q * L + r by rw [← HM.out.1]; omega) hr)
      have HEX := Box.mk (show i = n by omega)
      have hL0 : 0 < L := by omega
      go_upto_region 11 with fail
      rename_i K hK
      refine wp_region_local (S := [.val (.int .i64 q), .val (.int .i64 n), .val (.int .i64 L), .val (.int .i64 q), .val (.bool true), .val (.bool true), .val (.pointer (some ⟨gp, 2, none⟩)), .val (.int .i64 r), .val (.int .i64 n), .val (.int .i64 L), .val (.int .i64 r), .val (.bool true), .val (.bool true), .val (.bool true), .val (.bool true), .val (.bool true), .val (.bool true)])
        (by kernel_rfl) (by kernel_rfl) (by kernel_rfl) ?_ ?_
      · refine ⟨?_, ?_, ?_, ?_, ?_, ?_, ?_, ?_, ?_, ?_, ?_, ?_, ?_, ?_, ?_, ?_, ?_, trivial⟩ <;> intro a w2 hb hf hd
        · exact ⟨wanted_none rfl, loc_move rfl (hf.base 6 rfl)⟩
        · exact ⟨wanted_none rfl, loc_move rfl (hf.base 1 rfl)⟩
        · exact ⟨wanted_none rfl, loc_move rfl (hf.base 0 rfl)⟩
        · exact ⟨wanted_none rfl, loc_quoN rfl (hd 1 rfl) (hd 2 rfl) hL0 (by omega) HE.out.1 rfl⟩
        · exact ⟨wanted_none rfl, loc_eql_int rfl (hd 0 rfl) (hd 3 rfl) rfl⟩
        · exact ⟨wanted_none rfl, loc_move rfl (hd 4 rfl)⟩
        · exact ⟨wanted_true rfl rfl (hd 5 rfl), loc_fieldW rfl (hf.base 5 rfl) (by decide) rfl⟩
        · exact ⟨wanted_true rfl rfl (hd 5 rfl), loc_load_int rfl (hd 6 rfl) ((HM.out.2.1.keep hb).cell rfl) rfl⟩
        · exact ⟨wanted_true rfl rfl (hd 5 rfl), loc_move rfl (hf.base 1 rfl)⟩
        · exact ⟨wanted_true rfl rfl (hd 5 rfl), loc_move rfl (hf.base 0 rfl)⟩
        · exact ⟨wanted_true rfl rfl (hd 5 rfl), loc_remN rfl (hd 8 rfl) (hd 9 rfl) hL0 (by omega) HE.out.2 rfl⟩
        · exact ⟨wanted_true rfl rfl (hd 5 rfl), loc_eql_int rfl (hd 7 rfl) (hd 10 rfl) rfl⟩
        · exact ⟨wanted_none rfl, loc_pick rfl (hd 5 rfl) (hd 11 rfl)⟩
        · exact ⟨wanted_none rfl, loc_move rfl (hd 12 rfl)⟩
        · exact ⟨wanted_true rfl rfl (hd 13 rfl), loc_call rfl (by kernel_rfl) (wnAwake_v w2)⟩
        · exact ⟨wanted_none rfl, loc_pick rfl (hd 13 rfl) (hd 14 rfl)⟩
        · exact ⟨wanted_none rfl, loc_assign rfl (hd 15 rfl)⟩
      · intro a w2 hb hf hh
        refine hK a w2 ?_
        go_wp2_with fail
        have hgl : gp < wr.heap.size := HM.out.2.1.lt
        exact local_ret rfl hf.defers (show a.eval (.tmp 4) = .bool true from hh 16 (by decide)) ⟨rfl, by have := HM.out.2.2.trans (hb.mono (by omega)); rw [HGP.out]; exact this⟩
end Go.Proofs.Ytegpgcdhmkcopaa
namespace Go.Proofs.Ytegpgcdhmkcopaa
open Go.RowKit

/-- A new row, of the call's own. -/
def RowNewV (B : Nat) (cs : Array Value) (t : TypeId) (w : World) (v : Value) : Prop := ∃ g, v = .pointer (some ⟨g, 0, none⟩) ∧ B ≤ g ∧ VarA w g cs t
def Spec.rowNew (B : Nat) (cs : Array Value) (t : TypeId) : Spec := ⟨fun v w => RowNewV B cs t w v, fun _ _ _ h hb => by
  obtain ⟨g, h1, h2, h3⟩ := h
  exact ⟨g, h1, h2, h3.keep hb⟩⟩
section
variable {P : Program} {Q : Exit → Act → World → Prop} {act : Act} {w : World} {o : Oper} {s : Spec}
theorem loc_alloc_G {ty : TypeId} {cs : Array Value} (ho : o.op = .alloc ty) {B : Nat} (hB : B ≤ w.heap.size) (hz : (P.info? ty).bind (·.zero) = some (.agg cs)) (hs : ∀ v w', RowNewV B cs ty w' v → s.p v w') :
    o.wp P act w (fun a' w' => ∃ v, a' = act.put o.dst v ∧ Below w.heap.size w w' ∧ s.p v w') Q := by
  refine loc_run (v := .pointer (some ⟨w.heap.size, 0, none⟩)) (w' := w.alloc (.cells cs ty)) ?_ (below_oneF _ _) (hs _ _ ⟨_, rfl, hB, heap_alloc_new _ _⟩)
  cases hq : P.info? ty with
  | none => rw [hq] at hz; cases hz
  | some i =>
    rw [hq] at hz
    simp only [Option.bind_some] at hz
    unfold execOp
    simp [ho, Instr.alloc, zeroValue, typeInfo, hq, hz, newRow, newVar, Value.cells]
theorem wp_store_intG {K : Act → World → Prop} {ty : TypeId} {x y : Operand} (ho : o.op = .store ty x y) {p : Addr} {z : Int} {u : Value} (hx : act.eval x = .pointer (some p)) (hy : act.eval y = .int .i64 z) (hi : (P.info? ty).map (·.size) = some 1)
    (hc : w.cell? p = some u) (hf : w.frozen? p = false) (h : K (act.put o.dst undef) (w.setCell p (.int .i64 z))) : o.wp P act w K Q := by
  have hz : (sizeOf ty).run P w = .ok 1 w := by
    cases hq : P.info? ty with
    | none => rw [hq] at hi; cases hi
    | some i => rw [hq] at hi; simp at hi; simp [sizeOf, typeInfo, hq, hi]
  unfold Oper.wp execOp
  simp_all [Instr.storeAt, Instr.sureAddr, storeVar, storeCells, Value.cells, go_sem]
end
end Go.Proofs.Ytegpgcdhmkcopaa
namespace Go.Proofs.Ytegpgcdhmkcopaa
open Go.RowKit
set_option linter.unusedSimpArgs false

/-- The slice at a holds the truth values l. -/
def BoolsIn (w : World) (a : Option Addr) (l : List Bool) : Prop := ∀ j (hj : j < l.length), ∃ x, a = some x ∧ w.cell? (x.add j) = some (.bool l[j])
theorem BoolsIn.keep {w w' : World} {a : Option Addr} {l : List Bool} (h : BoolsIn w a l) (hb : Below w.heap.size w w') : BoolsIn w' a l := fun j hj => by
  obtain ⟨x, e, h1⟩ := h j hj
  exact ⟨x, e, below_cell hb h1⟩
theorem BoolsIn.take {w : World} {a : Option Addr} {l : List Bool} (h : BoolsIn w a l) (k : Nat) : BoolsIn w a (l.take k) := fun j hj => by
  have hj' : j < l.length := by rw [List.length_take] at hj; omega
  obtain ⟨x, e, h1⟩ := h j hj'
  exact ⟨x, e, by rw [List.getElem_take]; exact h1⟩
theorem cnt1_nn {n : Int} (h : 0 ≤ n) (h2 : n ≤ 1000000000) : cnt1 n = (if n = 1000000000 then 1000000000 else n + 1) := by
  rw [cnt1_eq, Int.max_eq_left h]
  by_cases e : n = 1000000000
  · rw [if_pos e]; omega
  · rw [if_neg e]; omega
theorem cnt0_nn {n : Int} (h : 0 ≤ n) (h2 : n ≤ 1000000000) : cnt0 n = n := by
  rw [cnt0_eq, Int.max_eq_left h]; omega
/-- What samples keep. -/
theorem smp_facts {v : Wn} (h : 0 ≤ v.err ∧ v.err ≤ v.tot ∧ v.tot ≤ 1000000000) (b : Bool) : (smpV v b).tot ≤ 1000000000 ∧ 0 ≤ (smpV v b).err ∧ (smpV v b).err ≤ (smpV v b).tot ∧ v.tot ≤ (smpV v b).tot ∧ v.err ≤ (smpV v b).err ∧ (smpV v b).age = v.age := by
  obtain ⟨t, e, g⟩ := v
  obtain ⟨h1, h2, h3⟩ := h
  simp only at h1 h2 h3
  show cnt1 t ≤ 1000000000 ∧ 0 ≤ (if b = true then cnt1 e else cnt0 e) ∧ (if b = true then cnt1 e else cnt0 e) ≤ cnt1 t ∧ t ≤ cnt1 t ∧ e ≤ (if b = true then cnt1 e else cnt0 e) ∧ g = g
  rw [cnt1_nn (by omega) h3, cnt1_nn h1 (by omega), cnt0_nn h1 (by omega)]
  obtain ⟨X, hX⟩ : ∃ X, (if t = 1000000000 then 1000000000 else t + 1) = X := ⟨_, rfl⟩
  obtain ⟨Y, hY⟩ : ∃ Y, (if e = 1000000000 then 1000000000 else e + 1) = Y := ⟨_, rfl⟩
  rw [hX, hY]
  have hx : (t = 1000000000 ∧ X = 1000000000) ∨ (t < 1000000000 ∧ X = t + 1) := by
    by_cases q : t = 1000000000
    · rw [if_pos q] at hX; exact .inl ⟨q, hX.symm⟩
    · rw [if_neg q] at hX; exact .inr ⟨by omega, hX.symm⟩
  have hy : (e = 1000000000 ∧ Y = 1000000000) ∨ (e < 1000000000 ∧ Y = e + 1) := by
    by_cases q : e = 1000000000
    · rw [if_pos q] at hY; exact .inl ⟨q, hY.symm⟩
    · rw [if_neg q] at hY; exact .inr ⟨by omega, hY.symm⟩
  clear hX hY
  cases b
  · simp only [Bool.false_eq_true, if_false]
    refine ⟨?_, ?_, ?_, ?_, ?_, trivial⟩ <;> omega
  · simp only [if_true]
    refine ⟨?_, ?_, ?_, ?_, ?_, trivial⟩ <;> omega

set_option maxRecDepth 100000 in
set_option maxHeartbeats 4000000 in
theorem windowNever_any (rv : Wn) (l : List Bool) (a : Option Addr) (c : Nat) (w : World) (hr : rv.rng) (hl : BoolsIn w a l) (hlen : l.length ≤ c) (hc : c ≤ maxLen) :
    Calls Try.prog 5 #[.agg rv.cells, .slice a l.length c] w fun e w' => e = .returned (.bool true) ∧ Below w.heap.size w w' := by
  obtain ⟨tot, err, age⟩ := rv
  obtain ⟨k, hk, hwk⟩ := withI_range tot 50 (by decide) (by decide)
  have HWK := Box.mk hwk
  unfold maxLen at hc
  obtain ⟨W, hW⟩ : ∃ W, W = w.alloc (.cells #[.int .i64 tot, .int .i64 err, .int .i64 age] 23) := ⟨_, rfl⟩
  have HB := Box.mk (show Below w.heap.size w W by rw [hW]; exact below_oneF w _)
  have HV := Box.mk (show VarA W w.heap.size #[.int .i64 tot, .int .i64 err, .int .i64 age] 23 by rw [hW]; exact VarA.new _ _ _)
  have HL := Box.mk hl
  have HAG := Box.mk hr.2.2
  clear hwk hl hr
  unfold Wn.cells
  simp only
  go_enter Try.func5, Try.ntmps5
  go_upto_region 1 with fail
  change Code.wp _ _ _ _ (w.alloc (.cells #[.int .i64 tot, .int .i64 err, .int .i64 age] 23))
  rw [← hW]
  clear hW
  obtain ⟨T, hT⟩ : ∃ T : Int, (1000000000 : Int) - (k : Int) = T := ⟨_, rfl⟩
  have hT1 : 999999950 ≤ T ∧ T ≤ 1000000000 := by omega
  obtain ⟨W2, hW2⟩ : ∃ W2, W2 = (W.setCell ⟨w.heap.size, 0, none⟩ (.int .i64 T)).setCell ⟨w.heap.size, 1, none⟩ (.int .i64 0) := ⟨_, rfl⟩
  have HVm := Box.mk (show VarA (W.setCell ⟨w.heap.size, 0, none⟩ (.int .i64 T)) w.heap.size #[.int .i64 T, .int .i64 err, .int .i64 age] 23 from HV.out.set)
  have HB2 := Box.mk (show Below w.heap.size w W2 by rw [hW2]; exact (HB.out.setCell (Nat.le_refl _) _).setCell (Nat.le_refl _) _)
  have HV2 := Box.mk (show VarA W2 w.heap.size #[.int .i64 T, .int .i64 0, .int .i64 age] 23 by rw [hW2]; exact HVm.out.set)
  have c0 := HV.out.cell (i := 0) (v := .int .i64 tot) rfl
  have hf0 := HV.out.frozen (i := 0)
  have c1 := HVm.out.cell (i := 1) (v := .int .i64 err) rfl
  have hf1 := HVm.out.frozen (i := 1)
  go_wp2_with fail
  refine (withinF tot 50 _ (by decide) (by decide)).mono ?_
  rintro e w3 ⟨he, rfl⟩
  rw [HWK.out] at he
  subst he
  go_upto_region 2 with fail
  change Code.wp _ _ _ _ ((w3.setCell ⟨w.heap.size, 0, none⟩ (.int .i64 T)).setCell ⟨w.heap.size, 1, none⟩ (.int .i64 0))
  rw [← hW2]
  clear hW2 c0 hf0 c1 hf1 HV HVm HB HWK hT
  go_upto_if 15 with fail
  go_cut [1] (fun v wx => wx = W2 ∧ ∃ l2 : List Bool, l2.length ≤ 100 ∧ v = .slice a l2.length c ∧ Box (BoolsIn w a l2))
  case first =>
    by_cases h100 : 100 < l.length
    · have hl2 : (l.take 100).length = 100 := by rw [List.length_take]; omega
      have HL2 := Box.mk hl2
      obtain ⟨x, rfl, _⟩ := HL.out 0 (by omega)
      clear hl2
      go_wp2_with fail
      go_meet
      exact ⟨rfl, l.take 100, by rw [HL2.out]; decide, by rw [HL2.out], ⟨HL.out.take 100⟩⟩
    · go_wp2_with fail
      go_meet
      exact ⟨rfl, l, by omega, rfl, HL⟩
  case rest =>
    obtain ⟨rfl, l2, hl2, rfl, HL2⟩ := hcut
    clear HL hlen
    generalize hgp : w.heap.size = gp at *
    have HGP := Box.mk hgp
    clear hgp
    go_wp2_with fail
    go_loopw [5] (fun iv wr => ∃ (i : Nat) (v : Wn), i ≤ l2.length ∧ iv = .int .i64 i ∧ Box (VarA wr gp #[.int .i64 v.tot, .int .i64 v.err, .int .i64 v.age] 23 ∧ Below gp w wr ∧ (0 ≤ v.err ∧ v.err ≤ v.tot ∧ v.tot ≤ 1000000000) ∧ i64P v.age)) (fun iv _ => l2.length - (intOf iv).toNat)
    case atStart => exact ⟨0, ⟨T, 0, age⟩, Nat.zero_le _, rfl, ⟨HV2.out, HB2.out, by simp only; omega, HAG.out⟩⟩
    case round =>
      clear HV2 HB2
      obtain ⟨i, v, hi, rfl, HI⟩ := hrel
      by_cases hlt : i < l2.length
      · obtain ⟨x, rfl, _⟩ := HL2.out i hlt
        have HEL := Box.mk (fun w' (hb : Below w.heap.size w w') => (HL2.out.keep hb) i hlt)
        have HSM := Box.mk (smp_facts HI.out.2.2.1 l2[i])
        generalize l2[i] = y at *
        have hgl : gp < wr.heap.size := HI.out.1.lt
        go_upto_region 7 with fail
        rename_i K hK
        refine wp_region_last (S := [some (.val (.agg v.cells)), some (.val (.slice (some x) l2.length c)), some (.val (.int .i64 i)), some (.val (.pointer (some (x.add (i * 1))))), some (.val (.bool y)), some (.val (.agg (smpV v y).cells)), some (.of (.rowNew wr.heap.size #[.int .i64 0, .int .i64 0, .int .i64 0] 23)), none]) 7
          (by kernel_rfl) (by kernel_rfl) (by kernel_rfl) (by kernel_rfl) rfl rfl rfl ?_ ?_
        · refine ⟨?_, ?_, ?_, ?_, ?_, ?_, ?_, trivial⟩ <;> intro a' w2 hb hf hd
          · exact ⟨wanted_none rfl, loc_load_rowG rfl (hf.base 2 rfl) (HI.out.1.keep hb).row Try.underlying23 rfl sizeWn rfl⟩
          · exact ⟨wanted_none rfl, loc_move rfl (hf.base 1 rfl)⟩
          · exact ⟨wanted_none rfl, loc_move rfl (hf.base 5 rfl)⟩
          · exact ⟨wanted_none rfl, loc_index_G 1 rfl (hd 1 rfl) (hd 2 rfl) hlt (by kernel_rfl) (by kernel_rfl) rfl⟩
          · refine ⟨wanted_none rfl, loc_load_cellG rfl (hd 3 rfl) ?_ (fun w => by rfl) rfl⟩
            obtain ⟨z, e1, e2⟩ := HEL.out w2 (below_trans (by rw [HGP.out]; exact HI.out.2.1) hb)
            obtain rfl := Option.some.inj e1
            rw [Nat.mul_one]; exact e2
          · refine ⟨wanted_none rfl, loc_call rfl (by kernel_rfl) ?_⟩
            show Calls _ _ #[a'.eval (.tmp 24), a'.eval (.tmp 28)] w2 _
            rw [show a'.eval (.tmp 24) = .agg v.cells from hd 0 rfl, show a'.eval (.tmp 28) = .bool y from hd 4 rfl]
            refine (wCount_any v y w2 ⟨by unfold i64P; have := HI.out.2.2.1; omega, by unfold i64P; have := HI.out.2.2.1; omega, HI.out.2.2.2⟩).mono ?_
            rintro e w3 ⟨rfl, h3⟩
            exact ⟨_, rfl, h3, rfl⟩
          · exact ⟨wanted_none rfl, loc_alloc_G rfl hb.size (by kernel_rfl) fun v w' h => h⟩
        · intro a' w2 hb hf hd
          refine ⟨wanted_none rfl, ?_⟩
          obtain ⟨q, e6, hqB, hq⟩ := hd 6 (by decide) (by decide)
          have e29 : a'.eval (.tmp 29) = .agg (smpV v y).cells := hd 5 (by decide) (by decide)
          have e6' : a'.eval (.tmp 6) = .pointer (some ⟨q, 0, none⟩) := e6
          generalize smpV v y = u at *
          obtain ⟨ut, ue, ua⟩ := u
          unfold Wn.cells at e29
          simp only at e29 HSM
          refine wp_store_row 23 _ _ rfl q #[.int .i64 ut, .int .i64 ue, .int .i64 ua] e6 e29 23 _ hq sizeWn rfl (oneWn ..) ?_
          have HB3 := Box.mk (show Below gp w (w2.setRow q #[.int .i64 ut, .int .i64 ue, .int .i64 ua]) from below_setRow (HI.out.2.1.trans (hb.mono (by omega))) (by omega) _)
          have HV3 := Box.mk (show VarA (w2.setRow q #[.int .i64 ut, .int .i64 ue, .int .i64 ua]) gp #[.int .i64 v.tot, .int .i64 v.err, .int .i64 v.age] 23 from (HI.out.1.keep hb).row_other (by omega))
          have HX3 := Box.mk (show VarA (w2.setRow q #[.int .i64 ut, .int .i64 ue, .int .i64 ua]) q #[.int .i64 ut, .int .i64 ue, .int .i64 ua] 23 from setRow_heap _ _ _ _ _ _ hq)
          have HAGE := Box.mk HI.out.2.2.2
          refine hK _ _ ?_
          rw [fr_putAll hf]
          simp only [putAll, e29, e6']
          clear hf hd hb HI HEL hK e29 e6 e6' hq
          generalize a'.eval (.tmp 24) = u24
          generalize a'.eval (.tmp 25) = u25
          generalize a'.eval (.tmp 26) = u26
          generalize a'.eval (.tmp 27) = u27
          generalize a'.eval (.tmp 28) = u28
          simp only [Act.put, List.setIfInBounds_toArray, List.set_cons_succ, List.set_cons_zero]
          generalize (w2.setRow q #[.int .i64 ut, .int .i64 ue, .int .i64 ua]) = w4 at *
          obtain ⟨vt, ve, va⟩ := v
          simp only at HV3 HSM HAGE ⊢
          obtain ⟨s1, s2, s3, s4, s5, s6⟩ := HSM.out
          clear HSM
          subst s6
          have c0 := HV3.out.cell (i := 0) (v := .int .i64 vt) rfl
          have c1 := HV3.out.cell (i := 1) (v := .int .i64 ve) rfl
          have c2 := HV3.out.cell (i := 2) (v := .int .i64 ua) rfl
          have x0 := HX3.out.cell (i := 0) (v := .int .i64 ut) rfl
          have x1 := HX3.out.cell (i := 1) (v := .int .i64 ue) rfl
          have x2 := HX3.out.cell (i := 2) (v := .int .i64 ua) rfl
          have HV6 := Box.mk (show VarA (w4.setRow gp #[.int .i64 ut, .int .i64 ue, .int .i64 ua]) gp #[.int .i64 ut, .int .i64 ue, .int .i64 ua] 23 from setRow_heap _ _ _ _ _ _ HV3.out)
          have HB6 := Box.mk (show Below gp w (w4.setRow gp #[.int .i64 ut, .int .i64 ue, .int .i64 ua]) from below_setRow HB3.out (Nat.le_refl _) _)
          go_wp2_with (refine wpList_store_row rfl 23 _ _ rfl gp #[.int .i64 ut, .int .i64 ue, .int .i64 ua] rfl rfl 23 _ HV3.out sizeWn rfl (oneWn ..) ?_)
          go_roundw
          case rel => exact ⟨i + 1, ⟨ut, ue, ua⟩, by omega, by go_num, ⟨HV6.out, HB6.out, ⟨s2, s3, s1⟩, HAGE.out⟩⟩
          case measure => simp [intOf]; omega
      · clear HL2
        go_wp2_with fail
        refine (wnAwake_any wr).mono ?_
        rintro e w5 ⟨rfl, hb5⟩
        have hgl : gp < wr.heap.size := HI.out.1.lt
        go_wp2_with fail
        go_ret
        exact ⟨rfl, by rw [HGP.out]; exact HI.out.2.1.trans (hb5.mono (by omega))⟩
end Go.Proofs.Ytegpgcdhmkcopaa
namespace Go.Proofs.Ytegpgcdhmkcopaa
open Go.RowKit
set_option linter.unusedSimpArgs false

/-- A slice of numbers, wherever it lies. -/
def Spec.intsX (l : List Int) : Spec := ⟨fun v w => ∃ a c, v = .slice a l.length c ∧ IsInts w a l c, fun _ _ _ h hb => by
  obtain ⟨a, c, h1, h2⟩ := h
  exact ⟨a, c, h1, h2.keepP hb⟩⟩
section
variable {Q : Exit → Act → World → Prop} {act : Act} {w : World} {o : Oper} {s : Spec}
theorem loc_build2i {x y : Operand} (ho : o.op = .buildSlice 40 2 #[(0, x), (1, y)]) {n m : Int} (hx : act.eval x = .int .i64 n) (hy : act.eval y = .int .i64 m) (hn : i64P n) (hm : i64P m) (hs : ∀ v w', (∃ a c, v = .slice a 2 c ∧ IsInts w' a [n, m] c) → s.p v w') :
    o.wp Try.prog act w (fun a' w' => ∃ v, a' = act.put o.dst v ∧ Below w.heap.size w w' ∧ s.p v w') Q := by
  obtain ⟨i0, hi, hz0, hz1, hz2⟩ := info_parts (show (Try.prog.info? 3).map (fun i => (i.zero, i.size, i.bytes)) = some (some (.int .i64 0), 1, 8) by kernel_rfl)
  have hrun := run_buildSlice (P := Try.prog) w 40 3 2 #[(0, .int .i64 n), (1, .int .i64 m)] #[.int .i64 n, .int .i64 m] i0 _ Try.underlying40 hi hz0 (by rw [hz1]; decide) (by rw [hz1]; decide) (by rw [hz1]; simp [Instr.fill, Value.cells, Array.range_succ, show Array.range 0 = #[] from rfl])
  refine loc_run (v := .slice (some ⟨w.heap.size, 0, none⟩) 2 2) (w' := w.alloc (.cells #[.int .i64 n, .int .i64 m] 3)) ?_ (below_oneF _ _) (hs _ _ ⟨_, _, rfl, isInts_two w n m hn hm _⟩)
  unfold execOp
  simp only [ho, List.map_toArray, List.map_cons, List.map_nil, hx, hy]
  rw [Sem.run_bind, hrun]; rfl
theorem loc_fieldWx {x : Operand} {i : Nat} (ho : o.op = .fieldAddr 23 x i) {p : Addr} (hx : act.eval x = .pointer (some p)) (hi : i < 3) (hs : s.p (.pointer (some (p.add i))) w) :
    o.wp Try.prog act w (fun a' w' => ∃ v, a' = act.put o.dst v ∧ Below w.heap.size w w' ∧ s.p v w') Q :=
  loc_field_G ho hx (by
    match i, hi with
    | 0, _ => simp [Instr.fieldAt, run_underlying Try.underlying23, Instr.sureAddr, fieldPlace]
    | 1, _ => simp [Instr.fieldAt, run_underlying Try.underlying23, Instr.sureAddr, fieldPlace]
    | 2, _ => simp [Instr.fieldAt, run_underlying Try.underlying23, Instr.sureAddr, fieldPlace]) hs
theorem refAdd_v (x y : Int) (v : Value) (w : World) (h : ∃ a c, v = .slice a 2 c ∧ IsInts w a [x, y] c) :
    Calls Try.prog 16 #[.int .i64 1000000000, v] w fun e w' => ∃ v', e = .returned v' ∧ Below w.heap.size w w' ∧ v' = .int .i64 (addMx x y) := by
  obtain ⟨a, c, rfl, hI⟩ := h
  refine (refAdd_any 1000000000 [x, y] a c w (by decide) (by decide) hI).mono ?_
  rintro e w' ⟨rfl, rfl⟩
  exact ⟨_, rfl, Below.refl _ _, rfl⟩
end

set_option maxRecDepth 100000 in
set_option maxHeartbeats 4000000 in
theorem refMerge_any (l : List Wn) (a : Option Addr) (c : Nat) (w : World) (hl : WinsIn w a l) (hlen : l.length ≤ 1000000) :
    Calls Try.prog 13 #[.slice a l.length c] w fun e w' => e = .returned (.agg (mergeV l).cells) ∧ Below w.heap.size w w' := by
  obtain ⟨R, hR⟩ : ∃ R, R = mergeV l := ⟨_, rfl⟩
  rw [← hR]
  have HR := Box.mk hR
  have HL := Box.mk hl
  clear hR hl
  obtain ⟨W, hW⟩ : ∃ W, W = (w.alloc (.cells #[.int .i64 0, .int .i64 0, .int .i64 0] 23)).alloc (.cells #[.int .i64 0, .int .i64 0, .int .i64 0] 23) := ⟨_, rfl⟩
  have HB := Box.mk (show Below w.heap.size w W by rw [hW]; exact below_twoF (below_oneF w _) _)
  have HU := Box.mk (show VarA W w.heap.size #[.int .i64 0, .int .i64 0, .int .i64 0] 23 by rw [hW]; exact (VarA.new _ _ _).below _)
  have HV := Box.mk (show VarA W (w.heap.size + 1) #[.int .i64 0, .int .i64 0, .int .i64 0] 23 by rw [hW]; have := VarA.new (w.alloc (.cells #[.int .i64 0, .int .i64 0, .int .i64 0] 23)) #[.int .i64 0, .int .i64 0, .int .i64 0] 23; rw [World.size_alloc] at this; exact this)
  go_enter Try.func13, Try.ntmps13
  go_upto_region 2 with fail
  change Code.wp _ _ _ _ ((w.alloc (.cells #[.int .i64 0, .int .i64 0, .int .i64 0] 23)).alloc (.cells #[.int .i64 0, .int .i64 0, .int .i64 0] 23))
  rw [← hW]
  clear hW
  generalize hgp : w.heap.size = gp at *
  have HGP := Box.mk hgp
  clear hgp
  go_wp2_with fail
  go_loopw [4] (fun iv wr => ∃ k : Nat, k ≤ l.length ∧ iv = .int .i64 k ∧ Box (VarA wr (gp + 1) #[.int .i64 (mergeV (l.take k)).tot, .int .i64 (mergeV (l.take k)).err, .int .i64 0] 23 ∧ VarA wr gp #[.int .i64 0, .int .i64 0, .int .i64 0] 23 ∧ Below gp w wr)) (fun iv _ => l.length - (intOf iv).toNat)
  case atStart => exact ⟨0, Nat.zero_le _, rfl, ⟨HV.out, HU.out, HB.out⟩⟩
  case round =>
    clear HV HU HB
    obtain ⟨k, hk, rfl, HI⟩ := hrel
    have hgl : gp + 1 < wr.heap.size := HI.out.1.lt
    by_cases hlt : k < l.length
    · obtain ⟨x, rfl, _⟩ := HL.out k hlt
      have HEL := Box.mk (fun w' (hb : Below w.heap.size w w') => (HL.out.keep hb) k hlt)
      have HST := Box.mk (mergeV_snoc l k hlt)
      have HINV := Box.mk (mergeV_inv l k hk)
      generalize l[k] = y at *
      generalize mergeV (l.take k) = r at *
      obtain ⟨rt, re, ra⟩ := r
      obtain ⟨yt, ye, ya⟩ := y
      simp only at HI HINV HEL
      have HN := Box.mk (show (mergeV (l.take (k + 1))).tot = addMx rt yt ∧ (mergeV (l.take (k + 1))).err = addMx re ye by rw [HST.out]; exact ⟨rfl, rfl⟩)
      clear HST
      have HE0 := Box.mk (show addMx rt yt = addMx rt yt from rfl)
      obtain ⟨nt, hnt⟩ : ∃ nt, addMx rt yt = nt := ⟨_, rfl⟩
      obtain ⟨ne, hne⟩ : ∃ ne, addMx re ye = ne := ⟨_, rfl⟩
      have HNT := Box.mk hnt
      have HNE := Box.mk hne
      rw [hnt, hne] at HN
      have HYR := Box.mk (show i64P yt ∧ i64P ye ∧ i64P ya by obtain ⟨_, _, _, _, _, h⟩ := HEL.out w (Below.refl _ _); exact h)
      clear hnt hne HE0
      go_upto_region 5 with fail
      rename_i K hK
      refine wp_region_last (S := [some (.val (.pointer (some ⟨gp + 1, 0, none⟩))), some (.val (.int .i64 rt)), some (.val (.slice (some x) l.length c)), some (.val (.int .i64 k)), some (.val (.pointer (some (x.add (k * 3))))), some (.val (.pointer (some ((x.add (k * 3)).add 0)))), some (.val (.int .i64 yt)), some (.of (.intsX [rt, yt])), some (.val (.int .i64 nt)), some (.val (.pointer (some ⟨gp + 1, 0, none⟩))), none]) 10
        (by kernel_rfl) (by kernel_rfl) (by kernel_rfl) (by kernel_rfl) rfl rfl rfl ?_ ?_
      · refine ⟨?_, ?_, ?_, ?_, ?_, ?_, ?_, ?_, ?_, ?_, trivial⟩ <;> intro a' w2 hb hf hd
        · exact ⟨wanted_none rfl, loc_fieldW rfl (hf.base 3 rfl) (by decide) rfl⟩
        · exact ⟨wanted_none rfl, loc_load_int rfl (hd 0 rfl) ((HI.out.1.keep hb).cell rfl) rfl⟩
        · exact ⟨wanted_none rfl, loc_move rfl (hf.base 0 rfl)⟩
        · exact ⟨wanted_none rfl, loc_move rfl (hf.base 4 rfl)⟩
        · exact ⟨wanted_none rfl, loc_index_G 3 rfl (hd 2 rfl) (hd 3 rfl) hlt (by kernel_rfl) (by kernel_rfl) rfl⟩
        · exact ⟨wanted_none rfl, loc_fieldWx rfl (hd 4 rfl) (by decide) rfl⟩
        · refine ⟨wanted_none rfl, loc_load_int rfl (hd 5 rfl) ?_ rfl⟩
          obtain ⟨z, e1, e2, e3, e4, e5⟩ := HEL.out w2 (below_trans (by rw [HGP.out]; exact HI.out.2.2) hb)
          obtain rfl := Option.some.inj e1
          rw [Go.Deep.add_add]; exact e2
        · exact ⟨wanted_none rfl, loc_build2i rfl (hd 1 rfl) (hd 6 rfl) (by unfold i64P; have := HINV.out; omega) HYR.out.1 fun v w' h => h⟩
        · refine ⟨wanted_none rfl, loc_call rfl (by kernel_rfl) ?_⟩
          show Calls _ _ #[.int .i64 1000000000, a'.eval (.tmp 18)] w2 _
          rw [← HNT.out]
          exact refAdd_v rt yt _ w2 (hd 7 rfl)
        · exact ⟨wanted_none rfl, loc_fieldW rfl (hf.base 3 rfl) (by decide) rfl⟩
      · intro a' w2 hb hf hd
        have ep : a'.eval (.tmp 20) = .pointer (some ⟨gp + 1, 0, none⟩) := hd 9 (by decide) (by decide)
        have ev : a'.eval (.tmp 19) = .int .i64 nt := hd 8 (by decide) (by decide)
        have HVk := Box.mk (HI.out.1.keep hb)
        refine ⟨wanted_none rfl, wp_store_intG (u := .int .i64 rt) rfl ep ev (by kernel_rfl) (HVk.out.cell rfl) HVk.out.frozen ?_⟩
        have HN5 := Box.mk (show VarA (w2.setCell ⟨gp + 1, 0, none⟩ (.int .i64 nt)) (gp + 1) #[.int .i64 nt, .int .i64 re, .int .i64 0] 23 ∧ VarA (w2.setCell ⟨gp + 1, 0, none⟩ (.int .i64 nt)) gp #[.int .i64 0, .int .i64 0, .int .i64 0] 23 ∧ Below gp w (w2.setCell ⟨gp + 1, 0, none⟩ (.int .i64 nt)) from
          ⟨HVk.out.set, (HI.out.2.1.keep hb).other (by show gp ≠ gp + 1; omega), (HI.out.2.2.trans (hb.mono (by have := HI.out.1.lt; omega))).setCell (by show gp ≤ gp + 1; omega) _⟩)
        refine hK _ _ ?_
        rw [fr_putAll hf]
        simp only [putAll, ep, ev]
        clear hf hd hb ep ev HVk hK
        generalize a'.eval (.tmp 11) = u11
        generalize a'.eval (.tmp 12) = u12
        generalize a'.eval (.tmp 13) = u13
        generalize a'.eval (.tmp 14) = u14
        generalize a'.eval (.tmp 15) = u15
        generalize a'.eval (.tmp 16) = u16
        generalize a'.eval (.tmp 17) = u17
        generalize a'.eval (.tmp 18) = u18
        simp only [Act.put, List.setIfInBounds_toArray, List.set_cons_succ, List.set_cons_zero]
        generalize (w2.setCell ⟨gp + 1, 0, none⟩ (.int .i64 nt)) = w5 at *
        go_upto_region 6 with fail
        rename_i K hK
        refine wp_region_last (S := [some (.val (.pointer (some ⟨gp + 1, 1, none⟩))), some (.val (.int .i64 re)), some (.val (.slice (some x) l.length c)), some (.val (.int .i64 k)), some (.val (.pointer (some (x.add (k * 3))))), some (.val (.pointer (some ((x.add (k * 3)).add 1)))), some (.val (.int .i64 ye)), some (.of (.intsX [re, ye])), some (.val (.int .i64 ne)), some (.val (.pointer (some ⟨gp + 1, 1, none⟩))), none]) 10
          (by kernel_rfl) (by kernel_rfl) (by kernel_rfl) (by kernel_rfl) rfl rfl rfl ?_ ?_
        · refine ⟨?_, ?_, ?_, ?_, ?_, ?_, ?_, ?_, ?_, ?_, trivial⟩ <;> intro a' w2 hb hf hd
          · exact ⟨wanted_none rfl, loc_fieldW rfl (hf.base 3 rfl) (by decide) rfl⟩
          · exact ⟨wanted_none rfl, loc_load_int rfl (hd 0 rfl) ((HN5.out.1.keep hb).cell rfl) rfl⟩
          · exact ⟨wanted_none rfl, loc_move rfl (hf.base 0 rfl)⟩
          · exact ⟨wanted_none rfl, loc_move rfl (hf.base 4 rfl)⟩
          · exact ⟨wanted_none rfl, loc_index_G 3 rfl (hd 2 rfl) (hd 3 rfl) hlt (by kernel_rfl) (by kernel_rfl) rfl⟩
          · exact ⟨wanted_none rfl, loc_fieldWx rfl (hd 4 rfl) (by decide) rfl⟩
          · refine ⟨wanted_none rfl, loc_load_int rfl (hd 5 rfl) ?_ rfl⟩
            obtain ⟨z, e1, e2, e3, e4, e5⟩ := HEL.out w2 (below_trans (by rw [HGP.out]; exact HN5.out.2.2) hb)
            obtain rfl := Option.some.inj e1
            rw [Go.Deep.add_add]; exact e3
          · exact ⟨wanted_none rfl, loc_build2i rfl (hd 1 rfl) (hd 6 rfl) (by unfold i64P; have := HINV.out; omega) HYR.out.2.1 fun v w' h => h⟩
          · refine ⟨wanted_none rfl, loc_call rfl (by kernel_rfl) ?_⟩
            show Calls _ _ #[.int .i64 1000000000, a'.eval (.tmp 28)] w2 _
            rw [← HNE.out]
            exact refAdd_v re ye _ w2 (hd 7 rfl)
          · exact ⟨wanted_none rfl, loc_fieldW rfl (hf.base 3 rfl) (by decide) rfl⟩
        · intro a' w2 hb hf hd
          have ep : a'.eval (.tmp 30) = .pointer (some ⟨gp + 1, 1, none⟩) := hd 9 (by decide) (by decide)
          have ev : a'.eval (.tmp 29) = .int .i64 ne := hd 8 (by decide) (by decide)
          have HVk := Box.mk (HN5.out.1.keep hb)
          refine ⟨wanted_none rfl, wp_store_intG (u := .int .i64 re) rfl ep ev (by kernel_rfl) (HVk.out.cell rfl) HVk.out.frozen ?_⟩
          have HN6 := Box.mk (show VarA (w2.setCell ⟨gp + 1, 1, none⟩ (.int .i64 ne)) (gp + 1) #[.int .i64 nt, .int .i64 ne, .int .i64 0] 23 ∧ VarA (w2.setCell ⟨gp + 1, 1, none⟩ (.int .i64 ne)) gp #[.int .i64 0, .int .i64 0, .int .i64 0] 23 ∧ Below gp w (w2.setCell ⟨gp + 1, 1, none⟩ (.int .i64 ne)) from
            ⟨HVk.out.set, (HN5.out.2.1.keep hb).other (by show gp ≠ gp + 1; omega), (HN5.out.2.2.trans (hb.mono (by have := HN5.out.1.lt; omega))).setCell (by show gp ≤ gp + 1; omega) _⟩)
          refine hK _ _ ?_
          rw [fr_putAll hf]
          simp only [putAll, ep, ev]
          clear hf hd hb ep ev HVk hK
          generalize a'.eval (.tmp 21) = u21
          generalize a'.eval (.tmp 22) = u22
          generalize a'.eval (.tmp 23) = u23
          generalize a'.eval (.tmp 24) = u24
          generalize a'.eval (.tmp 25) = u25
          generalize a'.eval (.tmp 26) = u26
          generalize a'.eval (.tmp 27) = u27
          generalize a'.eval (.tmp 28) = u28
          simp only [Act.put, List.setIfInBounds_toArray, List.set_cons_succ, List.set_cons_zero]
          generalize (w2.setCell ⟨gp + 1, 1, none⟩ (.int .i64 ne)) = w6 at *
          go_wp2_with fail
          go_roundw
          case rel => exact ⟨k + 1, by omega, by go_num, ⟨by rw [HN.out.1, HN.out.2]; exact HN6.out.1, HN6.out.2.1, HN6.out.2.2⟩⟩
          case measure => simp [intOf]; omega
    · have HE := Box.mk (show mergeV (l.take k) = R by rw [HR.out, List.take_of_length_le (by omega)])
      have HA := Box.mk (mergeV_inv l k hk)
      rw [HE.out] at HI HA
      obtain ⟨rt, re, ra⟩ := R
      simp only at HI HA
      have c0 := HI.out.1.cell (i := 0) (v := .int .i64 rt) rfl
      have c1 := HI.out.1.cell (i := 1) (v := .int .i64 re) rfl
      have c2 := HI.out.1.cell (i := 2) (v := .int .i64 0) rfl
      clear HE HL
      go_wp2_with (refine wpList_store_row rfl 23 _ _ rfl gp #[.int .i64 rt, .int .i64 re, .int .i64 0] rfl rfl 23 _ HI.out.2.1 sizeWn rfl (oneWn ..) ?_)
      (try simp only [Exit.inBlock, Exit.then])
      refine ret_rowQ (cs := #[.int .i64 rt, .int .i64 re, .int .i64 0]) rfl rfl rfl (setRow_heap _ _ _ _ _ _ HI.out.2.1) Try.underlying23 rfl sizeWn ⟨by unfold Wn.cells; rw [HA.out.2.2], by rw [HGP.out]; exact below_setRow HI.out.2.2 (Nat.le_refl _) _⟩
end Go.Proofs.Ytegpgcdhmkcopaa
namespace Go.Proofs.Ytegpgcdhmkcopaa
open Go.ChangeShapes Go.WideShapes Go.ChangeAt Go.RowKit
set_option linter.unusedVariables false

theorem open_boolsW {H : Type} {enc : TypeId × Value → H} {W : World} {a : Option Addr} {len cap : Nat} {d : DataW H} {ps : List MemPlace} {base : Nat}
    (h : DataW.Trod enc Try.prog W base (fun _ => true) true 30 (.slice a len cap) d ps) : ∃ l : List Bool, len = l.length ∧ BoolsIn W a l ∧ l.length ≤ cap ∧ cap ≤ maxLen := by
  obtain ⟨fuel, hf⟩ := h
  rcases Go.Deep.open_bools Try.underlying30 Try.underlying4 (by kernel_rfl) hf with ⟨hcs, _⟩ | ⟨x, l, c, B, hcs, _, hl, hm, _, hcell⟩
  · simp [Value.cells] at hcs
    obtain ⟨rfl, rfl, rfl⟩ := hcs
    exact ⟨[], rfl, fun j hj => absurd hj (Nat.not_lt_zero _), Nat.le_refl _, Nat.zero_le _⟩
  · simp [Value.cells] at hcs
    obtain ⟨rfl, rfl, rfl⟩ := hcs
    have hlen : ((List.range len).map B).length = len := by simp
    refine ⟨(List.range len).map B, hlen.symm, fun j hj => ⟨x, rfl, ?_⟩, by rw [hlen]; exact hl, hm⟩
    rw [hlen] at hj
    rw [hcell j (by omega)]
    simp
theorem open_winsW {H : Type} {enc : TypeId × Value → H} {W : World} {a : Option Addr} {len cap : Nat} {d : DataW H} {ps : List MemPlace} {base : Nat}
    (h : DataW.Trod enc Try.prog W base (fun _ => true) true 29 (.slice a len cap) d ps) : ∃ l : List Wn, len = l.length ∧ WinsIn W a l ∧ l.length ≤ cap ∧ cap ≤ maxLen := by
  obtain ⟨fuel, hf⟩ := h
  rcases Go.Deep.open_slice Try.underlying29 hf with ⟨hcs, _⟩ | ⟨x, l, c, m, n, D, Pl, hcs, _, hl, hm, hmm, _, hx⟩
  · simp [Value.cells] at hcs
    obtain ⟨rfl, rfl, rfl⟩ := hcs
    exact ⟨[], rfl, fun j hj => absurd hj (Nat.not_lt_zero _), Nat.le_refl _, Nat.zero_le _⟩
  · simp [Value.cells] at hcs
    obtain ⟨rfl, rfl, rfl⟩ := hcs
    have hlm : len ≤ m := by rw [hmm]; split <;> omega
    have each : ∀ i, i < m → ∃ v : Wn, W.cell? (x.add (i * 3)) = some (.int .i64 v.tot) ∧ W.cell? (x.add (i * 3 + 1)) = some (.int .i64 v.err) ∧ W.cell? (x.add (i * 3 + 2)) = some (.int .i64 v.age) ∧ v.rng := by
      intro i hi
      obtain ⟨cs', h1, h2⟩ := hx i hi
      rw [show Try.prog.cellsOf 23 = 3 by kernel_rfl] at h1
      obtain ⟨_, hlen, hcell⟩ := World.cells?_some h1
      obtain ⟨xs, k, hk, hxy, _, hxl, hfs⟩ := DataW.trod_struct Try.underlying23 h2
      match xs, hxl, cs', hlen with
      | [y0, y1, y2], _, [v0, v1, v2], _ =>
        have g0 : DataW.trod enc Try.prog W base (fun _ => true) true k 3 [v0] = some y0 := by
          have e : ([v0, v1, v2].drop 0).take (Try.prog.cellsOf 3) = [v0] := by rw [show Try.prog.cellsOf 3 = 1 by kernel_rfl]; rfl
          rw [← e]; exact hfs 0 _ rfl
        have g1 : DataW.trod enc Try.prog W base (fun _ => true) true k 3 [v1] = some y1 := by
          have e : ([v0, v1, v2].drop 1).take (Try.prog.cellsOf 3) = [v1] := by rw [show Try.prog.cellsOf 3 = 1 by kernel_rfl]; rfl
          rw [← e]; exact hfs 1 _ rfl
        have g2 : DataW.trod enc Try.prog W base (fun _ => true) true k 3 [v2] = some y2 := by
          have e : ([v0, v1, v2].drop 2).take (Try.prog.cellsOf 3) = [v2] := by rw [show Try.prog.cellsOf 3 = 1 by kernel_rfl]; rfl
          rw [← e]; exact hfs 2 _ rfl
        obtain ⟨z0, ez0, _, wz0⟩ := DataW.trod_int Try.underlying3 g0
        obtain ⟨z1, ez1, _, wz1⟩ := DataW.trod_int Try.underlying3 g1
        obtain ⟨z2, ez2, _, wz2⟩ := DataW.trod_int Try.underlying3 g2
        injection ez0 with ez0
        injection ez1 with ez1
        injection ez2 with ez2
        subst ez0 ez1 ez2
        have e0 := hcell 0 (by omega)
        have e1 := hcell 1 (by omega)
        have e2 := hcell 2 (by omega)
        rw [Go.Deep.add_add] at e0 e1 e2
        exact ⟨⟨z0, z1, z2⟩, by simpa using e0, by simpa using e1, by simpa using e2, i64_ofF wz0, i64_ofF wz1, i64_ofF wz2⟩
    have inh : Inhabited Wn := ⟨⟨0, 0, 0⟩⟩
    obtain ⟨q, hq⟩ := Go.Deep.choose_lt each
    have hlen : ((List.range len).map q).length = len := by simp
    refine ⟨(List.range len).map q, hlen.symm, fun j hj => ⟨x, rfl, ?_⟩, by rw [hlen]; exact hl, hm⟩
    rw [hlen] at hj
    have e : ((List.range len).map q)[j]'(by rw [hlen]; exact hj) = q j := by simp
    rw [e]
    exact hq j (by omega)
end Go.Proofs.Ytegpgcdhmkcopaa
