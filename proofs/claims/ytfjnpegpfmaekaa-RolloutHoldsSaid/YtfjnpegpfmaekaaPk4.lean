/- The landed package window: Merge, Count, later, Tick. The landed rollout: Observe, advance, judge, Tick, Weight, Step, Run. -/
import Derived.Test.YtfjnpegpfmaekaaPk1
import Derived.Test.YtfjnpegpfmaekaaPk2
import Derived.Test.YtfjnpegpfmaekaaPk3
import Derived.Test.YtfjnpegpfmaekaaRows
import Derived.WalkKit
import Derived.WalkSpells
import Derived.WalkLawsBesides
import Derived.BigQuiet
import Derived.Deep.QuietTactic
import Derived.Lib.Bytealg
import Derived.Lib.IndexLaws
import Derived.Lib.Hide
import Derived.Laws.IdiomStrings
import Derived.Lib.SlTrimSet
import Derived.Lib.IndexBytes
import Derived.Lib.Split
import Derived.Deep.AppendLies
import Derived.Shelf.LaysM
import Derived.Test.YtfjnpegpfmaekaaProg
import Derived.Shelf.Strings.SlTrimAscii
import Derived.Lib.SplitLaws
import Derived.WalkSmall
import Derived.ProofKit
import Derived.OpenShut
import Derived.Lib.Strings
import Derived.SliceStrings
import Derived.Deep.Quiet
import Derived.Tactics
import Derived.KernelRfl
import Derived.Below
import Derived.Laws.Bits64
import Derived.Lib.SlBytesConst
import Derived.Maps.AppendAt
import Derived.Laws.AppendOwnNone
import Derived.Great.BuildSlice
import Derived.Laws.Rows
import Derived.Laws.BitsAllLaws
import Derived.Laws.Shifts
import Derived.Maps.OwnOps
import Derived.Maps.OwnSet
import Derived.Deep.SlicePairs
import Derived.Lib.AppendZerosOnto
import Derived.Lib.AppendStr
import Derived.Laws.CopyOwn
import Derived.OwnWalk
import Derived.Laws.Strings3
import Derived.Laws.Concat
import Derived.Lib.ItoaMem
import Derived.Deep.DeepCutAuto
import Derived.Deep.CutBlock
import Derived.Laws.Tables
import Derived.Deep.Matrix
import Derived.IntWalk
import Derived.Laws.RangeAny
import Derived.Sort.Grow
import Derived.Lib.LaidTab
import Derived.LaidSub
import Derived.Laws.Bits64b
import Derived.Deep.WholeRow
import Derived.StillTailTactics
import Derived.Lib.ConvBytes
import Derived.ArgAppend
namespace Go.Proofs.Ytfjnpegpfmaekaa
open Go.RowKit
set_option linter.unusedVariables false
set_option linter.unusedSimpArgs false

theorem Try.info26 : (Try.prog.info? 26).map (fun i => (i.zero, i.size, i.bytes)) = some (some (.agg #[.int .i64 0, .int .i64 0, .int .i64 0]), 3, 24) := by kernel_rfl
theorem winsIn_pair (w : World) (f g : Wn) (hf : f.rng) (hg : g.rng) (t : TypeId) : WinsIn (w.alloc (.cells #[.int .i64 f.tot, .int .i64 f.err, .int .i64 f.age, .int .i64 g.tot, .int .i64 g.err, .int .i64 g.age] t)) (some ⟨w.heap.size, 0, none⟩) [f, g] := fun j hj => by
  match j, hj with
  | 0, _ => exact ⟨_, rfl, by rw [Addr.add_lit, World.cell?_alloc_new]; rfl, by rw [Addr.add_lit, World.cell?_alloc_new]; rfl, by rw [Addr.add_lit, World.cell?_alloc_new]; rfl, hf⟩
  | 1, _ => exact ⟨_, rfl, by rw [Addr.add_lit, World.cell?_alloc_new]; rfl, by rw [Addr.add_lit, World.cell?_alloc_new]; rfl, by rw [Addr.add_lit, World.cell?_alloc_new]; rfl, hg⟩
theorem wpList_slice2Wn {ops : Array Oper} {rest : List Oper} {o : Oper} {act : Act} {w : World} {Q : Exit → Act → World → Prop} {x y : Operand} (hgd : o.guard = none) (ho : o.op = .buildSlice 78 2 #[(0, x), (1, y)]) (f g : Wn) (hx : act.eval x = .agg #[.int .i64 f.tot, .int .i64 f.err, .int .i64 f.age]) (hy : act.eval y = .agg #[.int .i64 g.tot, .int .i64 g.err, .int .i64 g.age])
    (h : wpList Try.prog ops Q rest (act.put o.dst (.slice (some ⟨w.heap.size, 0, none⟩) 2 2)) (w.alloc (.cells #[.int .i64 f.tot, .int .i64 f.err, .int .i64 f.age, .int .i64 g.tot, .int .i64 g.err, .int .i64 g.age] 26))) : wpList Try.prog ops Q (o :: rest) act w :=
  wpList_plain hgd fun _ hK => by
    obtain ⟨i0, hi, hz0, hz1, hz2⟩ := info_parts Try.info26
    have hrun := run_buildSlice (P := Try.prog) w 78 26 2 #[(0, .agg #[.int .i64 f.tot, .int .i64 f.err, .int .i64 f.age]), (1, .agg #[.int .i64 g.tot, .int .i64 g.err, .int .i64 g.age])] #[.int .i64 f.tot, .int .i64 f.err, .int .i64 f.age, .int .i64 g.tot, .int .i64 g.err, .int .i64 g.age] i0 _ Try.underlying78 hi hz0 (by rw [hz1]; decide) (by rw [hz1]; decide) (by rw [hz1]; simp [Instr.fill, Value.cells, Array.range_succ, show Array.range 0 = #[] from rfl])
    have hrun2 : (execOp act.eval o).run Try.prog w = .ok (.value (.slice (some ⟨w.heap.size, 0, none⟩) 2 2)) (w.alloc (.cells #[.int .i64 f.tot, .int .i64 f.err, .int .i64 f.age, .int .i64 g.tot, .int .i64 g.err, .int .i64 g.age] 26)) := by
      unfold execOp
      simp only [ho, List.map_toArray, List.map_cons, List.map_nil, hx, hy]
      rw [Sem.run_bind, hrun]; rfl
    unfold Oper.wp
    rw [hrun2]
    exact hK _ _ h
theorem WinsIn.row {w : World} {x : Addr} {l : List Wn} (h : WinsIn w (some x) l) {k : Nat} (hk : k < l.length) : ∀ (j : Nat) (v : Value), (#[Value.int .i64 l[k].tot, .int .i64 l[k].err, .int .i64 l[k].age] : Array Value)[j]? = some v → w.cell? ((x.add (k * 3)).add j) = some v := by
  obtain ⟨y, e, h1, h2, h3, _⟩ := h k hk
  obtain rfl := Option.some.inj e
  intro j v hv
  rw [Go.Deep.add_add]
  match j, hv with
  | 0, hv => simp at hv; subst hv; exact h1
  | 1, hv => simp at hv; subst hv; exact h2
  | 2, hv => simp at hv; subst hv; exact h3
  | j + 3, hv => simp at hv
theorem numAdd_v (m x y : Int) (a : Option Addr) (w : World) (h0 : i64P m) (h : IsInts w a [x, y] 2) :
    Calls Try.prog 49 #[.int .i64 m, .slice a 2 2] w fun e w' => e = .returned (.int .i64 (addS m [x, y])) ∧ w = w' :=
  numAdd_any m [x, y] a 2 w h0.1 h0.2 h

set_option maxRecDepth 100000 in
set_option maxHeartbeats 4000000 in
theorem wMerge_any (l : List Wn) (a : Option Addr) (c : Nat) (w : World) (hl : WinsIn w a l) (hlen : l.length ≤ 1000000) :
    Calls Try.prog 50 #[.slice a l.length c] w fun e w' => e = .returned (.agg (mergeV l).cells) ∧ Below w.heap.size w w' := by
  obtain ⟨R, hR⟩ : ∃ R, R = mergeV l := ⟨_, rfl⟩
  rw [← hR]
  have HR := Box.mk hR
  have HL := Box.mk hl
  clear hR hl
  obtain ⟨W, hW⟩ : ∃ W, W = (w.alloc (.cells #[.int .i64 0, .int .i64 0, .int .i64 0] 26)).alloc (.cells #[.int .i64 0, .int .i64 0, .int .i64 0] 26) := ⟨_, rfl⟩
  have HB := Box.mk (show Below w.heap.size w W by rw [hW]; exact below_twoF (below_oneF w _) _)
  have HU := Box.mk (show VarA W w.heap.size #[.int .i64 0, .int .i64 0, .int .i64 0] 26 by rw [hW]; exact (VarA.new _ _ _).below _)
  have HV := Box.mk (show VarA W (w.heap.size + 1) #[.int .i64 0, .int .i64 0, .int .i64 0] 26 by rw [hW]; have := VarA.new (w.alloc (.cells #[.int .i64 0, .int .i64 0, .int .i64 0] 26)) #[.int .i64 0, .int .i64 0, .int .i64 0] 26; rw [World.size_alloc] at this; exact this)
  go_enter Try.func50, Try.ntmps50
  go_upto_region 2 with fail
  change Code.wp _ _ _ _ ((w.alloc (.cells #[.int .i64 0, .int .i64 0, .int .i64 0] 26)).alloc (.cells #[.int .i64 0, .int .i64 0, .int .i64 0] 26))
  rw [← hW]
  clear hW
  generalize hgp : w.heap.size = gp at *
  have HGP := Box.mk hgp
  clear hgp
  go_wp2_with fail
  go_loopw [8] (fun iv wr => ∃ k : Nat, k ≤ l.length ∧ iv = .int .i64 k ∧ Box (VarA wr (gp + 1) #[.int .i64 (mergeV (l.take k)).tot, .int .i64 (mergeV (l.take k)).err, .int .i64 0] 26 ∧ VarA wr gp #[.int .i64 0, .int .i64 0, .int .i64 0] 26 ∧ Below gp w wr)) (fun iv _ => l.length - (intOf iv).toNat)
  case atStart => exact ⟨0, Nat.zero_le _, rfl, ⟨HV.out, HU.out, HB.out⟩⟩
  case round =>
    clear HV HU HB
    obtain ⟨k, hk, rfl, HI⟩ := hrel
    by_cases hlt : k < l.length
    · obtain ⟨x, rfl, hx1, hx2, hx3, HYR⟩ := HL.out k hlt
      clear hx1 hx2 hx3
      have HROW := Box.mk ((HL.out.keep (by rw [HGP.out]; exact HI.out.2.2)).row hlt)
      have HST := Box.mk (mergeV_snoc l k hlt)
      have HINV := Box.mk (mergeV_inv l k hk)
      replace HYR := Box.mk HYR
      generalize l[k] = y at *
      generalize mergeV (l.take k) = r at *
      obtain ⟨rt, re, ra⟩ := r
      obtain ⟨yt, ye, ya⟩ := y
      simp only [Wn.rng] at HI HINV HROW HYR
      have HN := Box.mk (show (mergeV (l.take (k + 1))).tot = addMx rt yt ∧ (mergeV (l.take (k + 1))).err = addMx re ye by rw [HST.out]; exact ⟨rfl, rfl⟩)
      clear HST
      obtain ⟨nt, hnt⟩ : ∃ nt, addMx rt yt = nt := ⟨_, rfl⟩
      obtain ⟨ne, hne⟩ : ∃ ne, addMx re ye = ne := ⟨_, rfl⟩
      rw [hnt, hne] at HN
      have HNT := Box.mk hnt
      have HNE := Box.mk hne
      clear hnt hne
      obtain ⟨W4, hW4⟩ : ∃ W4, W4 = (wr.alloc (.cells #[.int .i64 0, .int .i64 0, .int .i64 0] 26)).setRow wr.heap.size #[.int .i64 yt, .int .i64 ye, .int .i64 ya] := ⟨_, rfl⟩
      have hgl : gp + 1 < wr.heap.size := HI.out.1.lt
      have HY4 := Box.mk (show VarA W4 wr.heap.size #[.int .i64 yt, .int .i64 ye, .int .i64 ya] 26 by rw [hW4]; exact setRow_heap _ _ _ _ _ _ (VarA.new _ _ _))
      have HI4 := Box.mk (show VarA W4 (gp + 1) #[.int .i64 rt, .int .i64 re, .int .i64 0] 26 ∧ VarA W4 gp #[.int .i64 0, .int .i64 0, .int .i64 0] 26 ∧ Below gp w W4 by
        rw [hW4]
        exact ⟨(HI.out.1.below _).row_other (by omega), (HI.out.2.1.below _).row_other (by omega), below_setRow (HI.out.2.2.trans ((below_oneF wr _).mono (by omega))) (by omega) _⟩)
      go_upto_region 5 with (first | refine wpList_load_rowP rfl 26 _ rfl (x.add (k * 3)) #[.int .i64 yt, .int .i64 ye, .int .i64 ya] _ rfl HROW.out Try.underlying26 rfl sizeWn ?_ | refine wpList_store_row rfl 26 _ _ rfl wr.heap.size #[.int .i64 yt, .int .i64 ye, .int .i64 ya] rfl rfl 26 _ (VarA.new _ _ _) sizeWn rfl (oneWn ..) ?_)
      change Code.wp _ _ _ _ ((wr.alloc (.cells #[.int .i64 0, .int .i64 0, .int .i64 0] 26)).setRow wr.heap.size #[.int .i64 yt, .int .i64 ye, .int .i64 ya])
      rw [← hW4]
      clear hW4 HROW
      have c0 := HI4.out.1.cell (i := 0) (v := .int .i64 rt) rfl
      have y0 := HY4.out.cell (i := 0) (v := .int .i64 yt) rfl
      have HS5 := Box.mk (isInts_two W4 rt yt (by unfold i64P; have := HINV.out; omega) HYR.out.1 3)
      go_wp2_with fail
      refine (numAdd_v 1000000000 rt yt _ _ (by unfold i64P; omega) HS5.out).mono ?_
      rintro e w5a ⟨rfl, hw⟩
      have HBz := Box.mk (show Below W4.heap.size W4 w5a by rw [← hw]; exact below_oneF _ _)
      rw [show addS 1000000000 [rt, yt] = nt from HNT.out]
      have HI5a := Box.mk (show VarA w5a (gp + 1) #[.int .i64 rt, .int .i64 re, .int .i64 0] 26 ∧ VarA w5a gp #[.int .i64 0, .int .i64 0, .int .i64 0] 26 ∧ Below gp w w5a from ⟨HI4.out.1.keep HBz.out, HI4.out.2.1.keep HBz.out, HI4.out.2.2.trans (HBz.out.mono (by have := HI4.out.1.lt; omega))⟩)
      have HY5a := Box.mk (HY4.out.keep HBz.out)
      clear hw c0 y0 HS5 HBz HI4 HY4
      have c0 := HI5a.out.1.cell (i := 0) (v := .int .i64 rt) rfl
      have hf := HI5a.out.1.frozen (i := 0)
      obtain ⟨w5, hw5⟩ : ∃ w5, w5 = w5a.setCell ⟨gp + 1, 0, none⟩ (.int .i64 nt) := ⟨_, rfl⟩
      have HI5 := Box.mk (show VarA w5 (gp + 1) #[.int .i64 nt, .int .i64 re, .int .i64 0] 26 ∧ VarA w5 gp #[.int .i64 0, .int .i64 0, .int .i64 0] 26 ∧ Below gp w w5 by
        rw [hw5]
        exact ⟨HI5a.out.1.set, HI5a.out.2.1.other (by show gp ≠ gp + 1; omega), HI5a.out.2.2.setCell (by show gp ≤ gp + 1; omega) _⟩)
      have HY5 := Box.mk (show VarA w5 wr.heap.size #[.int .i64 yt, .int .i64 ye, .int .i64 ya] 26 by rw [hw5]; exact HY5a.out.other (by show wr.heap.size ≠ gp + 1; omega))
      clear HI5a HY5a
      go_upto_region 6 with fail
      change Code.wp _ _ _ _ (w5a.setCell ⟨gp + 1, 0, none⟩ (.int .i64 nt))
      rw [← hw5]
      clear hw5 c0 hf
      have c0 := HI5.out.1.cell (i := 1) (v := .int .i64 re) rfl
      have y0 := HY5.out.cell (i := 1) (v := .int .i64 ye) rfl
      have HS6 := Box.mk (isInts_two w5 re ye (by unfold i64P; have := HINV.out; omega) HYR.out.2.1 3)
      go_wp2_with fail
      refine (numAdd_v 1000000000 re ye _ _ (by unfold i64P; omega) HS6.out).mono ?_
      rintro e w6a ⟨rfl, hw⟩
      have HBz := Box.mk (show Below w5.heap.size w5 w6a by rw [← hw]; exact below_oneF _ _)
      rw [show addS 1000000000 [re, ye] = ne from HNE.out]
      have HI6a := Box.mk (show VarA w6a (gp + 1) #[.int .i64 nt, .int .i64 re, .int .i64 0] 26 ∧ VarA w6a gp #[.int .i64 0, .int .i64 0, .int .i64 0] 26 ∧ Below gp w w6a from ⟨HI5.out.1.keep HBz.out, HI5.out.2.1.keep HBz.out, HI5.out.2.2.trans (HBz.out.mono (by have := HI5.out.1.lt; omega))⟩)
      have HY6a := Box.mk (HY5.out.keep HBz.out)
      clear hw c0 y0 HS6 HBz HI5 HY5
      have c0 := HI6a.out.1.cell (i := 1) (v := .int .i64 re) rfl
      have hf := HI6a.out.1.frozen (i := 1)
      obtain ⟨w6, hw6⟩ : ∃ w6, w6 = w6a.setCell ⟨gp + 1, 1, none⟩ (.int .i64 ne) := ⟨_, rfl⟩
      have HI6 := Box.mk (show VarA w6 (gp + 1) #[.int .i64 nt, .int .i64 ne, .int .i64 0] 26 ∧ VarA w6 gp #[.int .i64 0, .int .i64 0, .int .i64 0] 26 ∧ Below gp w w6 by
        rw [hw6]
        exact ⟨HI6a.out.1.set, HI6a.out.2.1.other (by show gp ≠ gp + 1; omega), HI6a.out.2.2.setCell (by show gp ≤ gp + 1; omega) _⟩)
      have HY6 := Box.mk (show VarA w6 wr.heap.size #[.int .i64 yt, .int .i64 ye, .int .i64 ya] 26 by rw [hw6]; exact HY6a.out.other (by show wr.heap.size ≠ gp + 1; omega))
      clear HI6a HY6a
      go_upto_region 7 with fail
      change Code.wp _ _ _ _ (w6a.setCell ⟨gp + 1, 1, none⟩ (.int .i64 ne))
      rw [← hw6]
      clear hw6 c0 hf
      go_wp2_with fail
      go_roundw
      case rel => exact ⟨k + 1, by omega, by go_num, ⟨by rw [HN.out.1, HN.out.2]; exact HI6.out.1, HI6.out.2.1, HI6.out.2.2⟩⟩
      case measure => simp [intOf]; omega
    · have HE := Box.mk (show mergeV (l.take k) = R by rw [HR.out, List.take_of_length_le (by omega)])
      have HA := Box.mk (mergeV_inv l k hk)
      rw [HE.out] at HI HA
      obtain ⟨rt, re, ra⟩ := R
      simp only at HI HA
      have c0 := HI.out.1.cell (i := 0) (v := .int .i64 rt) rfl
      have c1 := HI.out.1.cell (i := 1) (v := .int .i64 re) rfl
      have c2 := HI.out.1.cell (i := 2) (v := .int .i64 0) rfl
      clear HE HL
      go_wp2_with (refine wpList_store_row rfl 26 _ _ rfl gp #[.int .i64 rt, .int .i64 re, .int .i64 0] rfl rfl 26 _ HI.out.2.1 sizeWn rfl (oneWn ..) ?_)
      (try simp only [Exit.inBlock, Exit.then])
      refine ret_rowQ (cs := #[.int .i64 rt, .int .i64 re, .int .i64 0]) rfl rfl rfl (setRow_heap _ _ _ _ _ _ HI.out.2.1) Try.underlying26 rfl sizeWn ⟨by unfold Wn.cells; rw [HA.out.2.2], by rw [HGP.out]; exact below_setRow HI.out.2.2 (Nat.le_refl _) _⟩

theorem countV_eq (v : Wn) (failed : Bool) : (joinV (joinV ⟨0, 0, 0⟩ v) ⟨1, if failed = true then 1 else 0, 0⟩).tot = (smpV v failed).tot ∧ (joinV (joinV ⟨0, 0, 0⟩ v) ⟨1, if failed = true then 1 else 0, 0⟩).err = (smpV v failed).err := by
  unfold joinV smpV
  simp only
  unfold addMx
  cases failed <;> simp only [addS_eq, cnt1_eq, cnt0_eq, if_neg (show ¬ (1000000000 : Int) < 0 by omega), sumX] <;> constructor <;> simp <;> omega
set_option maxRecDepth 10000 in
set_option maxHeartbeats 4000000 in
theorem wCount_any (v : Wn) (failed : Bool) (w : World) (h : v.rng) :
    Calls Try.prog 43 #[.agg v.cells, .bool failed] w fun e w' => e = .returned (.agg (smpV v failed).cells) ∧ Below w.heap.size w w' := by
  obtain ⟨s, hs⟩ : ∃ s, smpV v failed = s := ⟨_, rfl⟩
  have HM := Box.mk (countV_eq v failed)
  have HAG := Box.mk (show (smpV v failed).age = v.age from rfl)
  rw [hs] at HM HAG
  rw [hs]
  clear hs
  have HR := Box.mk h
  clear h
  obtain ⟨tot, err, age⟩ := v
  obtain ⟨t2, e2, a2⟩ := s
  simp only at HM HAG
  have haa : age = a2 := HAG.out.symm
  subst haa
  clear HAG
  have HFV := Box.mk (show VarA (w.alloc (.cells #[.int .i64 tot, .int .i64 err, .int .i64 age] 26)) w.heap.size #[.int .i64 tot, .int .i64 err, .int .i64 age] 26 from VarA.new _ _ _)
  obtain ⟨d, hd⟩ : ∃ d : Int, d = if failed = true then 1 else 0 := ⟨_, rfl⟩
  have HD := Box.mk (show (0 ≤ d ∧ d ≤ 1) by rw [hd]; split <;> omega)
  have HDE := Box.mk hd
  rw [← hd] at HM
  clear hd
  obtain ⟨W1, hW1⟩ : ∃ W1, W1 = ((w.alloc (.cells #[.int .i64 tot, .int .i64 err, .int .i64 age] 26)).alloc (.cells #[.int .i64 0, .int .i64 0, .int .i64 0] 26)).alloc (.cells #[.int .i64 1, .int .i64 0, .int .i64 0] 26) := ⟨_, rfl⟩
  have HB1 := Box.mk (show Below w.heap.size w W1 by rw [hW1]; exact below_twoF (below_twoF (below_oneF w _) _) _)
  have HV1 := Box.mk (show VarA W1 w.heap.size #[.int .i64 tot, .int .i64 err, .int .i64 age] 26 by rw [hW1]; exact (HFV.out.below _).below _)
  have HU1 := Box.mk (show VarA W1 (w.heap.size + 1) #[.int .i64 0, .int .i64 0, .int .i64 0] 26 by rw [hW1]; have := (VarA.new (w.alloc (.cells #[.int .i64 tot, .int .i64 err, .int .i64 age] 26)) #[.int .i64 0, .int .i64 0, .int .i64 0] 26).below (.cells #[.int .i64 1, .int .i64 0, .int .i64 0] 26); rw [World.size_alloc] at this; exact this)
  have HX1 := Box.mk (show VarA W1 (w.heap.size + 1 + 1) #[.int .i64 1, .int .i64 0, .int .i64 0] 26 by rw [hW1]; have := VarA.new ((w.alloc (.cells #[.int .i64 tot, .int .i64 err, .int .i64 age] 26)).alloc (.cells #[.int .i64 0, .int .i64 0, .int .i64 0] 26)) #[.int .i64 1, .int .i64 0, .int .i64 0] 26; rw [World.size_alloc, World.size_alloc] at this; exact this)
  unfold Wn.cells
  simp only
  go_enter Try.func43, Try.ntmps43
  go_upto_region 2 with fail
  change Code.wp _ _ _ _ (((w.alloc (.cells #[.int .i64 tot, .int .i64 err, .int .i64 age] 26)).alloc (.cells #[.int .i64 0, .int .i64 0, .int .i64 0] 26)).alloc (.cells #[.int .i64 1, .int .i64 0, .int .i64 0] 26))
  rw [← hW1]
  clear hW1 HFV
  cases failed
  · have hd : d = 0 := HDE.out
    subst hd
    go_upto_region 4 with fail
    have HMV := Box.mk (show mergeV [⟨tot, err, age⟩, ⟨1, 0, 0⟩] = ⟨t2, e2, 0⟩ by show joinV (joinV ⟨0, 0, 0⟩ ⟨tot, err, age⟩) ⟨1, 0, 0⟩ = _; rw [← HM.out.1, ← HM.out.2]; rfl)
    have HP := Box.mk (winsIn_pair W1 ⟨tot, err, age⟩ ⟨1, 0, 0⟩ HR.out (by unfold Wn.rng i64P; simp only; omega) 26)
    have c0 := HV1.out.cell (i := 0) (v := .int .i64 tot) rfl
    have c1 := HV1.out.cell (i := 1) (v := .int .i64 err) rfl
    have c2 := HV1.out.cell (i := 2) (v := .int .i64 age) rfl
    have x0 := HX1.out.cell (i := 0) (v := .int .i64 1) rfl
    have x1 := HX1.out.cell (i := 1) (v := .int .i64 0) rfl
    have x2 := HX1.out.cell (i := 2) (v := .int .i64 0) rfl
    clear HM HDE HD
    go_wp2_with (refine wpList_slice2Wn rfl rfl ⟨tot, err, age⟩ ⟨1, 0, 0⟩ rfl rfl ?_)
    refine (wMerge_any [⟨tot, err, age⟩, ⟨1, 0, 0⟩] _ 2 _ HP.out (show 2 ≤ 1000000 by decide)).mono ?_
    rintro e w3 ⟨he, hb⟩
    rw [HMV.out] at he
    simp only [Wn.cells] at he
    subst he
    have hb := Box.mk (below_trans (below_oneF W1 _) hb)
    have HB3 := Box.mk (below_trans HB1.out hb.out)
    have HV3 := Box.mk (HV1.out.keep hb.out)
    have HU3 := Box.mk (HU1.out.keep hb.out)
    clear hb HMV HP c0 c1 c2 x0 x1 x2 HB1 HV1 HU1 HX1 HR
    obtain ⟨W4, hW4⟩ : ∃ W4, W4 = (w3.alloc (.cells #[.int .i64 0, .int .i64 0, .int .i64 0] 26)).setRow w3.heap.size #[.int .i64 t2, .int .i64 e2, .int .i64 0] := ⟨_, rfl⟩
    have hlv := HU3.out.lt
    have HB4 := Box.mk (show Below w.heap.size w W4 by rw [hW4]; exact below_setRow (below_trans HB3.out (below_oneF _ _)) (by omega) _)
    have HV4 := Box.mk (show VarA W4 w.heap.size #[.int .i64 tot, .int .i64 err, .int .i64 age] 26 by rw [hW4]; exact (HV3.out.below _).row_other (by omega))
    have HU4 := Box.mk (show VarA W4 (w.heap.size + 1) #[.int .i64 0, .int .i64 0, .int .i64 0] 26 by rw [hW4]; exact (HU3.out.below _).row_other (by omega))
    have HY4 := Box.mk (show VarA W4 w3.heap.size #[.int .i64 t2, .int .i64 e2, .int .i64 0] 26 by rw [hW4]; exact setRow_heap _ _ _ _ _ _ (VarA.new _ _ _))
    go_upto_region 5 with (refine wpList_store_row rfl 26 _ _ rfl w3.heap.size #[.int .i64 t2, .int .i64 e2, .int .i64 0] rfl rfl 26 _ (VarA.new _ _ _) sizeWn rfl (oneWn ..) ?_)
    change Code.wp _ _ _ _ ((w3.alloc (.cells #[.int .i64 0, .int .i64 0, .int .i64 0] 26)).setRow w3.heap.size #[.int .i64 t2, .int .i64 e2, .int .i64 0])
    rw [← hW4]
    clear hW4 HB3 HV3 HU3
    obtain ⟨gz, hgz⟩ : ∃ gz, w3.heap.size = gz := ⟨_, rfl⟩
    rw [hgz] at hlv HY4 ⊢
    clear hgz
    have c2 := HV4.out.cell (i := 2) (v := .int .i64 age) rfl
    have y2 := HY4.out.cell (i := 2) (v := .int .i64 0) rfl
    have hf := HY4.out.frozen (i := 2)
    obtain ⟨W5, hW5⟩ : ∃ W5, W5 = W4.setCell ⟨gz, 2, none⟩ (.int .i64 age) := ⟨_, rfl⟩
    have HB5 := Box.mk (show Below w.heap.size w W5 by rw [hW5]; exact HB4.out.setCell (by show w.heap.size ≤ gz; omega) _)
    have HU5 := Box.mk (show VarA W5 (w.heap.size + 1) #[.int .i64 0, .int .i64 0, .int .i64 0] 26 by rw [hW5]; exact HU4.out.other (by show w.heap.size + 1 ≠ gz; omega))
    have HY5 := Box.mk (show VarA W5 gz #[.int .i64 t2, .int .i64 e2, .int .i64 age] 26 by rw [hW5]; exact HY4.out.set)
    go_upto_region 6 with fail
    change Code.wp _ _ _ _ (W4.setCell ⟨gz, 2, none⟩ (.int .i64 age))
    rw [← hW5]
    clear hW5 HB4 HU4 HY4 HV4 c2 y2 hf
    have y0 := HY5.out.cell (i := 0) (v := .int .i64 t2) rfl
    have y1 := HY5.out.cell (i := 1) (v := .int .i64 e2) rfl
    have y2 := HY5.out.cell (i := 2) (v := .int .i64 age) rfl
    go_wp2_with (refine wpList_store_row rfl 26 _ _ rfl (w.heap.size + 1) #[.int .i64 t2, .int .i64 e2, .int .i64 age] rfl rfl 26 _ HU5.out sizeWn rfl (oneWn ..) ?_)
    (try simp only [Exit.inBlock, Exit.then])
    refine ret_rowQ (cs := #[.int .i64 t2, .int .i64 e2, .int .i64 age]) rfl rfl rfl (setRow_heap _ _ _ _ _ _ HU5.out) Try.underlying26 rfl sizeWn ⟨rfl, below_setRow HB5.out (by omega) _⟩
  · have hd : d = 1 := HDE.out
    subst hd
    have x1 := HX1.out.cell (i := 1) (v := .int .i64 0) rfl
    have hf := HX1.out.frozen (i := 1)
    obtain ⟨W2, hW2⟩ : ∃ W2, W2 = W1.setCell ⟨w.heap.size + 1 + 1, 1, none⟩ (.int .i64 1) := ⟨_, rfl⟩
    have HB2 := Box.mk (show Below w.heap.size w W2 by rw [hW2]; exact HB1.out.setCell (by show w.heap.size ≤ w.heap.size + 1 + 1; omega) _)
    have HV2 := Box.mk (show VarA W2 w.heap.size #[.int .i64 tot, .int .i64 err, .int .i64 age] 26 by rw [hW2]; exact HV1.out.other (by show w.heap.size ≠ w.heap.size + 1 + 1; omega))
    have HU2 := Box.mk (show VarA W2 (w.heap.size + 1) #[.int .i64 0, .int .i64 0, .int .i64 0] 26 by rw [hW2]; exact HU1.out.other (by show w.heap.size + 1 ≠ w.heap.size + 1 + 1; omega))
    have HX2 := Box.mk (show VarA W2 (w.heap.size + 1 + 1) #[.int .i64 1, .int .i64 1, .int .i64 0] 26 by rw [hW2]; exact HX1.out.set)
    go_upto_region 4 with fail
    change Code.wp _ _ _ _ (W1.setCell ⟨w.heap.size + 1 + 1, 1, none⟩ (.int .i64 1))
    rw [← hW2]
    clear hW2 HB1 HV1 HU1 HX1 x1 hf
    have HMV := Box.mk (show mergeV [⟨tot, err, age⟩, ⟨1, 1, 0⟩] = ⟨t2, e2, 0⟩ by show joinV (joinV ⟨0, 0, 0⟩ ⟨tot, err, age⟩) ⟨1, 1, 0⟩ = _; rw [← HM.out.1, ← HM.out.2]; rfl)
    have HP := Box.mk (winsIn_pair W2 ⟨tot, err, age⟩ ⟨1, 1, 0⟩ HR.out (by unfold Wn.rng i64P; simp only; omega) 26)
    have c0 := HV2.out.cell (i := 0) (v := .int .i64 tot) rfl
    have c1 := HV2.out.cell (i := 1) (v := .int .i64 err) rfl
    have c2 := HV2.out.cell (i := 2) (v := .int .i64 age) rfl
    have x0 := HX2.out.cell (i := 0) (v := .int .i64 1) rfl
    have x1 := HX2.out.cell (i := 1) (v := .int .i64 1) rfl
    have x2 := HX2.out.cell (i := 2) (v := .int .i64 0) rfl
    clear HM HDE HD
    go_wp2_with (refine wpList_slice2Wn rfl rfl ⟨tot, err, age⟩ ⟨1, 1, 0⟩ rfl rfl ?_)
    refine (wMerge_any [⟨tot, err, age⟩, ⟨1, 1, 0⟩] _ 2 _ HP.out (show 2 ≤ 1000000 by decide)).mono ?_
    rintro e w3 ⟨he, hb⟩
    rw [HMV.out] at he
    simp only [Wn.cells] at he
    subst he
    have hb := Box.mk (below_trans (below_oneF W2 _) hb)
    have HB3 := Box.mk (below_trans HB2.out hb.out)
    have HV3 := Box.mk (HV2.out.keep hb.out)
    have HU3 := Box.mk (HU2.out.keep hb.out)
    clear hb HMV HP c0 c1 c2 x0 x1 x2 HB2 HV2 HU2 HX2 HR
    obtain ⟨W4, hW4⟩ : ∃ W4, W4 = (w3.alloc (.cells #[.int .i64 0, .int .i64 0, .int .i64 0] 26)).setRow w3.heap.size #[.int .i64 t2, .int .i64 e2, .int .i64 0] := ⟨_, rfl⟩
    have hlv := HU3.out.lt
    have HB4 := Box.mk (show Below w.heap.size w W4 by rw [hW4]; exact below_setRow (below_trans HB3.out (below_oneF _ _)) (by omega) _)
    have HV4 := Box.mk (show VarA W4 w.heap.size #[.int .i64 tot, .int .i64 err, .int .i64 age] 26 by rw [hW4]; exact (HV3.out.below _).row_other (by omega))
    have HU4 := Box.mk (show VarA W4 (w.heap.size + 1) #[.int .i64 0, .int .i64 0, .int .i64 0] 26 by rw [hW4]; exact (HU3.out.below _).row_other (by omega))
    have HY4 := Box.mk (show VarA W4 w3.heap.size #[.int .i64 t2, .int .i64 e2, .int .i64 0] 26 by rw [hW4]; exact setRow_heap _ _ _ _ _ _ (VarA.new _ _ _))
    go_upto_region 5 with (refine wpList_store_row rfl 26 _ _ rfl w3.heap.size #[.int .i64 t2, .int .i64 e2, .int .i64 0] rfl rfl 26 _ (VarA.new _ _ _) sizeWn rfl (oneWn ..) ?_)
    change Code.wp _ _ _ _ ((w3.alloc (.cells #[.int .i64 0, .int .i64 0, .int .i64 0] 26)).setRow w3.heap.size #[.int .i64 t2, .int .i64 e2, .int .i64 0])
    rw [← hW4]
    clear hW4 HB3 HV3 HU3
    obtain ⟨gz, hgz⟩ : ∃ gz, w3.heap.size = gz := ⟨_, rfl⟩
    rw [hgz] at hlv HY4 ⊢
    clear hgz
    have c2 := HV4.out.cell (i := 2) (v := .int .i64 age) rfl
    have y2 := HY4.out.cell (i := 2) (v := .int .i64 0) rfl
    have hf := HY4.out.frozen (i := 2)
    obtain ⟨W5, hW5⟩ : ∃ W5, W5 = W4.setCell ⟨gz, 2, none⟩ (.int .i64 age) := ⟨_, rfl⟩
    have HB5 := Box.mk (show Below w.heap.size w W5 by rw [hW5]; exact HB4.out.setCell (by show w.heap.size ≤ gz; omega) _)
    have HU5 := Box.mk (show VarA W5 (w.heap.size + 1) #[.int .i64 0, .int .i64 0, .int .i64 0] 26 by rw [hW5]; exact HU4.out.other (by show w.heap.size + 1 ≠ gz; omega))
    have HY5 := Box.mk (show VarA W5 gz #[.int .i64 t2, .int .i64 e2, .int .i64 age] 26 by rw [hW5]; exact HY4.out.set)
    go_upto_region 6 with fail
    change Code.wp _ _ _ _ (W4.setCell ⟨gz, 2, none⟩ (.int .i64 age))
    rw [← hW5]
    clear hW5 HB4 HU4 HY4 HV4 c2 y2 hf
    have y0 := HY5.out.cell (i := 0) (v := .int .i64 t2) rfl
    have y1 := HY5.out.cell (i := 1) (v := .int .i64 e2) rfl
    have y2 := HY5.out.cell (i := 2) (v := .int .i64 age) rfl
    go_wp2_with (refine wpList_store_row rfl 26 _ _ rfl (w.heap.size + 1) #[.int .i64 t2, .int .i64 e2, .int .i64 age] rfl rfl 26 _ HU5.out sizeWn rfl (oneWn ..) ?_)
    (try simp only [Exit.inBlock, Exit.then])
    refine ret_rowQ (cs := #[.int .i64 t2, .int .i64 e2, .int .i64 age]) rfl rfl rfl (setRow_heap _ _ _ _ _ _ HU5.out) Try.underlying26 rfl sizeWn ⟨rfl, below_setRow HB5.out (by omega) _⟩

theorem later_eq (v : Wn) (len : Int) (hl : len ≤ 9223372036854775807) : (tickV v len).1 = if len ≤ addS 9223372036854775807 [v.age, 1] then ⟨0, 0, 0⟩ else ⟨v.tot, v.err, addS 9223372036854775807 [v.age, 1]⟩ := by
  have h : addS 9223372036854775807 [v.age, 1] = min 9223372036854775807 (max v.age 0 + 1) := by
    rw [addS_eq, if_neg (by omega)]; simp only [sumX]; omega
  have h0 : max0 v.age = max v.age 0 := by unfold max0; omega
  rw [h]
  by_cases hc : len ≤ max0 v.age ∨ len ≤ max0 v.age + 1
  · rw [tickV_yes hc, if_pos (by omega)]
  · rw [tickV_no hc, if_neg (by omega), h0]
    show (⟨v.tot, v.err, max v.age 0 + 1⟩ : Wn) = ⟨v.tot, v.err, _⟩
    congr 1
    omega
set_option maxRecDepth 10000 in
set_option maxHeartbeats 4000000 in
theorem wLater_any (v : Wn) (len : Int) (w : World) (h : v.rng) (hl : i64P len) :
    Calls Try.prog 40 #[.agg v.cells, .int .i64 len] w fun e w' => e = .returned (.agg (tickV v len).1.cells) ∧ Below w.heap.size w w' := by
  obtain ⟨s, hs⟩ : ∃ s, (tickV v len).1 = s := ⟨_, rfl⟩
  have HM := Box.mk (later_eq v len hl.2)
  rw [hs] at HM
  rw [hs]
  clear hs
  have HR := Box.mk h
  have HL := Box.mk hl
  clear h hl
  obtain ⟨tot, err, age⟩ := v
  obtain ⟨W, hW⟩ : ∃ W, W = (w.alloc (.cells #[.int .i64 tot, .int .i64 err, .int .i64 age] 26)).alloc (.cells #[.int .i64 0, .int .i64 0, .int .i64 0] 26) := ⟨_, rfl⟩
  have HB := Box.mk (show Below w.heap.size w W by rw [hW]; exact below_twoF (below_oneF w _) _)
  have HV := Box.mk (show VarA W w.heap.size #[.int .i64 tot, .int .i64 err, .int .i64 age] 26 by rw [hW]; exact (VarA.new _ _ _).below _)
  have HU := Box.mk (show VarA W (w.heap.size + 1) #[.int .i64 0, .int .i64 0, .int .i64 0] 26 by rw [hW]; have := VarA.new (w.alloc (.cells #[.int .i64 tot, .int .i64 err, .int .i64 age] 26)) #[.int .i64 0, .int .i64 0, .int .i64 0] 26; rw [World.size_alloc] at this; exact this)
  obtain ⟨A, hA⟩ : ∃ A, addS 9223372036854775807 [age, 1] = A := ⟨_, rfl⟩
  simp only [hA] at HM
  have HA := Box.mk hA
  clear hA
  have HI := Box.mk (isInts_two W age 1 HR.out.2.2 (by unfold i64P; omega) 3)
  unfold Wn.cells
  simp only
  go_enter Try.func40, Try.ntmps40
  go_upto_region 1 with fail
  change Code.wp _ _ _ _ ((w.alloc (.cells #[.int .i64 tot, .int .i64 err, .int .i64 age] 26)).alloc (.cells #[.int .i64 0, .int .i64 0, .int .i64 0] 26))
  rw [← hW]
  clear hW
  have c2 := HV.out.cell (i := 2) (v := .int .i64 age) rfl
  go_wp2_with fail
  refine (numAdd_v 9223372036854775807 age 1 _ _ (by unfold i64P; omega) HI.out).mono ?_
  rintro e w1 ⟨rfl, hw⟩
  have HBz := Box.mk (show Below W.heap.size W w1 by rw [← hw]; exact below_oneF _ _)
  rw [show addS 9223372036854775807 [age, 1] = A from HA.out]
  have HB1 := Box.mk (below_trans HB.out HBz.out)
  have HV1 := Box.mk (HV.out.keep HBz.out)
  have HU1 := Box.mk (HU.out.keep HBz.out)
  clear hw HBz HI c2 HB HV HU HA
  have c2 := HV1.out.cell (i := 2) (v := .int .i64 age) rfl
  have hf := HV1.out.frozen (i := 2)
  obtain ⟨W2, hW2⟩ : ∃ W2, W2 = w1.setCell ⟨w.heap.size, 2, none⟩ (.int .i64 A) := ⟨_, rfl⟩
  have HB2 := Box.mk (show Below w.heap.size w W2 by rw [hW2]; exact HB1.out.setCell (Nat.le_refl _) _)
  have HV2 := Box.mk (show VarA W2 w.heap.size #[.int .i64 tot, .int .i64 err, .int .i64 A] 26 by rw [hW2]; exact HV1.out.set)
  have HU2 := Box.mk (show VarA W2 (w.heap.size + 1) #[.int .i64 0, .int .i64 0, .int .i64 0] 26 by rw [hW2]; exact HU1.out.other (by show w.heap.size + 1 ≠ w.heap.size; omega))
  go_upto_region 2 with fail
  change Code.wp _ _ _ _ (w1.setCell ⟨w.heap.size, 2, none⟩ (.int .i64 A))
  rw [← hW2]
  clear hW2 HB1 HV1 HU1 c2 hf
  have c0 := HV2.out.cell (i := 0) (v := .int .i64 tot) rfl
  have c1 := HV2.out.cell (i := 1) (v := .int .i64 err) rfl
  have c2 := HV2.out.cell (i := 2) (v := .int .i64 A) rfl
  by_cases hc : len ≤ A
  · have HX := Box.mk (show s = ⟨0, 0, 0⟩ by rw [HM.out, if_pos hc])
    have d1 := decide_eq_true hc
    clear HM hc
    go_wp2_with (refine wpList_store_row rfl 26 _ _ rfl (w.heap.size + 1) #[.int .i64 0, .int .i64 0, .int .i64 0] rfl rfl 26 _ HU2.out sizeWn rfl (oneWn ..) ?_)
    (try simp only [Exit.inBlock, Exit.then])
    refine ret_rowQ (cs := #[.int .i64 0, .int .i64 0, .int .i64 0]) rfl rfl rfl (setRow_heap _ _ _ _ _ _ HU2.out) Try.underlying26 rfl sizeWn ⟨by rw [HX.out], below_setRow HB2.out (by omega) _⟩
  · have HX := Box.mk (show s = ⟨tot, err, A⟩ by rw [HM.out, if_neg hc])
    have d1 := decide_eq_false hc
    clear HM hc
    go_wp2_with (refine wpList_store_row rfl 26 _ _ rfl (w.heap.size + 1) #[.int .i64 tot, .int .i64 err, .int .i64 A] rfl rfl 26 _ HU2.out sizeWn rfl (oneWn ..) ?_)
    (try simp only [Exit.inBlock, Exit.then])
    refine ret_rowQ (cs := #[.int .i64 tot, .int .i64 err, .int .i64 A]) rfl rfl rfl (setRow_heap _ _ _ _ _ _ HU2.out) Try.underlying26 rfl sizeWn ⟨by rw [HX.out], below_setRow HB2.out (by omega) _⟩

theorem eq_window0 (n m k : Int) (w : World) : (Op.equalIn Op.maxDepth 26 (.agg #[.int .i64 n, .int .i64 m, .int .i64 k]) (.agg #[.int .i64 0, .int .i64 0, .int .i64 0])).run Try.prog w = .ok (decide (n = 0) && (decide (m = 0) && decide (k = 0))) w := by
  rw [show Op.maxDepth = 9999 + 1 from rfl, run_equalIn_struct w 9999 _ _ _ (by kernel_rfl) (by kernel_rfl)]
  by_cases h1 : n = 0 <;> by_cases h2 : m = 0 <;> by_cases h3 : k = 0 <;> go_simp
theorem loc_eqlWn0 {Q : Exit → Act → World → Prop} {act : Act} {w : World} {o : Oper} {s : Spec} {x y : Operand} {t : TypeId} (ho : o.op = .binOp .eql 26 x y t) {n m k : Int} (hx : act.eval x = .agg #[.int .i64 n, .int .i64 m, .int .i64 k]) (hy : act.eval y = .agg #[.int .i64 0, .int .i64 0, .int .i64 0]) (hs : s.p (.bool (decide (n = 0) && (decide (m = 0) && decide (k = 0)))) w) :
    o.wp Try.prog act w (fun a' w' => ∃ v, a' = act.put o.dst v ∧ Below w.heap.size w w' ∧ s.p v w') Q :=
  loc_run (v := .bool (decide (n = 0) && (decide (m = 0) && decide (k = 0)))) (by
    unfold execOp
    simp only [ho, hx, hy]
    have he := eq_window0 n m k w
    simp [eqGuard, binOp, Op.equal, he]) (Below.refl _ _) hs
theorem tickW_zero (v : Wn) (len : Int) : (tickV v len).2 = (decide ((tickV v len).1.tot = 0) && (decide ((tickV v len).1.err = 0) && decide ((tickV v len).1.age = 0))) := by
  unfold tickV
  split
  · rfl
  · have := max0_ge v.age
    simp only [decide_eq_false (show ¬ max0 v.age + 1 = 0 by omega), Bool.and_false]
def Spec.neverW : Spec := ⟨fun _ _ => False, fun _ _ _ h _ => h⟩
theorem loc_build0Wn {Q : Exit → Act → World → Prop} {act : Act} {w : World} {o : Oper} {s : Spec} (ho : o.op = .build 26 #[]) (hs : s.p (.agg #[.int .i64 0, .int .i64 0, .int .i64 0]) w) :
    o.wp Try.prog act w (fun a' w' => ∃ v, a' = act.put o.dst v ∧ Below w.heap.size w w' ∧ s.p v w') Q := by
  refine loc_run (v := .agg #[.int .i64 0, .int .i64 0, .int .i64 0]) ?_ (Below.refl _ _) hs
  have hb := run_build (P := Try.prog) w 26 #[] #[.int .i64 0, .int .i64 0, .int .i64 0] (by kernel_rfl)
  unfold execOp
  simp only [ho, List.map_toArray, List.map_cons, List.map_nil, Sem.run_bind, hb, Result.andThen_ok, Sem.run_pure]
set_option maxRecDepth 10000 in
set_option maxHeartbeats 4000000 in
theorem wTick_any (v : Wn) (len : Int) (w : World) (h : v.rng) (hl : i64P len) :
    Calls Try.prog 24 #[.agg v.cells, .int .i64 len] w fun e w' => e = .returned (.tuple #[.agg (tickV v len).1.cells, .bool (tickV v len).2]) ∧ Below w.heap.size w w' := by
  obtain ⟨s, hs⟩ : ∃ s, tickV v len = s := ⟨_, rfl⟩
  have HZ := Box.mk (tickW_zero v len)
  rw [hs] at HZ
  rw [hs]
  have HS := Box.mk hs
  have HR := Box.mk h
  have HL := Box.mk hl
  clear hs h hl
  obtain ⟨tot, err, age⟩ := v
  obtain ⟨⟨t2, e2, a2⟩, b⟩ := s
  simp only at HZ
  obtain ⟨W, hW⟩ : ∃ W, W = (w.alloc (.cells #[.int .i64 tot, .int .i64 err, .int .i64 age] 26)).alloc (.cells #[.int .i64 0, .int .i64 0, .int .i64 0] 26) := ⟨_, rfl⟩
  have HB := Box.mk (show Below w.heap.size w W by rw [hW]; exact below_twoF (below_oneF w _) _)
  have HV := Box.mk (show VarA W w.heap.size #[.int .i64 tot, .int .i64 err, .int .i64 age] 26 by rw [hW]; exact (VarA.new _ _ _).below _)
  have HU := Box.mk (show VarA W (w.heap.size + 1) #[.int .i64 0, .int .i64 0, .int .i64 0] 26 by rw [hW]; have := VarA.new (w.alloc (.cells #[.int .i64 tot, .int .i64 err, .int .i64 age] 26)) #[.int .i64 0, .int .i64 0, .int .i64 0] 26; rw [World.size_alloc] at this; exact this)
  unfold Wn.cells
  simp only
  go_enter Try.func24, Try.ntmps24
  go_upto_region 1 with fail
  change Code.wp _ _ _ _ ((w.alloc (.cells #[.int .i64 tot, .int .i64 err, .int .i64 age] 26)).alloc (.cells #[.int .i64 0, .int .i64 0, .int .i64 0] 26))
  rw [← hW]
  clear hW
  have c0 := HV.out.cell (i := 0) (v := .int .i64 tot) rfl
  have c1 := HV.out.cell (i := 1) (v := .int .i64 err) rfl
  have c2 := HV.out.cell (i := 2) (v := .int .i64 age) rfl
  go_wp2_with fail
  refine (wLater_any ⟨tot, err, age⟩ len W HR.out HL.out).mono ?_
  rintro e w1 ⟨he, hb⟩
  rw [HS.out] at he
  simp only [Wn.cells] at he
  subst he
  have HB1 := Box.mk (below_trans HB.out hb)
  have HU1 := Box.mk (HU.out.keep hb)
  clear hb HB HU HV c0 c1 c2 HS HR HL
  have hlu := HU1.out.lt
  obtain ⟨W2, hW2⟩ : ∃ W2, W2 = (w1.alloc (.cells #[.int .i64 0, .int .i64 0, .int .i64 0] 26)).setRow w1.heap.size #[.int .i64 t2, .int .i64 e2, .int .i64 a2] := ⟨_, rfl⟩
  have HB2 := Box.mk (show Below w.heap.size w W2 by rw [hW2]; exact below_setRow (below_trans HB1.out (below_oneF _ _)) (by omega) _)
  have HU2 := Box.mk (show VarA W2 (w.heap.size + 1) #[.int .i64 0, .int .i64 0, .int .i64 0] 26 by rw [hW2]; exact (HU1.out.below _).row_other (by omega))
  have HN2 := Box.mk (show VarA W2 w1.heap.size #[.int .i64 t2, .int .i64 e2, .int .i64 a2] 26 by rw [hW2]; exact setRow_heap _ _ _ _ _ _ (VarA.new _ _ _))
  go_upto_region 2 with (refine wpList_store_row rfl 26 _ _ rfl w1.heap.size #[.int .i64 t2, .int .i64 e2, .int .i64 a2] rfl rfl 26 _ (VarA.new _ _ _) sizeWn rfl (oneWn ..) ?_)
  change Code.wp _ _ _ _ ((w1.alloc (.cells #[.int .i64 0, .int .i64 0, .int .i64 0] 26)).setRow w1.heap.size #[.int .i64 t2, .int .i64 e2, .int .i64 a2])
  rw [← hW2]
  clear hW2 HB1 HU1
  generalize w1.heap.size = gn at *
  rename_i K hK
  refine wp_region_phases [4] (fun ph => match ph with | 0 => [0, 1, 2, 3] | _ => [1, 2, 3, 5])
    (fun ph => match ph with
      | 0 => [.val (.agg #[.int .i64 t2, .int .i64 e2, .int .i64 a2]), .val (.agg #[.int .i64 t2, .int .i64 e2, .int .i64 a2]), .val (.agg #[.int .i64 0, .int .i64 0, .int .i64 0]), .val (.bool b), .any, .neverW]
      | _ => [.any, .val (.agg #[.int .i64 t2, .int .i64 e2, .int .i64 a2]), .val (.agg #[.int .i64 0, .int .i64 0, .int .i64 0]), .val (.bool b), .any, .val (.bool b)])
    (fun ph => match ph with
      | 0 => fun wx => Below W2.heap.size W2 wx
      | _ => fun wx => VarA wx (w.heap.size + 1) #[.int .i64 t2, .int .i64 e2, .int .i64 a2] 26 ∧ VarA wx gn #[.int .i64 t2, .int .i64 e2, .int .i64 a2] 26 ∧ Below w.heap.size w wx)
    (by kernel_rfl) (by kernel_rfl) (by kernel_rfl) (by kernel_rfl) (by kernel_rfl) (by kernel_rfl) ?_ (Below.refl _ _) ?_ ?_ ?_
  · intro ph w6 w7 h hb
    match ph, h with
    | 0, h => exact below_trans h hb
    | (_ + 1), h => exact ⟨h.1.keep hb, h.2.1.keep hb, below_trans h.2.2 hb⟩
  · intro ph hp
    match ph, hp with
    | 0, _ =>
      refine ⟨?_, ?_, ?_, ?_, trivial⟩ <;> intro a' w6 hb hf hd
      · exact ⟨wanted_none rfl, loc_load_rowG rfl (hf.base 6 rfl) (HN2.out.keep hb).row Try.underlying26 rfl sizeWn rfl⟩
      · exact ⟨wanted_none rfl, loc_load_rowG rfl (hf.base 6 rfl) (HN2.out.keep hb).row Try.underlying26 rfl sizeWn rfl⟩
      · exact ⟨wanted_none rfl, loc_build0Wn rfl rfl⟩
      · exact ⟨wanted_none rfl, loc_eqlWn0 rfl (hd 1 rfl) (hd 2 rfl) (by rw [← HZ.out]; rfl)⟩
    | 1, _ =>
      refine ⟨?_, ?_, ?_, ?_, trivial⟩ <;> intro a' w6 hb hf hd
      · exact ⟨wanted_none rfl, loc_load_rowG rfl (hf.base 6 rfl) hb.2.1.row Try.underlying26 rfl sizeWn rfl⟩
      · exact ⟨wanted_none rfl, loc_build0Wn rfl rfl⟩
      · exact ⟨wanted_none rfl, loc_eqlWn0 rfl (hd 1 rfl) (hd 2 rfl) (by rw [← HZ.out]; rfl)⟩
      · exact ⟨wanted_none rfl, loc_assign rfl (hd 3 rfl)⟩
  · intro ph hp
    match ph, hp with
    | 0, _ =>
      intro a' w6 hv hf hd
      refine ⟨wanted_none rfl, wp_store_row 26 _ _ rfl (w.heap.size + 1) #[.int .i64 t2, .int .i64 e2, .int .i64 a2] (hf.base 4 rfl) (hd 0 rfl) 26 _ (HU2.out.keep hv) sizeWn rfl (oneWn ..) ⟨undef, rfl, ?_, trivial, ?_⟩⟩
      · exact ⟨setRow_heap _ _ _ _ _ _ (HU2.out.keep hv), (HN2.out.keep hv).row_other (by omega), below_setRow (below_trans HB2.out hv) (by omega) _⟩
      · exact ⟨.inr fun _ _ _ => trivial, .inr fun _ _ h => h, .inr fun _ _ h => h, .inr fun _ _ h => h, .inl rfl, .inr fun _ _ h => h.elim, trivial⟩
  · intro ax w10 hv hf hh
    have e5 : ax.eval (.tmp 5) = .bool b := hh 5 (by decide)
    (try simp only [Exit.inBlock, Exit.then])
    refine hK _ _ ?_
    rw [fr_putAll hf]
    simp only [putAll, e5]
    have HV := Box.mk hv
    clear hf hh hv e5 hK K HU2 HN2 HB2
    generalize ax.eval (.tmp 10) = t10
    generalize ax.eval (.tmp 11) = t11
    generalize ax.eval (.tmp 12) = t12
    generalize ax.eval (.tmp 13) = t13
    clear ax
    simp only [Act.put, List.setIfInBounds_toArray, List.set_cons_succ, List.set_cons_zero]
    go_wp2_with fail
    (try simp only [Exit.inBlock, Exit.then])
    refine bodyPost_ret (results_row_tmpF rfl _ _ (w.heap.size + 1) _ _ _ _ rfl HV.out.1 Try.underlying26 rfl sizeWn) rfl ?_
    exact ⟨rfl, HV.out.2.2⟩
end Go.Proofs.Ytfjnpegpfmaekaa
namespace Go.Proofs.Ytfjnpegpfmaekaa
open Go.RowKit
set_option linter.unusedSimpArgs false
set_option linter.unusedVariables false

theorem obsV_yes {r : Ro} (b : Bool) (h : r.st = 1) : (obsV r b).cells = #[.int .i64 r.st, .int .i64 r.stage, .int .i64 r.healthy, .int .i64 (smpV r.w b).tot, .int .i64 (smpV r.w b).err, .int .i64 (smpV r.w b).age] := by unfold obsV; rw [if_pos h]; rfl
theorem obsV_no {r : Ro} (b : Bool) (h : ¬ r.st = 1) : obsV r b = r := by unfold obsV; rw [if_neg h]
set_option maxRecDepth 10000 in
set_option maxHeartbeats 2000000 in
theorem rObserve_any (r : Ro) (b : Bool) (w : World) (hr : r.w.rng) :
    Calls Try.prog 30 #[.agg r.cells, .bool b] w fun e w' => e = .returned (.agg (obsV r b).cells) ∧ Below w.heap.size w w' := by
  obtain ⟨cs, hcs⟩ : ∃ x, x = (obsV r b).cells := ⟨_, rfl⟩
  rw [← hcs]
  have HY := Box.mk (fun h => hcs.trans (obsV_yes (r := r) b h))
  have HN := Box.mk (fun h => hcs.trans (congrArg Ro.cells (obsV_no (r := r) b h)))
  clear hcs
  obtain ⟨st, stage, healthy, ⟨tot, err, age⟩⟩ := r
  simp only at hr HY
  have HR := Box.mk hr
  clear hr
  unfold Ro.cells at *
  simp only at *
  obtain ⟨W, hW⟩ : ∃ W, W = ((w.alloc (.cells #[.int .i64 st, .int .i64 stage, .int .i64 healthy, .int .i64 tot, .int .i64 err, .int .i64 age] 28)).alloc (.cells #[.int .i64 0, .int .i64 0, .int .i64 0, .int .i64 0, .int .i64 0, .int .i64 0] 28)) := ⟨_, rfl⟩
  have HB := Box.mk (show Below w.heap.size w W by rw [hW]; exact below_twoF (below_oneF w _) _)
  have HV := Box.mk (show VarA W w.heap.size #[.int .i64 st, .int .i64 stage, .int .i64 healthy, .int .i64 tot, .int .i64 err, .int .i64 age] 28 by rw [hW]; exact (VarA.new w #[.int .i64 st, .int .i64 stage, .int .i64 healthy, .int .i64 tot, .int .i64 err, .int .i64 age] 28).below (.cells #[.int .i64 0, .int .i64 0, .int .i64 0, .int .i64 0, .int .i64 0, .int .i64 0] 28))
  have HU := Box.mk (show VarA W (w.heap.size + 1) #[.int .i64 0, .int .i64 0, .int .i64 0, .int .i64 0, .int .i64 0, .int .i64 0] 28 by rw [hW]; have := VarA.new (w.alloc (.cells #[.int .i64 st, .int .i64 stage, .int .i64 healthy, .int .i64 tot, .int .i64 err, .int .i64 age] 28)) #[.int .i64 0, .int .i64 0, .int .i64 0, .int .i64 0, .int .i64 0, .int .i64 0] 28; rw [World.size_alloc] at this; exact this)
  go_enter Try.func30, Try.ntmps30
  go_upto_region 1 with fail
  change Code.wp _ _ _ _ ((w.alloc (.cells #[.int .i64 st, .int .i64 stage, .int .i64 healthy, .int .i64 tot, .int .i64 err, .int .i64 age] 28)).alloc (.cells #[.int .i64 0, .int .i64 0, .int .i64 0, .int .i64 0, .int .i64 0, .int .i64 0] 28))
  rw [← hW]
  clear hW
  by_cases h1 : st = 1
  · have d1 := beq_i_yes h1
    have HX := Box.mk (HY.out h1)
    clear HY HN h1
    have c0 := HV.out.cell (i := 0) (v := .int .i64 st) rfl
    have c1 := HV.out.cell (i := 1) (v := .int .i64 stage) rfl
    have c2 := HV.out.cell (i := 2) (v := .int .i64 healthy) rfl
    have c3 := HV.out.cell (i := 3) (v := .int .i64 tot) rfl
    have c4 := HV.out.cell (i := 4) (v := .int .i64 err) rfl
    have c5 := HV.out.cell (i := 5) (v := .int .i64 age) rfl
    go_wp2_with fail
    refine (wCount_any ⟨tot, err, age⟩ b W HR.out).mono ?_
    rintro e w1 ⟨he, hb⟩
    generalize smpV ⟨tot, err, age⟩ b = sv at *
    obtain ⟨t2, e2, a2⟩ := sv
    simp only [Wn.cells] at he
    simp only at HX
    subst he
    have HB1 := Box.mk (below_trans HB.out hb)
    have HV1 := Box.mk (HV.out.keep hb)
    have HU1 := Box.mk (HU.out.keep hb)
    clear hb HV HU HB c0 c1 c2 c3 c4 c5 d1
    obtain ⟨W5, hW5⟩ : ∃ W5, W5 = w1.setRow w.heap.size #[.int .i64 st, .int .i64 stage, .int .i64 healthy, .int .i64 t2, .int .i64 e2, .int .i64 a2] := ⟨_, rfl⟩
    have HB5 := Box.mk (show Below w.heap.size w W5 by rw [hW5]; exact below_setRow HB1.out (Nat.le_refl _) _)
    have HV5 := Box.mk (show VarA W5 w.heap.size #[.int .i64 st, .int .i64 stage, .int .i64 healthy, .int .i64 t2, .int .i64 e2, .int .i64 a2] 28 by rw [hW5]; exact setRow_heap _ _ _ _ _ _ HV1.out)
    have HU5 := Box.mk (show VarA W5 (w.heap.size + 1) #[.int .i64 0, .int .i64 0, .int .i64 0, .int .i64 0, .int .i64 0, .int .i64 0] 28 by rw [hW5]; exact HU1.out.row_other (by omega))
    go_upto_region 3 with (refine wpList_store_sub rfl 26 _ _ rfl w.heap.size 3 #[.int .i64 t2, .int .i64 e2, .int .i64 a2] rfl rfl 28 _ #[.int .i64 st, .int .i64 stage, .int .i64 healthy, .int .i64 t2, .int .i64 e2, .int .i64 a2] HV1.out sizeWn (by show 3 + 3 ≤ 6; decide) (oneWn ..) rfl ?_)
    change Code.wp _ _ _ _ (w1.setRow w.heap.size #[.int .i64 st, .int .i64 stage, .int .i64 healthy, .int .i64 t2, .int .i64 e2, .int .i64 a2])
    rw [← hW5]
    clear hW5 HV1 HU1 HB1
    have c0 := HV5.out.cell (i := 0) (v := .int .i64 st) rfl
    have c1 := HV5.out.cell (i := 1) (v := .int .i64 stage) rfl
    have c2 := HV5.out.cell (i := 2) (v := .int .i64 healthy) rfl
    have c3 := HV5.out.cell (i := 3) (v := .int .i64 t2) rfl
    have c4 := HV5.out.cell (i := 4) (v := .int .i64 e2) rfl
    have c5 := HV5.out.cell (i := 5) (v := .int .i64 a2) rfl
    go_wp2_with (refine wpList_store_row rfl 28 _ _ rfl (w.heap.size + 1) #[.int .i64 st, .int .i64 stage, .int .i64 healthy, .int .i64 t2, .int .i64 e2, .int .i64 a2] rfl rfl 28 _ HU5.out sizeRo rfl (oneRo ..) ?_)
    (try simp only [Exit.inBlock, Exit.then])
    refine ret_rowQ (cs := #[.int .i64 st, .int .i64 stage, .int .i64 healthy, .int .i64 t2, .int .i64 e2, .int .i64 a2]) rfl rfl rfl (setRow_heap _ _ _ _ _ _ HU5.out) Try.underlying28 rfl sizeRo ⟨by rw [HX.out], below_setRow HB5.out (by omega) _⟩
  · have d1 := beq_i_no h1
    have HX := Box.mk (HN.out h1)
    clear HY HN h1
    have c0 := HV.out.cell (i := 0) (v := .int .i64 st) rfl
    have c1 := HV.out.cell (i := 1) (v := .int .i64 stage) rfl
    have c2 := HV.out.cell (i := 2) (v := .int .i64 healthy) rfl
    have c3 := HV.out.cell (i := 3) (v := .int .i64 tot) rfl
    have c4 := HV.out.cell (i := 4) (v := .int .i64 err) rfl
    have c5 := HV.out.cell (i := 5) (v := .int .i64 age) rfl
    go_wp2_with (refine wpList_store_row rfl 28 _ _ rfl (w.heap.size + 1) #[.int .i64 st, .int .i64 stage, .int .i64 healthy, .int .i64 tot, .int .i64 err, .int .i64 age] rfl rfl 28 _ HU.out sizeRo rfl (oneRo ..) ?_)
    (try simp only [Exit.inBlock, Exit.then])
    refine ret_rowQ (cs := #[.int .i64 st, .int .i64 stage, .int .i64 healthy, .int .i64 tot, .int .i64 err, .int .i64 age]) rfl rfl rfl (setRow_heap _ _ _ _ _ _ HU.out) Try.underlying28 rfl sizeRo ⟨by rw [HX.out], below_setRow HB.out (by omega) _⟩

def advR (r : Ro) (p : Pl) : Ro := if r.healthy + 1 = p.hold then (if r.stage + 1 = p.ws.length then roS 2 else ⟨r.st, r.stage + 1, 0, r.w⟩) else ⟨r.st, r.stage, r.healthy + 1, r.w⟩
set_option maxRecDepth 10000 in
set_option maxHeartbeats 4000000 in
theorem rAdvance_any (r : Ro) (p : Pl) (a : Option Addr) (c : Nat) (w : World) (h : IsInts w a p.ws c) (hlen : p.ws.length ≤ 8) (h0 : -9223372036854775808 ≤ r.stage) (hs : r.stage < p.ws.length) (hh0 : -9223372036854775808 ≤ r.healthy) (hh : r.healthy ≤ 1000000) :
    Calls Try.prog 41 #[.agg r.cells, PlV a c p] w fun e w' => e = .returned (.agg (advR r p).cells) ∧ Below w.heap.size w w' := by
  obtain ⟨cs, hcs⟩ : ∃ x, x = (advR r p).cells := ⟨_, rfl⟩
  rw [← hcs]
  obtain ⟨st, stage, healthy, ⟨tot, err, age⟩⟩ := r
  simp only at h0 hs hh0 hh
  have HC := Box.mk hcs
  clear hcs
  unfold Ro.cells
  simp only
  obtain ⟨W, hW⟩ : ∃ W, W = (((w.alloc (.cells #[.int .i64 st, .int .i64 stage, .int .i64 healthy, .int .i64 tot, .int .i64 err, .int .i64 age] 28)).alloc (.cells (PlC a c p) 30)).alloc (.cells #[.int .i64 0, .int .i64 0, .int .i64 0, .int .i64 0, .int .i64 0, .int .i64 0] 28)) := ⟨_, rfl⟩
  have HB := Box.mk (show Below w.heap.size w W by rw [hW]; exact below_twoF (below_twoF (below_oneF w _) _) _)
  have HV := Box.mk (show VarA W w.heap.size #[.int .i64 st, .int .i64 stage, .int .i64 healthy, .int .i64 tot, .int .i64 err, .int .i64 age] 28 by rw [hW]; exact ((VarA.new w #[.int .i64 st, .int .i64 stage, .int .i64 healthy, .int .i64 tot, .int .i64 err, .int .i64 age] 28).below (.cells (PlC a c p) 30)).below (.cells #[.int .i64 0, .int .i64 0, .int .i64 0, .int .i64 0, .int .i64 0, .int .i64 0] 28))
  have HQ := Box.mk (show VarA W (w.heap.size + 1) (PlC a c p) 30 by rw [hW]; have := (VarA.new (w.alloc (.cells #[.int .i64 st, .int .i64 stage, .int .i64 healthy, .int .i64 tot, .int .i64 err, .int .i64 age] 28)) (PlC a c p) 30).below (.cells #[.int .i64 0, .int .i64 0, .int .i64 0, .int .i64 0, .int .i64 0, .int .i64 0] 28); rw [World.size_alloc] at this; exact this)
  have HU := Box.mk (show VarA W (w.heap.size + 2) #[.int .i64 0, .int .i64 0, .int .i64 0, .int .i64 0, .int .i64 0, .int .i64 0] 28 by rw [hW]; have := VarA.new ((w.alloc (.cells #[.int .i64 st, .int .i64 stage, .int .i64 healthy, .int .i64 tot, .int .i64 err, .int .i64 age] 28)).alloc (.cells (PlC a c p) 30)) #[.int .i64 0, .int .i64 0, .int .i64 0, .int .i64 0, .int .i64 0, .int .i64 0] 28; rw [World.size_alloc, World.size_alloc] at this; exact this)
  have HI := Box.mk (h.keepP HB.out)
  clear h
  unfold PlV
  go_enter Try.func41, Try.ntmps41
  go_upto_region 1 with fail
  change Code.wp _ _ _ _ (((w.alloc (.cells #[.int .i64 st, .int .i64 stage, .int .i64 healthy, .int .i64 tot, .int .i64 err, .int .i64 age] 28)).alloc (.cells (PlC a c p) 30)).alloc (.cells #[.int .i64 0, .int .i64 0, .int .i64 0, .int .i64 0, .int .i64 0, .int .i64 0] 28))
  rw [← hW]
  clear hW
  have c2 := HV.out.cell (i := 2) (v := .int .i64 healthy) rfl
  have f2 := HV.out.frozen (i := 2)
  have hmin : min healthy 9223372036854775806 = healthy := by omega
  have hnle : ¬ 9223372036854775806 < healthy := by omega
  have hw2 : wrap64 (healthy + 1) = healthy + 1 := by simp only [wrap64]; omega
  obtain ⟨nh, hnh⟩ : ∃ nh, nh = healthy + 1 := ⟨_, rfl⟩
  rw [← hnh] at hw2
  obtain ⟨W3, hW3⟩ : ∃ W3, W3 = W.setCell ⟨w.heap.size, 2, none⟩ (.int .i64 nh) := ⟨_, rfl⟩
  have HV3 := Box.mk (show VarA W3 w.heap.size #[.int .i64 st, .int .i64 stage, .int .i64 nh, .int .i64 tot, .int .i64 err, .int .i64 age] 28 by rw [hW3]; exact HV.out.set)
  have HQ3 := Box.mk (show VarA W3 (w.heap.size + 1) (PlC a c p) 30 by rw [hW3]; exact HQ.out.other (by show w.heap.size + 1 ≠ w.heap.size; omega))
  have HU3 := Box.mk (show VarA W3 (w.heap.size + 2) #[.int .i64 0, .int .i64 0, .int .i64 0, .int .i64 0, .int .i64 0, .int .i64 0] 28 by rw [hW3]; exact HU.out.other (by show w.heap.size + 2 ≠ w.heap.size; omega))
  have HB3 := Box.mk (show Below w.heap.size w W3 by rw [hW3]; exact HB.out.setCell (Nat.le_refl _) _)
  have HNH := Box.mk hnh
  have HST := Box.mk (And.intro h0 (And.intro hs (And.intro hlen (And.intro hh0 hh))))
  go_upto_region 2 with fail
  rw [← hnh]
  change Code.wp _ _ _ _ (W.setCell ⟨w.heap.size, 2, none⟩ (.int .i64 nh))
  rw [← hW3]
  clear hW3 HV HQ HU HB c2 f2 hmin hnle hw2 hnh h0 hs hlen hh0 hh
  have c0 := HV3.out.cell (i := 0) (v := .int .i64 st) rfl
  have c1 := HV3.out.cell (i := 1) (v := .int .i64 stage) rfl
  have c2 := HV3.out.cell (i := 2) (v := .int .i64 nh) rfl
  have c3 := HV3.out.cell (i := 3) (v := .int .i64 tot) rfl
  have c4 := HV3.out.cell (i := 4) (v := .int .i64 err) rfl
  have c5 := HV3.out.cell (i := 5) (v := .int .i64 age) rfl
  have q0 := HQ3.out.cell (i := 0) (v := .slice a p.ws.length c) rfl
  have q1 := HQ3.out.cell (i := 1) (v := .int .i64 p.ms) rfl
  have q2 := HQ3.out.cell (i := 2) (v := .int .i64 p.num) rfl
  have q3 := HQ3.out.cell (i := 3) (v := .int .i64 p.den) rfl
  have q4 := HQ3.out.cell (i := 4) (v := .int .i64 p.hold) rfl
  have q5 := HQ3.out.cell (i := 5) (v := .int .i64 p.win) rfl
  by_cases h1 : nh = p.hold
  · have d1 := bne_i_no h1
    by_cases h2 : stage + 1 = p.ws.length
    · have HX := Box.mk (show cs = #[.int .i64 2, .int .i64 0, .int .i64 0, .int .i64 0, .int .i64 0, .int .i64 0] by rw [HC.out]; unfold advR; simp only; rw [if_pos (by rw [← HNH.out]; exact h1), if_pos h2]; rfl)
      have d2 : decide ((p.ws.length : Int) - 1 ≤ stage) = true := decide_eq_true (by omega)
      have w2 : wrap64 ((p.ws.length : Int) - 1) = (p.ws.length : Int) - 1 := by have := HST.out.2.2.1; simp only [wrap64]; omega
      clear h1 h2 HC
      go_wp2_with (refine wpList_store_row rfl 28 _ _ rfl (w.heap.size + 2) #[.int .i64 2, .int .i64 0, .int .i64 0, .int .i64 0, .int .i64 0, .int .i64 0] rfl rfl 28 _ HU3.out sizeRo rfl (oneRo ..) ?_)
      (try simp only [Exit.inBlock, Exit.then])
      refine ret_rowQ (cs := #[.int .i64 2, .int .i64 0, .int .i64 0, .int .i64 0, .int .i64 0, .int .i64 0]) rfl rfl rfl (setRow_heap _ _ _ _ _ _ HU3.out) Try.underlying28 rfl sizeRo ⟨by rw [HX.out], below_setRow HB3.out (by omega) _⟩
    · obtain ⟨ns, hns⟩ : ∃ ns, ns = stage + 1 := ⟨_, rfl⟩
      have HX := Box.mk (show cs = #[.int .i64 st, .int .i64 ns, .int .i64 0, .int .i64 tot, .int .i64 err, .int .i64 age] by rw [HC.out]; unfold advR; simp only; rw [if_pos (by rw [← HNH.out]; exact h1), if_neg h2, hns]; rfl)
      have d2 : decide ((p.ws.length : Int) - 1 ≤ stage) = false := decide_eq_false (by have := HST.out.2.1; omega)
      have w2 : wrap64 ((p.ws.length : Int) - 1) = (p.ws.length : Int) - 1 := by have := HST.out.2.2.1; simp only [wrap64]; omega
      have w3 : wrap64 (stage + 1) = ns := by have := HST.out; rw [hns]; simp only [wrap64]; omega
      clear h1 h2 HC hns
      have f1 := HV3.out.frozen (i := 1)
      obtain ⟨W4, hW4⟩ : ∃ W4, W4 = W3.setCell ⟨w.heap.size, 1, none⟩ (.int .i64 ns) := ⟨_, rfl⟩
      have HV4 := Box.mk (show VarA W4 w.heap.size #[.int .i64 st, .int .i64 ns, .int .i64 nh, .int .i64 tot, .int .i64 err, .int .i64 age] 28 by rw [hW4]; exact HV3.out.set)
      have HU4 := Box.mk (show VarA W4 (w.heap.size + 2) #[.int .i64 0, .int .i64 0, .int .i64 0, .int .i64 0, .int .i64 0, .int .i64 0] 28 by rw [hW4]; exact HU3.out.other (by show w.heap.size + 2 ≠ w.heap.size; omega))
      have HB4 := Box.mk (show Below w.heap.size w W4 by rw [hW4]; exact HB3.out.setCell (Nat.le_refl _) _)
      go_upto_region 7 with fail
      change Code.wp _ _ _ _ (W3.setCell ⟨w.heap.size, 1, none⟩ (.int .i64 ns))
      rw [← hW4]
      clear hW4 HV3 HQ3 HU3 HB3 c0 c1 c2 c3 c4 c5 q0 q1 q2 q3 q4 q5 f1 w3 w2 d2
      have c2 := HV4.out.cell (i := 2) (v := .int .i64 nh) rfl
      have f2 := HV4.out.frozen (i := 2)
      obtain ⟨W5, hW5⟩ : ∃ W5, W5 = W4.setCell ⟨w.heap.size, 2, none⟩ (.int .i64 0) := ⟨_, rfl⟩
      have HV5 := Box.mk (show VarA W5 w.heap.size #[.int .i64 st, .int .i64 ns, .int .i64 0, .int .i64 tot, .int .i64 err, .int .i64 age] 28 by rw [hW5]; exact HV4.out.set)
      have HU5 := Box.mk (show VarA W5 (w.heap.size + 2) #[.int .i64 0, .int .i64 0, .int .i64 0, .int .i64 0, .int .i64 0, .int .i64 0] 28 by rw [hW5]; exact HU4.out.other (by show w.heap.size + 2 ≠ w.heap.size; omega))
      have HB5 := Box.mk (show Below w.heap.size w W5 by rw [hW5]; exact HB4.out.setCell (Nat.le_refl _) _)
      go_upto_region 8 with fail
      change Code.wp _ _ _ _ (W4.setCell ⟨w.heap.size, 2, none⟩ (.int .i64 0))
      rw [← hW5]
      clear hW5 HV4 HU4 HB4 c2 f2
      have c0 := HV5.out.cell (i := 0) (v := .int .i64 st) rfl
      have c1 := HV5.out.cell (i := 1) (v := .int .i64 ns) rfl
      have c2 := HV5.out.cell (i := 2) (v := .int .i64 0) rfl
      have c3 := HV5.out.cell (i := 3) (v := .int .i64 tot) rfl
      have c4 := HV5.out.cell (i := 4) (v := .int .i64 err) rfl
      have c5 := HV5.out.cell (i := 5) (v := .int .i64 age) rfl
      go_wp2_with (refine wpList_store_row rfl 28 _ _ rfl (w.heap.size + 2) #[.int .i64 st, .int .i64 ns, .int .i64 0, .int .i64 tot, .int .i64 err, .int .i64 age] rfl rfl 28 _ HU5.out sizeRo rfl (oneRo ..) ?_)
      (try simp only [Exit.inBlock, Exit.then])
      refine ret_rowQ (cs := #[.int .i64 st, .int .i64 ns, .int .i64 0, .int .i64 tot, .int .i64 err, .int .i64 age]) rfl rfl rfl (setRow_heap _ _ _ _ _ _ HU5.out) Try.underlying28 rfl sizeRo ⟨by rw [HX.out], below_setRow HB5.out (by omega) _⟩
  · have d1 := bne_i_yes h1
    have HX := Box.mk (show cs = #[.int .i64 st, .int .i64 stage, .int .i64 nh, .int .i64 tot, .int .i64 err, .int .i64 age] by rw [HC.out]; unfold advR; simp only; rw [if_neg (by rw [← HNH.out]; exact h1), HNH.out]; rfl)
    clear h1 HC
    go_wp2_with (refine wpList_store_row rfl 28 _ _ rfl (w.heap.size + 2) #[.int .i64 st, .int .i64 stage, .int .i64 nh, .int .i64 tot, .int .i64 err, .int .i64 age] rfl rfl 28 _ HU3.out sizeRo rfl (oneRo ..) ?_)
    (try simp only [Exit.inBlock, Exit.then])
    refine ret_rowQ (cs := #[.int .i64 st, .int .i64 stage, .int .i64 nh, .int .i64 tot, .int .i64 err, .int .i64 age]) rfl rfl rfl (setRow_heap _ _ _ _ _ _ HU3.out) Try.underlying28 rfl sizeRo ⟨by rw [HX.out], below_setRow HB3.out (by omega) _⟩

def judgeR (r : Ro) (p : Pl) (v : Int) : Ro := if v = 3 then roS 3 else if v = 1 then ⟨r.st, r.stage, 0, r.w⟩ else if v = 2 then advR r p else r
set_option maxRecDepth 10000 in
set_option maxHeartbeats 4000000 in
theorem rJudge_any (r : Ro) (p : Pl) (v : Int) (a : Option Addr) (c : Nat) (w : World) (h : IsInts w a p.ws c) (hlen : p.ws.length ≤ 8) (h0 : -9223372036854775808 ≤ r.stage) (hs : r.stage < p.ws.length) (hh0 : -9223372036854775808 ≤ r.healthy) (hh : r.healthy ≤ 1000000) :
    Calls Try.prog 25 #[.agg r.cells, PlV a c p, .int .i64 v] w fun e w' => e = .returned (.agg (judgeR r p v).cells) ∧ Below w.heap.size w w' := by
  obtain ⟨cs, hcs⟩ : ∃ x, x = (judgeR r p v).cells := ⟨_, rfl⟩
  rw [← hcs]
  have HST := Box.mk (And.intro h0 (And.intro hs (And.intro hlen (And.intro hh0 hh))))
  have HC := Box.mk hcs
  clear hcs h0 hs hlen hh0 hh
  obtain ⟨st, stage, healthy, ⟨tot, err, age⟩⟩ := r
  simp only at HST
  unfold Ro.cells
  simp only
  obtain ⟨W, hW⟩ : ∃ W, W = (((w.alloc (.cells #[.int .i64 st, .int .i64 stage, .int .i64 healthy, .int .i64 tot, .int .i64 err, .int .i64 age] 28)).alloc (.cells (PlC a c p) 30)).alloc (.cells #[.int .i64 0, .int .i64 0, .int .i64 0, .int .i64 0, .int .i64 0, .int .i64 0] 28)) := ⟨_, rfl⟩
  have HB := Box.mk (show Below w.heap.size w W by rw [hW]; exact below_twoF (below_twoF (below_oneF w _) _) _)
  have HV := Box.mk (show VarA W w.heap.size #[.int .i64 st, .int .i64 stage, .int .i64 healthy, .int .i64 tot, .int .i64 err, .int .i64 age] 28 by rw [hW]; exact ((VarA.new w #[.int .i64 st, .int .i64 stage, .int .i64 healthy, .int .i64 tot, .int .i64 err, .int .i64 age] 28).below (.cells (PlC a c p) 30)).below (.cells #[.int .i64 0, .int .i64 0, .int .i64 0, .int .i64 0, .int .i64 0, .int .i64 0] 28))
  have HQ := Box.mk (show VarA W (w.heap.size + 1) (PlC a c p) 30 by rw [hW]; have := (VarA.new (w.alloc (.cells #[.int .i64 st, .int .i64 stage, .int .i64 healthy, .int .i64 tot, .int .i64 err, .int .i64 age] 28)) (PlC a c p) 30).below (.cells #[.int .i64 0, .int .i64 0, .int .i64 0, .int .i64 0, .int .i64 0, .int .i64 0] 28); rw [World.size_alloc] at this; exact this)
  have HU := Box.mk (show VarA W (w.heap.size + 2) #[.int .i64 0, .int .i64 0, .int .i64 0, .int .i64 0, .int .i64 0, .int .i64 0] 28 by rw [hW]; have := VarA.new ((w.alloc (.cells #[.int .i64 st, .int .i64 stage, .int .i64 healthy, .int .i64 tot, .int .i64 err, .int .i64 age] 28)).alloc (.cells (PlC a c p) 30)) #[.int .i64 0, .int .i64 0, .int .i64 0, .int .i64 0, .int .i64 0, .int .i64 0] 28; rw [World.size_alloc, World.size_alloc] at this; exact this)
  have HI := Box.mk (h.keepP HB.out)
  clear h
  unfold PlV
  go_enter Try.func25, Try.ntmps25
  go_upto_region 1 with fail
  change Code.wp _ _ _ _ (((w.alloc (.cells #[.int .i64 st, .int .i64 stage, .int .i64 healthy, .int .i64 tot, .int .i64 err, .int .i64 age] 28)).alloc (.cells (PlC a c p) 30)).alloc (.cells #[.int .i64 0, .int .i64 0, .int .i64 0, .int .i64 0, .int .i64 0, .int .i64 0] 28))
  rw [← hW]
  clear hW
  have c0 := HV.out.cell (i := 0) (v := .int .i64 st) rfl
  have c1 := HV.out.cell (i := 1) (v := .int .i64 stage) rfl
  have c2 := HV.out.cell (i := 2) (v := .int .i64 healthy) rfl
  have c3 := HV.out.cell (i := 3) (v := .int .i64 tot) rfl
  have c4 := HV.out.cell (i := 4) (v := .int .i64 err) rfl
  have c5 := HV.out.cell (i := 5) (v := .int .i64 age) rfl
  have q0 := HQ.out.cell (i := 0) (v := .slice a p.ws.length c) rfl
  have q1 := HQ.out.cell (i := 1) (v := .int .i64 p.ms) rfl
  have q2 := HQ.out.cell (i := 2) (v := .int .i64 p.num) rfl
  have q3 := HQ.out.cell (i := 3) (v := .int .i64 p.den) rfl
  have q4 := HQ.out.cell (i := 4) (v := .int .i64 p.hold) rfl
  have q5 := HQ.out.cell (i := 5) (v := .int .i64 p.win) rfl
  by_cases h3 : v = 3
  · have e3 := beq_i_yes h3
    have HX := Box.mk (show cs = #[.int .i64 3, .int .i64 0, .int .i64 0, .int .i64 0, .int .i64 0, .int .i64 0] by rw [HC.out]; unfold judgeR; rw [if_pos h3]; rfl)
    clear h3 HC
    go_wp2_with (refine wpList_store_row rfl 28 _ _ rfl (w.heap.size + 2) #[.int .i64 3, .int .i64 0, .int .i64 0, .int .i64 0, .int .i64 0, .int .i64 0] rfl rfl 28 _ HU.out sizeRo rfl (oneRo ..) ?_)
    (try simp only [Exit.inBlock, Exit.then])
    refine ret_rowQ (cs := #[.int .i64 3, .int .i64 0, .int .i64 0, .int .i64 0, .int .i64 0, .int .i64 0]) rfl rfl rfl (setRow_heap _ _ _ _ _ _ HU.out) Try.underlying28 rfl sizeRo ⟨by rw [HX.out], below_setRow HB.out (by omega) _⟩
  · have e3 := beq_i_no h3
    by_cases h1 : v = 1
    · have e1 := beq_i_yes h1
      have HX := Box.mk (show cs = #[.int .i64 st, .int .i64 stage, .int .i64 0, .int .i64 tot, .int .i64 err, .int .i64 age] by rw [HC.out]; unfold judgeR; rw [if_neg h3, if_pos h1]; rfl)
      clear h3 h1 HC
      have f2 := HV.out.frozen (i := 2)
      obtain ⟨W5, hW5⟩ : ∃ W5, W5 = W.setCell ⟨w.heap.size, 2, none⟩ (.int .i64 0) := ⟨_, rfl⟩
      have HV5 := Box.mk (show VarA W5 w.heap.size #[.int .i64 st, .int .i64 stage, .int .i64 0, .int .i64 tot, .int .i64 err, .int .i64 age] 28 by rw [hW5]; exact HV.out.set)
      have HU5 := Box.mk (show VarA W5 (w.heap.size + 2) #[.int .i64 0, .int .i64 0, .int .i64 0, .int .i64 0, .int .i64 0, .int .i64 0] 28 by rw [hW5]; exact HU.out.other (by show w.heap.size + 2 ≠ w.heap.size; omega))
      have HB5 := Box.mk (show Below w.heap.size w W5 by rw [hW5]; exact HB.out.setCell (Nat.le_refl _) _)
      go_upto_region 8 with fail
      change Code.wp _ _ _ _ (W.setCell ⟨w.heap.size, 2, none⟩ (.int .i64 0))
      rw [← hW5]
      clear hW5 HV HU HB f2 c0 c1 c2 c3 c4 c5
      have c0 := HV5.out.cell (i := 0) (v := .int .i64 st) rfl
      have c1 := HV5.out.cell (i := 1) (v := .int .i64 stage) rfl
      have c2 := HV5.out.cell (i := 2) (v := .int .i64 0) rfl
      have c3 := HV5.out.cell (i := 3) (v := .int .i64 tot) rfl
      have c4 := HV5.out.cell (i := 4) (v := .int .i64 err) rfl
      have c5 := HV5.out.cell (i := 5) (v := .int .i64 age) rfl
      go_wp2_with (refine wpList_store_row rfl 28 _ _ rfl (w.heap.size + 2) #[.int .i64 st, .int .i64 stage, .int .i64 0, .int .i64 tot, .int .i64 err, .int .i64 age] rfl rfl 28 _ HU5.out sizeRo rfl (oneRo ..) ?_)
      (try simp only [Exit.inBlock, Exit.then])
      refine ret_rowQ (cs := #[.int .i64 st, .int .i64 stage, .int .i64 0, .int .i64 tot, .int .i64 err, .int .i64 age]) rfl rfl rfl (setRow_heap _ _ _ _ _ _ HU5.out) Try.underlying28 rfl sizeRo ⟨by rw [HX.out], below_setRow HB5.out (by omega) _⟩
    · have e1 := beq_i_no h1
      by_cases h2 : v = 2
      · have e2 := beq_i_yes h2
        have HX := Box.mk (show cs = (advR ⟨st, stage, healthy, ⟨tot, err, age⟩⟩ p).cells by rw [HC.out]; unfold judgeR; rw [if_neg h3, if_neg h1, if_pos h2])
        clear h3 h1 h2 HC
        go_wp2_with fail
        change Calls _ _ #[.agg (Ro.cells ⟨st, stage, healthy, ⟨tot, err, age⟩⟩), PlV a c p] _ _
        refine (rAdvance_any _ p a c W HI.out HST.out.2.2.1 HST.out.1 HST.out.2.1 HST.out.2.2.2.1 HST.out.2.2.2.2).mono ?_
        rintro e w1 ⟨he, hb⟩
        rw [← HX.out] at he
        generalize advR ⟨st, stage, healthy, ⟨tot, err, age⟩⟩ p = z at *
        obtain ⟨z1, z2, z3, ⟨z4, z5, z6⟩⟩ := z
        have HX := Box.mk (show cs = #[.int .i64 z1, .int .i64 z2, .int .i64 z3, .int .i64 z4, .int .i64 z5, .int .i64 z6] from HX.out)
        rw [HX.out] at he
        subst he
        have HB1 := Box.mk (below_trans HB.out hb)
        have HU1 := Box.mk (HU.out.keep hb)
        clear hb HV HU HB HQ c0 c1 c2 c3 c4 c5 q0 q1 q2 q3 q4 q5
        go_wp2_with (refine wpList_store_row rfl 28 _ _ rfl (w.heap.size + 2) #[.int .i64 z1, .int .i64 z2, .int .i64 z3, .int .i64 z4, .int .i64 z5, .int .i64 z6] rfl rfl 28 _ HU1.out sizeRo rfl (oneRo ..) ?_)
        (try simp only [Exit.inBlock, Exit.then])
        refine ret_rowQ (cs := #[.int .i64 z1, .int .i64 z2, .int .i64 z3, .int .i64 z4, .int .i64 z5, .int .i64 z6]) rfl rfl rfl (setRow_heap _ _ _ _ _ _ HU1.out) Try.underlying28 rfl sizeRo ⟨by rw [HX.out], below_setRow HB1.out (by omega) _⟩
      · have e2 := beq_i_no h2
        have HX := Box.mk (show cs = #[.int .i64 st, .int .i64 stage, .int .i64 healthy, .int .i64 tot, .int .i64 err, .int .i64 age] by rw [HC.out]; unfold judgeR; rw [if_neg h3, if_neg h1, if_neg h2]; rfl)
        clear h3 h1 h2 HC
        go_wp2_with (refine wpList_store_row rfl 28 _ _ rfl (w.heap.size + 2) #[.int .i64 st, .int .i64 stage, .int .i64 healthy, .int .i64 tot, .int .i64 err, .int .i64 age] rfl rfl 28 _ HU.out sizeRo rfl (oneRo ..) ?_)
        (try simp only [Exit.inBlock, Exit.then])
        refine ret_rowQ (cs := #[.int .i64 st, .int .i64 stage, .int .i64 healthy, .int .i64 tot, .int .i64 err, .int .i64 age]) rfl rfl rfl (setRow_heap _ _ _ _ _ _ HU.out) Try.underlying28 rfl sizeRo ⟨by rw [HX.out], below_setRow HB.out (by omega) _⟩
end Go.Proofs.Ytfjnpegpfmaekaa
