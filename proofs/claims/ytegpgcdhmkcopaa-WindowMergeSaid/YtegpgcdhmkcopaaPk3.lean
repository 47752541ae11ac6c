/- The law WindowMerge. -/
import Derived.Test.YtegpgcdhmkcopaaPk1
import Derived.Test.YtegpgcdhmkcopaaPk2
import Derived.Test.YtegpgcdhmkcopaaRows
import Derived.WalkKit
import Derived.WalkSpells
import Derived.WalkLawsBesides
import Derived.BigQuiet
import Derived.Deep.QuietTactic
import Derived.Lib.Bytealg
import Derived.Lib.IndexLaws
import Derived.Lib.Hide
import Derived.Laws.IdiomStrings
import Derived.Lib.SlTrimSet
import Derived.Lib.IndexBytes
import Derived.Lib.Split
import Derived.Deep.AppendLies
import Derived.Shelf.LaysM
import Derived.Test.YtegpgcdhmkcopaaProg
import Derived.Shelf.Strings.SlTrimAscii
import Derived.Lib.SplitLaws
import Derived.Shelf.Strings.SplitShaped
import Derived.WalkSmall
import Derived.ProofKit
import Derived.OpenShut
import Derived.Lib.Strings
import Derived.SliceStrings
import Derived.Deep.Quiet
import Derived.Tactics
import Derived.KernelRfl
import Derived.Below
import Derived.Laws.Bits64
import Derived.Lib.SlBytesConst
import Derived.Maps.AppendAt
import Derived.Laws.AppendOwnNone
import Derived.Great.BuildSlice
import Derived.Laws.Rows
import Derived.Laws.BitsAllLaws
import Derived.Laws.Shifts
import Derived.Maps.OwnOps
import Derived.Maps.OwnSet
import Derived.Deep.SlicePairs
import Derived.Lib.AppendZerosOnto
import Derived.Lib.AppendStr
import Derived.Laws.CopyOwn
import Derived.OwnWalk
import Derived.Laws.Strings3
import Derived.Laws.Concat
import Derived.Lib.ItoaMem
import Derived.Deep.DeepCutAuto
import Derived.Deep.CutBlock
import Derived.Laws.Tables
import Derived.Deep.Matrix
import Derived.IntWalk
import Derived.Laws.RangeAny
import Derived.Sort.Grow
import Derived.Lib.LaidTab
import Derived.LaidSub
import Derived.Laws.Bits64b
import Derived.Deep.WholeRow
import Derived.StillTailTactics
import Derived.Lib.ConvBytes
namespace Go.Proofs.Ytegpgcdhmkcopaa
open Go.RowKit
set_option linter.unusedSimpArgs false

theorem smp_nat (b : Bool) : ∃ d : Nat, d ≤ 1 ∧ ∀ i e : Nat, i ≤ 1000 → e ≤ 1000 → smpV ⟨(i : Int), (e : Int), 0⟩ b = ⟨((i + 1 : Nat) : Int), ((e + d : Nat) : Int), 0⟩ := by
  refine ⟨if b = true then 1 else 0, by split <;> decide, fun i e hi he => ?_⟩
  cases b
  · show (⟨cnt1 i, cnt0 e, 0⟩ : Wn) = _
    rw [cnt1_nn (n := (i : Int)) (by omega) (by omega), cnt0_nn (by omega) (by omega), if_neg (by omega)]
    rfl
  · show (⟨cnt1 i, cnt1 e, 0⟩ : Wn) = _
    rw [cnt1_nn (n := (i : Int)) (by omega) (by omega), cnt1_nn (n := (e : Int)) (by omega) (by omega), if_neg (show ¬ (i : Int) = 1000000000 by omega), if_neg (show ¬ (e : Int) = 1000000000 by omega)]
    rfl
theorem count_v (i e d : Nat) (y : Bool) (w : World) (h : ∀ i e : Nat, i ≤ 1000 → e ≤ 1000 → smpV ⟨(i : Int), (e : Int), 0⟩ y = ⟨((i + 1 : Nat) : Int), ((e + d : Nat) : Int), 0⟩) (hi : i ≤ 1000) (he : e ≤ 1000) :
    Calls Try.prog 11 #[.agg #[.int .i64 ((i : Nat) : Int), .int .i64 ((e : Nat) : Int), .int .i64 0], .bool y] w fun r w' => ∃ v', r = .returned v' ∧ Below w.heap.size w w' ∧ v' = .agg #[.int .i64 ((i + 1 : Nat) : Int), .int .i64 ((e + d : Nat) : Int), .int .i64 0] := by
  refine (wCount_any ⟨(i : Int), (e : Int), 0⟩ y w (by unfold Wn.rng i64P; simp only; omega)).mono ?_
  rintro r w' ⟨rfl, hb⟩
  rw [h i e hi he]
  exact ⟨_, rfl, hb, rfl⟩
theorem merge_two {i1 e1 i2 e2 i e : Nat} (h : i = i1 + i2 ∧ e = e1 + e2) (hi : i ≤ 1000) (he : e ≤ 1000) :
    mergeV [⟨(i1 : Int), (e1 : Int), 0⟩, ⟨(i2 : Int), (e2 : Int), 0⟩] = ⟨(i : Int), (e : Int), 0⟩ ∧ mergeV [⟨(i2 : Int), (e2 : Int), 0⟩, ⟨(i1 : Int), (e1 : Int), 0⟩] = ⟨(i : Int), (e : Int), 0⟩ := by
  obtain ⟨rfl, rfl⟩ := h
  have key : ∀ a b c d : Nat, a + c ≤ 1000 → b + d ≤ 1000 → mergeV [⟨(a : Int), (b : Int), 0⟩, ⟨(c : Int), (d : Int), 0⟩] = ⟨((a + c : Nat) : Int), ((b + d : Nat) : Int), 0⟩ := by
    intro a b c d h1 h2
    show joinV (joinV ⟨0, 0, 0⟩ ⟨(a : Int), (b : Int), 0⟩) ⟨(c : Int), (d : Int), 0⟩ = _
    unfold joinV
    simp only
    rw [addMx_nn (x := 0) (y := (a : Int)) (by omega) (by omega) (by omega), addMx_nn (x := 0) (y := (b : Int)) (by omega) (by omega) (by omega), addMx_nn (by omega) (by omega) (by omega), addMx_nn (by omega) (by omega) (by omega)]
    rw [Int.zero_add, Int.zero_add, Int.natCast_add, Int.natCast_add]
  exact ⟨key _ _ _ _ hi he, by rw [key _ _ _ _ (by omega) (by omega), Nat.add_comm i2, Nat.add_comm e2]⟩

/-- A slice of windows, wherever it lies. -/
def Spec.winsX (l : List Wn) : Spec := ⟨fun v w => ∃ a c, v = .slice a l.length c ∧ WinsIn w a l, fun _ _ _ h hb => by
  obtain ⟨a, c, h1, h2⟩ := h
  exact ⟨a, c, h1, h2.keep hb⟩⟩
theorem eq_window (n m k : Int) (w : World) : (Op.equalIn Op.maxDepth 23 (.agg #[.int .i64 n, .int .i64 m, .int .i64 k]) (.agg #[.int .i64 n, .int .i64 m, .int .i64 k])).run Try.prog w = .ok true w := by
  rw [show Op.maxDepth = 9999 + 1 from rfl, run_equalIn_struct w 9999 _ _ _ (by kernel_rfl) (by kernel_rfl)]
  go_simp
section
variable {Q : Exit → Act → World → Prop} {act : Act} {w : World} {o : Oper} {s : Spec}
theorem loc_eqlWn {x y : Operand} {t : TypeId} (ho : o.op = .binOp .eql 23 x y t) {n m k : Int} (hx : act.eval x = .agg #[.int .i64 n, .int .i64 m, .int .i64 k]) (hy : act.eval y = .agg #[.int .i64 n, .int .i64 m, .int .i64 k]) (hs : s.p (.bool true) w) :
    o.wp Try.prog act w (fun a' w' => ∃ v, a' = act.put o.dst v ∧ Below w.heap.size w w' ∧ s.p v w') Q :=
  loc_run (v := .bool true) (by
    unfold execOp
    simp only [ho, hx, hy]
    have he := eq_window n m k w
    simp [eqGuard, binOp, Op.equal, he]) (Below.refl _ _) hs
theorem loc_slice2Wn {x y : Operand} (ho : o.op = .buildSlice 29 2 #[(0, x), (1, y)]) {f g : Wn} (hx : act.eval x = .agg #[.int .i64 f.tot, .int .i64 f.err, .int .i64 f.age]) (hy : act.eval y = .agg #[.int .i64 g.tot, .int .i64 g.err, .int .i64 g.age]) (hf : f.rng) (hg : g.rng) (hs : ∀ v w', (∃ a c, v = .slice a 2 c ∧ WinsIn w' a [f, g]) → s.p v w') :
    o.wp Try.prog act w (fun a' w' => ∃ v, a' = act.put o.dst v ∧ Below w.heap.size w w' ∧ s.p v w') Q := by
  obtain ⟨i0, hi, hz0, hz1, hz2⟩ := info_parts Try.info23
  have hrun := run_buildSlice (P := Try.prog) w 29 23 2 #[(0, .agg #[.int .i64 f.tot, .int .i64 f.err, .int .i64 f.age]), (1, .agg #[.int .i64 g.tot, .int .i64 g.err, .int .i64 g.age])] #[.int .i64 f.tot, .int .i64 f.err, .int .i64 f.age, .int .i64 g.tot, .int .i64 g.err, .int .i64 g.age] i0 _ Try.underlying29 hi hz0 (by rw [hz1]; decide) (by rw [hz1]; decide) (by rw [hz1]; simp [Instr.fill, Value.cells, Array.range_succ, show Array.range 0 = #[] from rfl])
  refine loc_run (v := .slice (some ⟨w.heap.size, 0, none⟩) 2 2) (w' := w.alloc (.cells #[.int .i64 f.tot, .int .i64 f.err, .int .i64 f.age, .int .i64 g.tot, .int .i64 g.err, .int .i64 g.age] 23)) ?_ (below_oneF _ _) (hs _ _ ⟨_, _, rfl, winsIn_pair w f g hf hg _⟩)
  unfold execOp
  simp only [ho, List.map_toArray, List.map_cons, List.map_nil, hx, hy]
  rw [Sem.run_bind, hrun]; rfl
theorem wMerge_v (l : List Wn) (R : Wn) (v : Value) (w : World) (h : ∃ a c, v = .slice a l.length c ∧ WinsIn w a l) (hlen : l.length ≤ 1000000) (hR : mergeV l = R) :
    Calls Try.prog 12 #[v] w fun e w' => ∃ v', e = .returned v' ∧ Below w.heap.size w w' ∧ v' = .agg #[.int .i64 R.tot, .int .i64 R.err, .int .i64 R.age] := by
  obtain ⟨a, c, rfl, hI⟩ := h
  refine (wMerge_any l a c w hI hlen).mono ?_
  rintro e w' ⟨rfl, hb⟩
  exact ⟨_, rfl, hb, by rw [hR]; rfl⟩
theorem refMerge_v (l : List Wn) (R : Wn) (v : Value) (w : World) (h : ∃ a c, v = .slice a l.length c ∧ WinsIn w a l) (hlen : l.length ≤ 1000000) (hR : mergeV l = R) :
    Calls Try.prog 13 #[v] w fun e w' => ∃ v', e = .returned v' ∧ Below w.heap.size w w' ∧ v' = .agg #[.int .i64 R.tot, .int .i64 R.err, .int .i64 R.age] := by
  obtain ⟨a, c, rfl, hI⟩ := h
  refine (refMerge_any l a c w hI hlen).mono ?_
  rintro e w' ⟨rfl, hb⟩
  exact ⟨_, rfl, hb, by rw [hR]; rfl⟩
end

set_option maxRecDepth 100000 in
set_option maxHeartbeats 4000000 in
theorem windowMerge_any (l : List Wn) (la : Option Addr) (lc : Nat) (m : List Bool) (ma : Option Addr) (mc : Nat) (at' : Int) (w : World) (hl : WinsIn w la l) (hln : l.length ≤ lc) (hlc : lc ≤ maxLen) (hm : BoolsIn w ma m) (hmn : m.length ≤ mc) (hmc : mc ≤ maxLen) :
    Calls Try.prog 4 #[.slice la l.length lc, .slice ma m.length mc, .int .i64 at'] w fun e w' => e = .returned (.bool true) ∧ Below w.heap.size w w' := by
  have HL := Box.mk hl
  have HM := Box.mk hm
  unfold maxLen at hlc hmc
  clear hl hm
  go_enter Try.func4, Try.ntmps4
  go_upto_if 14 with fail
  go_cut [0] (fun v wx => w = wx ∧ ∃ l3 : List Wn, l3.length ≤ 30 ∧ v = .slice la l3.length lc ∧ Box (WinsIn w la l3))
  case first =>
    by_cases h100 : 30 < l.length
    · have hl2 : (l.take 30).length = 30 := by rw [List.length_take]; omega
      have HL2 := Box.mk hl2
      obtain ⟨x, rfl, _⟩ := HL.out 0 (by omega)
      clear hl2
      go_wp2_with fail
      go_meet
      exact ⟨rfl, l.take 30, by rw [HL2.out]; decide, by rw [HL2.out], ⟨HL.out.take 30⟩⟩
    · go_wp2_with fail
      go_meet
      exact ⟨rfl, l, by omega, rfl, HL⟩
  case rest =>
  obtain ⟨rfl, l3, hl3, rfl, HL3⟩ := hcut
  clear HL hln
  go_upto_if 19 with fail
  go_cut [1] (fun v wx => w = wx ∧ ∃ l2 : List Bool, l2.length ≤ 100 ∧ v = .slice ma l2.length mc ∧ Box (BoolsIn w ma l2))
  case first =>
    by_cases h100 : 100 < m.length
    · have hl2 : (m.take 100).length = 100 := by rw [List.length_take]; omega
      have HL2 := Box.mk hl2
      obtain ⟨x, rfl, _⟩ := HM.out 0 (by omega)
      clear hl2
      go_wp2_with fail
      go_meet
      exact ⟨rfl, m.take 100, by rw [HL2.out]; decide, by rw [HL2.out], ⟨HM.out.take 100⟩⟩
    · go_wp2_with fail
      go_meet
      exact ⟨rfl, m, by omega, rfl, HM⟩
  case rest =>
  obtain ⟨rfl, l2, hl2, rfl, HL2⟩ := hcut
  clear HM hmn
  obtain ⟨k, hk, hwk⟩ := withI_range at' (l2.length + 1) (by omega) (by omega)
  have HWK := Box.mk hwk
  clear hwk
  obtain ⟨W, hW⟩ : ∃ W, W = ((w.alloc (.cells #[.int .i64 0, .int .i64 0, .int .i64 0] 23)).alloc (.cells #[.int .i64 0, .int .i64 0, .int .i64 0] 23)).alloc (.cells #[.int .i64 0, .int .i64 0, .int .i64 0] 23) := ⟨_, rfl⟩
  have HB := Box.mk (show Below w.heap.size w W by rw [hW]; exact below_twoF (below_twoF (below_oneF w _) _) _)
  have HA0 := Box.mk (show VarA W w.heap.size #[.int .i64 0, .int .i64 0, .int .i64 0] 23 by rw [hW]; exact ((VarA.new _ _ _).below _).below _)
  have HC0 := Box.mk (show VarA W (w.heap.size + 1) #[.int .i64 0, .int .i64 0, .int .i64 0] 23 by rw [hW]; have := (VarA.new (w.alloc (.cells #[.int .i64 0, .int .i64 0, .int .i64 0] 23)) #[.int .i64 0, .int .i64 0, .int .i64 0] 23).below (.cells #[.int .i64 0, .int .i64 0, .int .i64 0] 23); rw [World.size_alloc] at this; exact this)
  have HD0 := Box.mk (show VarA W (w.heap.size + 2) #[.int .i64 0, .int .i64 0, .int .i64 0] 23 by rw [hW]; have := VarA.new ((w.alloc (.cells #[.int .i64 0, .int .i64 0, .int .i64 0] 23)).alloc (.cells #[.int .i64 0, .int .i64 0, .int .i64 0] 23)) #[.int .i64 0, .int .i64 0, .int .i64 0] 23; rw [World.size_alloc, World.size_alloc] at this; exact this)
  go_wp2_with fail
  refine (withinF at' (l2.length + 1) _ (by omega) (by omega)).mono ?_
  rintro e w ⟨he, hw3⟩
  rw [HWK.out] at he
  subst he
  subst hw3
  go_upto_region 7 with fail
  change Code.wp _ _ _ _ (((w.alloc (.cells #[.int .i64 0, .int .i64 0, .int .i64 0] 23)).alloc (.cells #[.int .i64 0, .int .i64 0, .int .i64 0] 23)).alloc (.cells #[.int .i64 0, .int .i64 0, .int .i64 0] 23))
  rw [← hW]
  clear hW HWK hk
  generalize hgp : w.heap.size = gp at *
  have HGP := Box.mk hgp
  clear hgp
  go_wp2_with fail
  go_loopw [11] (fun iv wr => ∃ i e i1 e1 i2 e2 : Nat, i ≤ l2.length ∧ iv = .int .i64 i ∧ Box ((i = i1 + i2 ∧ e = e1 + e2 ∧ e1 ≤ i1 ∧ e2 ≤ i2) ∧ VarA wr gp #[.int .i64 ((i1 : Nat) : Int), .int .i64 ((e1 : Nat) : Int), .int .i64 0] 23 ∧ VarA wr (gp + 1) #[.int .i64 ((i2 : Nat) : Int), .int .i64 ((e2 : Nat) : Int), .int .i64 0] 23 ∧ VarA wr (gp + 2) #[.int .i64 ((i : Nat) : Int), .int .i64 ((e : Nat) : Int), .int .i64 0] 23 ∧ Below gp w wr)) (fun iv _ => l2.length - (intOf iv).toNat)
  case atStart => exact ⟨0, 0, 0, 0, 0, 0, Nat.zero_le _, rfl, ⟨⟨rfl, rfl, Nat.le_refl _, Nat.le_refl _⟩, HA0.out, HC0.out, HD0.out, HB.out⟩⟩
  case round =>
    clear HA0 HC0 HD0 HB
    obtain ⟨i, e, i1, e1, i2, e2, hi, rfl, HI⟩ := hrel
    by_cases hlt : i < l2.length
    · obtain ⟨x, rfl, _⟩ := HL2.out i hlt
      have HEL := Box.mk (fun w' (hb : Below w.heap.size w w') => (HL2.out.keep hb) i hlt)
      generalize l2[i] = y at *
      obtain ⟨d, hd1, hdd⟩ := smp_nat y
      have HD := Box.mk hdd
      clear hdd
      go_upto_region 10 with fail
      rename_i K hK
      refine wp_region_last (S := [some (.val (.agg #[.int .i64 ((i : Nat) : Int), .int .i64 ((e : Nat) : Int), .int .i64 0])), some (.val (.slice (some x) l2.length mc)), some (.val (.int .i64 i)), some (.val (.pointer (some (x.add (i * 1))))), some (.val (.bool y)), some (.val (.agg #[.int .i64 ((i + 1 : Nat) : Int), .int .i64 ((e + d : Nat) : Int), .int .i64 0])), none]) 6
        (by kernel_rfl) (by kernel_rfl) (by kernel_rfl) (by kernel_rfl) rfl rfl rfl ?_ ?_
      · refine ⟨?_, ?_, ?_, ?_, ?_, ?_, trivial⟩ <;> intro a' w2 hb hf hd
        · exact ⟨wanted_none rfl, loc_load_rowG rfl (hf.base 10 rfl) (HI.out.2.2.2.1.keep hb).row Try.underlying23 rfl sizeWn rfl⟩
        · exact ⟨wanted_none rfl, loc_move rfl (hf.base 1 rfl)⟩
        · exact ⟨wanted_none rfl, loc_move rfl (hf.base 11 rfl)⟩
        · exact ⟨wanted_none rfl, loc_index_G 1 rfl (hd 1 rfl) (hd 2 rfl) hlt (by kernel_rfl) (by kernel_rfl) rfl⟩
        · refine ⟨wanted_none rfl, loc_load_cellG rfl (hd 3 rfl) ?_ (fun w => by rfl) rfl⟩
          obtain ⟨z, e1, e2⟩ := HEL.out w2 (below_trans (by rw [HGP.out]; exact HI.out.2.2.2.2) hb)
          obtain rfl := Option.some.inj e1
          rw [Nat.mul_one]; exact e2
        · refine ⟨wanted_none rfl, loc_call rfl (by kernel_rfl) ?_⟩
          show Calls _ _ #[a'.eval (.tmp 33), a'.eval (.tmp 37)] w2 _
          rw [show a'.eval (.tmp 33) = .agg #[.int .i64 ((i : Nat) : Int), .int .i64 ((e : Nat) : Int), .int .i64 0] from hd 0 rfl, show a'.eval (.tmp 37) = .bool y from hd 4 rfl]
          exact count_v i e d y w2 HD.out (by have := HI.out.1; omega) (by have := HI.out.1; omega)
      · intro a' w2 hb hf hd
        refine ⟨wanted_none rfl, ?_⟩
        have ev : a'.eval (.tmp 38) = .agg #[.int .i64 ((i + 1 : Nat) : Int), .int .i64 ((e + d : Nat) : Int), .int .i64 0] := hd 5 (by decide) (by decide)
        refine wp_store_row 23 _ _ rfl (gp + 2) #[.int .i64 ((i + 1 : Nat) : Int), .int .i64 ((e + d : Nat) : Int), .int .i64 0] (hf.base 10 rfl) ev 23 _ (HI.out.2.2.2.1.keep hb) sizeWn rfl (oneWn ..) ?_
        have HN10 := Box.mk (show VarA (w2.setRow (gp + 2) #[.int .i64 ((i + 1 : Nat) : Int), .int .i64 ((e + d : Nat) : Int), .int .i64 0]) gp #[.int .i64 ((i1 : Nat) : Int), .int .i64 ((e1 : Nat) : Int), .int .i64 0] 23 ∧ VarA (w2.setRow (gp + 2) #[.int .i64 ((i + 1 : Nat) : Int), .int .i64 ((e + d : Nat) : Int), .int .i64 0]) (gp + 1) #[.int .i64 ((i2 : Nat) : Int), .int .i64 ((e2 : Nat) : Int), .int .i64 0] 23 ∧ VarA (w2.setRow (gp + 2) #[.int .i64 ((i + 1 : Nat) : Int), .int .i64 ((e + d : Nat) : Int), .int .i64 0]) (gp + 2) #[.int .i64 ((i + 1 : Nat) : Int), .int .i64 ((e + d : Nat) : Int), .int .i64 0] 23 ∧ Below gp w (w2.setRow (gp + 2) #[.int .i64 ((i + 1 : Nat) : Int), .int .i64 ((e + d : Nat) : Int), .int .i64 0]) from
          ⟨(HI.out.2.1.keep hb).row_other (by omega), (HI.out.2.2.1.keep hb).row_other (by omega), setRow_heap _ _ _ _ _ _ (HI.out.2.2.2.1.keep hb), below_setRow (HI.out.2.2.2.2.trans (hb.mono (by have := HI.out.2.1.lt; omega))) (by omega) _⟩)
        refine hK _ _ ?_
        rw [fr_putAll hf]
        simp only [putAll, ev]
        clear hf hd hb ev hK
        generalize a'.eval (.tmp 33) = u33
        generalize a'.eval (.tmp 34) = u34
        generalize a'.eval (.tmp 35) = u35
        generalize a'.eval (.tmp 36) = u36
        generalize a'.eval (.tmp 37) = u37
        simp only [Act.put, List.setIfInBounds_toArray, List.set_cons_succ, List.set_cons_zero]
        generalize (w2.setRow (gp + 2) #[.int .i64 ((i + 1 : Nat) : Int), .int .i64 ((e + d : Nat) : Int), .int .i64 0]) = w5 at *
        by_cases hik : i < k
        · skip
          go_upto_region 12 with fail
          rename_i K hK
          refine wp_region_last (S := [some (.val (.agg #[.int .i64 ((i1 : Nat) : Int), .int .i64 ((e1 : Nat) : Int), .int .i64 0])), some (.val (.slice (some x) l2.length mc)), some (.val (.int .i64 i)), some (.val (.pointer (some (x.add (i * 1))))), some (.val (.bool y)), some (.val (.agg #[.int .i64 ((i1 + 1 : Nat) : Int), .int .i64 ((e1 + d : Nat) : Int), .int .i64 0])), none]) 6
            (by kernel_rfl) (by kernel_rfl) (by kernel_rfl) (by kernel_rfl) rfl rfl rfl ?_ ?_
          · refine ⟨?_, ?_, ?_, ?_, ?_, ?_, trivial⟩ <;> intro a' w2 hb hf hd
            · exact ⟨wanted_none rfl, loc_load_rowG rfl (hf.base 8 rfl) (HN10.out.1.keep hb).row Try.underlying23 rfl sizeWn rfl⟩
            · exact ⟨wanted_none rfl, loc_move rfl (hf.base 1 rfl)⟩
            · exact ⟨wanted_none rfl, loc_move rfl (hf.base 11 rfl)⟩
            · exact ⟨wanted_none rfl, loc_index_G 1 rfl (hd 1 rfl) (hd 2 rfl) hlt (by kernel_rfl) (by kernel_rfl) rfl⟩
            · refine ⟨wanted_none rfl, loc_load_cellG rfl (hd 3 rfl) ?_ (fun w => by rfl) rfl⟩
              obtain ⟨z, e1, e2⟩ := HEL.out w2 (below_trans (by rw [HGP.out]; exact HN10.out.2.2.2) hb)
              obtain rfl := Option.some.inj e1
              rw [Nat.mul_one]; exact e2
            · refine ⟨wanted_none rfl, loc_call rfl (by kernel_rfl) ?_⟩
              show Calls _ _ #[a'.eval (.tmp 42), a'.eval (.tmp 46)] w2 _
              rw [show a'.eval (.tmp 42) = .agg #[.int .i64 ((i1 : Nat) : Int), .int .i64 ((e1 : Nat) : Int), .int .i64 0] from hd 0 rfl, show a'.eval (.tmp 46) = .bool y from hd 4 rfl]
              exact count_v i1 e1 d y w2 HD.out (by have := HI.out.1; omega) (by have := HI.out.1; omega)
          · intro a' w2 hb hf hd
            refine ⟨wanted_none rfl, ?_⟩
            have ev : a'.eval (.tmp 47) = .agg #[.int .i64 ((i1 + 1 : Nat) : Int), .int .i64 ((e1 + d : Nat) : Int), .int .i64 0] := hd 5 (by decide) (by decide)
            refine wp_store_row 23 _ _ rfl gp #[.int .i64 ((i1 + 1 : Nat) : Int), .int .i64 ((e1 + d : Nat) : Int), .int .i64 0] (hf.base 8 rfl) ev 23 _ (HN10.out.1.keep hb) sizeWn rfl (oneWn ..) ?_
            have HN12 := Box.mk (show VarA (w2.setRow gp #[.int .i64 ((i1 + 1 : Nat) : Int), .int .i64 ((e1 + d : Nat) : Int), .int .i64 0]) gp #[.int .i64 ((i1 + 1 : Nat) : Int), .int .i64 ((e1 + d : Nat) : Int), .int .i64 0] 23 ∧ VarA (w2.setRow gp #[.int .i64 ((i1 + 1 : Nat) : Int), .int .i64 ((e1 + d : Nat) : Int), .int .i64 0]) (gp + 1) #[.int .i64 ((i2 : Nat) : Int), .int .i64 ((e2 : Nat) : Int), .int .i64 0] 23 ∧ VarA (w2.setRow gp #[.int .i64 ((i1 + 1 : Nat) : Int), .int .i64 ((e1 + d : Nat) : Int), .int .i64 0]) (gp + 2) #[.int .i64 ((i + 1 : Nat) : Int), .int .i64 ((e + d : Nat) : Int), .int .i64 0] 23 ∧ Below gp w (w2.setRow gp #[.int .i64 ((i1 + 1 : Nat) : Int), .int .i64 ((e1 + d : Nat) : Int), .int .i64 0]) from
              ⟨setRow_heap _ _ _ _ _ _ (HN10.out.1.keep hb), (HN10.out.2.1.keep hb).row_other (by omega), (HN10.out.2.2.1.keep hb).row_other (by omega), below_setRow (HN10.out.2.2.2.trans (hb.mono (by have := HN10.out.1.lt; omega))) (by omega) _⟩)
            refine hK _ _ ?_
            rw [fr_putAll hf]
            simp only [putAll, ev]
            clear hf hd hb ev hK
            generalize a'.eval (.tmp 42) = u42
            generalize a'.eval (.tmp 43) = u43
            generalize a'.eval (.tmp 44) = u44
            generalize a'.eval (.tmp 45) = u45
            generalize a'.eval (.tmp 46) = u46
            simp only [Act.put, List.setIfInBounds_toArray, List.set_cons_succ, List.set_cons_zero]
            generalize (w2.setRow gp #[.int .i64 ((i1 + 1 : Nat) : Int), .int .i64 ((e1 + d : Nat) : Int), .int .i64 0]) = w6 at *
            go_wp2_with fail
            go_roundw
            case rel => exact ⟨i + 1, e + d, i1 + 1, e1 + d, i2, e2, by omega, by go_num, ⟨by have := HI.out.1; omega, HN12.out.1, HN12.out.2.1, HN12.out.2.2.1, HN12.out.2.2.2⟩⟩
            case measure => simp [intOf]; omega
        · skip
          go_upto_region 13 with fail
          rename_i K hK
          refine wp_region_last (S := [some (.val (.agg #[.int .i64 ((i2 : Nat) : Int), .int .i64 ((e2 : Nat) : Int), .int .i64 0])), some (.val (.slice (some x) l2.length mc)), some (.val (.int .i64 i)), some (.val (.pointer (some (x.add (i * 1))))), some (.val (.bool y)), some (.val (.agg #[.int .i64 ((i2 + 1 : Nat) : Int), .int .i64 ((e2 + d : Nat) : Int), .int .i64 0])), none]) 6
            (by kernel_rfl) (by kernel_rfl) (by kernel_rfl) (by kernel_rfl) rfl rfl rfl ?_ ?_
          · refine ⟨?_, ?_, ?_, ?_, ?_, ?_, trivial⟩ <;> intro a' w2 hb hf hd
            · exact ⟨wanted_none rfl, loc_load_rowG rfl (hf.base 9 rfl) (HN10.out.2.1.keep hb).row Try.underlying23 rfl sizeWn rfl⟩
            · exact ⟨wanted_none rfl, loc_move rfl (hf.base 1 rfl)⟩
            · exact ⟨wanted_none rfl, loc_move rfl (hf.base 11 rfl)⟩
            · exact ⟨wanted_none rfl, loc_index_G 1 rfl (hd 1 rfl) (hd 2 rfl) hlt (by kernel_rfl) (by kernel_rfl) rfl⟩
            · refine ⟨wanted_none rfl, loc_load_cellG rfl (hd 3 rfl) ?_ (fun w => by rfl) rfl⟩
              obtain ⟨z, e1, e2⟩ := HEL.out w2 (below_trans (by rw [HGP.out]; exact HN10.out.2.2.2) hb)
              obtain rfl := Option.some.inj e1
              rw [Nat.mul_one]; exact e2
            · refine ⟨wanted_none rfl, loc_call rfl (by kernel_rfl) ?_⟩
              show Calls _ _ #[a'.eval (.tmp 48), a'.eval (.tmp 52)] w2 _
              rw [show a'.eval (.tmp 48) = .agg #[.int .i64 ((i2 : Nat) : Int), .int .i64 ((e2 : Nat) : Int), .int .i64 0] from hd 0 rfl, show a'.eval (.tmp 52) = .bool y from hd 4 rfl]
              exact count_v i2 e2 d y w2 HD.out (by have := HI.out.1; omega) (by have := HI.out.1; omega)
          · intro a' w2 hb hf hd
            refine ⟨wanted_none rfl, ?_⟩
            have ev : a'.eval (.tmp 53) = .agg #[.int .i64 ((i2 + 1 : Nat) : Int), .int .i64 ((e2 + d : Nat) : Int), .int .i64 0] := hd 5 (by decide) (by decide)
            refine wp_store_row 23 _ _ rfl (gp + 1) #[.int .i64 ((i2 + 1 : Nat) : Int), .int .i64 ((e2 + d : Nat) : Int), .int .i64 0] (hf.base 9 rfl) ev 23 _ (HN10.out.2.1.keep hb) sizeWn rfl (oneWn ..) ?_
            have HN13 := Box.mk (show VarA (w2.setRow (gp + 1) #[.int .i64 ((i2 + 1 : Nat) : Int), .int .i64 ((e2 + d : Nat) : Int), .int .i64 0]) gp #[.int .i64 ((i1 : Nat) : Int), .int .i64 ((e1 : Nat) : Int), .int .i64 0] 23 ∧ VarA (w2.setRow (gp + 1) #[.int .i64 ((i2 + 1 : Nat) : Int), .int .i64 ((e2 + d : Nat) : Int), .int .i64 0]) (gp + 1) #[.int .i64 ((i2 + 1 : Nat) : Int), .int .i64 ((e2 + d : Nat) : Int), .int .i64 0] 23 ∧ VarA (w2.setRow (gp + 1) #[.int .i64 ((i2 + 1 : Nat) : Int), .int .i64 ((e2 + d : Nat) : Int), .int .i64 0]) (gp + 2) #[.int .i64 ((i + 1 : Nat) : Int), .int .i64 ((e + d : Nat) : Int), .int .i64 0] 23 ∧ Below gp w (w2.setRow (gp + 1) #[.int .i64 ((i2 + 1 : Nat) : Int), .int .i64 ((e2 + d : Nat) : Int), .int .i64 0]) from
              ⟨(HN10.out.1.keep hb).row_other (by omega), setRow_heap _ _ _ _ _ _ (HN10.out.2.1.keep hb), (HN10.out.2.2.1.keep hb).row_other (by omega), below_setRow (HN10.out.2.2.2.trans (hb.mono (by have := HN10.out.1.lt; omega))) (by omega) _⟩)
            refine hK _ _ ?_
            rw [fr_putAll hf]
            simp only [putAll, ev]
            clear hf hd hb ev hK
            generalize a'.eval (.tmp 48) = u48
            generalize a'.eval (.tmp 49) = u49
            generalize a'.eval (.tmp 50) = u50
            generalize a'.eval (.tmp 51) = u51
            generalize a'.eval (.tmp 52) = u52
            simp only [Act.put, List.setIfInBounds_toArray, List.set_cons_succ, List.set_cons_zero]
            generalize (w2.setRow (gp + 1) #[.int .i64 ((i2 + 1 : Nat) : Int), .int .i64 ((e2 + d : Nat) : Int), .int .i64 0]) = w6 at *
            go_wp2_with fail
            go_roundw
            case rel => exact ⟨i + 1, e + d, i1, e1, i2 + 1, e2 + d, by omega, by go_num, ⟨by have := HI.out.1; omega, HN13.out.1, HN13.out.2.1, HN13.out.2.2.1, HN13.out.2.2.2⟩⟩
            case measure => simp [intOf]; omega
    · have hle : i ≤ 100 ∧ e ≤ 100 ∧ i1 ≤ 100 ∧ e1 ≤ 100 ∧ i2 ≤ 100 ∧ e2 ≤ 100 := by have := HI.out.1; omega
      have HMM := Box.mk (merge_two (i := i) (e := e) (i1 := i1) (e1 := e1) (i2 := i2) (e2 := e2) ⟨HI.out.1.1, HI.out.1.2.1⟩ (by omega) (by omega))
      obtain ⟨R, hR⟩ : ∃ R, mergeV l3 = R := ⟨_, rfl⟩
      have HR := Box.mk hR
      have hgl : gp + 2 < wr.heap.size := HI.out.2.2.2.1.lt
      clear hR HL2
      go_upto_region 14 with fail
      rename_i K hK
      refine wp_region_local (S := [.val (.slice la l3.length lc), .val (.agg #[.int .i64 R.tot, .int .i64 R.err, .int .i64 R.age]), .val (.slice la l3.length lc), .val (.agg #[.int .i64 R.tot, .int .i64 R.err, .int .i64 R.age]), .val (.bool true), .val (.bool true), .val (.agg #[.int .i64 ((i1 : Nat) : Int), .int .i64 ((e1 : Nat) : Int), .int .i64 0]), .val (.agg #[.int .i64 ((i2 : Nat) : Int), .int .i64 ((e2 : Nat) : Int), .int .i64 0]), .winsX [⟨((i1 : Nat) : Int), ((e1 : Nat) : Int), 0⟩, ⟨((i2 : Nat) : Int), ((e2 : Nat) : Int), 0⟩], .val (.agg #[.int .i64 ((i : Nat) : Int), .int .i64 ((e : Nat) : Int), .int .i64 0]), .val (.agg #[.int .i64 ((i : Nat) : Int), .int .i64 ((e : Nat) : Int), .int .i64 0]), .val (.bool true), .val (.bool true), .val (.bool true), .val (.agg #[.int .i64 ((i2 : Nat) : Int), .int .i64 ((e2 : Nat) : Int), .int .i64 0]), .val (.agg #[.int .i64 ((i1 : Nat) : Int), .int .i64 ((e1 : Nat) : Int), .int .i64 0]), .winsX [⟨((i2 : Nat) : Int), ((e2 : Nat) : Int), 0⟩, ⟨((i1 : Nat) : Int), ((e1 : Nat) : Int), 0⟩], .val (.agg #[.int .i64 ((i : Nat) : Int), .int .i64 ((e : Nat) : Int), .int .i64 0]), .val (.agg #[.int .i64 ((i : Nat) : Int), .int .i64 ((e : Nat) : Int), .int .i64 0]), .val (.bool true), .val (.bool true), .val (.bool true), .val (.bool true), .val (.bool true), .val (.bool true)])
        (by kernel_rfl) (by kernel_rfl) (by kernel_rfl) ?_ ?_
      · refine ⟨?_, ?_, ?_, ?_, ?_, ?_, ?_, ?_, ?_, ?_, ?_, ?_, ?_, ?_, ?_, ?_, ?_, ?_, ?_, ?_, ?_, ?_, ?_, ?_, ?_, trivial⟩ <;> intro a w2 hb hf hd
        · exact ⟨wanted_none rfl, loc_move rfl (hf.base 0 rfl)⟩
        · refine ⟨wanted_none rfl, loc_call rfl (by kernel_rfl) ?_⟩
          show Calls _ _ #[a.eval (.tmp 54)] w2 _
          exact wMerge_v l3 R _ w2 ⟨la, lc, hd 0 rfl, HL3.out.keep (below_trans (by rw [HGP.out]; exact HI.out.2.2.2.2) hb)⟩ (by omega) HR.out
        · exact ⟨wanted_none rfl, loc_move rfl (hf.base 0 rfl)⟩
        · refine ⟨wanted_none rfl, loc_call rfl (by kernel_rfl) ?_⟩
          show Calls _ _ #[a.eval (.tmp 56)] w2 _
          exact refMerge_v l3 R _ w2 ⟨la, lc, hd 2 rfl, HL3.out.keep (below_trans (by rw [HGP.out]; exact HI.out.2.2.2.2) hb)⟩ (by omega) HR.out
        · exact ⟨wanted_none rfl, loc_eqlWn rfl (hd 1 rfl) (hd 3 rfl) rfl⟩
        · exact ⟨wanted_none rfl, loc_move rfl (hd 4 rfl)⟩
        · exact ⟨wanted_true rfl rfl (hd 5 rfl), loc_load_rowG rfl (hf.base 8 rfl) (HI.out.2.1.keep hb).row Try.underlying23 rfl sizeWn rfl⟩
        · exact ⟨wanted_true rfl rfl (hd 5 rfl), loc_load_rowG rfl (hf.base 9 rfl) (HI.out.2.2.1.keep hb).row Try.underlying23 rfl sizeWn rfl⟩
        · exact ⟨wanted_true rfl rfl (hd 5 rfl), loc_slice2Wn (f := ⟨((i1 : Nat) : Int), ((e1 : Nat) : Int), 0⟩) (g := ⟨((i2 : Nat) : Int), ((e2 : Nat) : Int), 0⟩) rfl (hd 6 rfl) (hd 7 rfl) (by unfold Wn.rng i64P; simp only; omega) (by unfold Wn.rng i64P; simp only; omega) fun v w' h => h⟩
        · refine ⟨wanted_true rfl rfl (hd 5 rfl), loc_call rfl (by kernel_rfl) ?_⟩
          show Calls _ _ #[a.eval (.tmp 62)] w2 _
          exact wMerge_v [⟨((i1 : Nat) : Int), ((e1 : Nat) : Int), 0⟩, ⟨((i2 : Nat) : Int), ((e2 : Nat) : Int), 0⟩] ⟨((i : Nat) : Int), ((e : Nat) : Int), 0⟩ _ w2 (hd 8 rfl) (by simp only [List.length_cons, List.length_nil]; omega) HMM.out.1
        · exact ⟨wanted_true rfl rfl (hd 5 rfl), loc_load_rowG rfl (hf.base 10 rfl) (HI.out.2.2.2.1.keep hb).row Try.underlying23 rfl sizeWn rfl⟩
        · exact ⟨wanted_true rfl rfl (hd 5 rfl), loc_eqlWn rfl (hd 9 rfl) (hd 10 rfl) rfl⟩
        · exact ⟨wanted_none rfl, loc_pick rfl (hd 5 rfl) (hd 11 rfl)⟩
        · exact ⟨wanted_none rfl, loc_move rfl (hd 12 rfl)⟩
        · exact ⟨wanted_true rfl rfl (hd 13 rfl), loc_load_rowG rfl (hf.base 9 rfl) (HI.out.2.2.1.keep hb).row Try.underlying23 rfl sizeWn rfl⟩
        · exact ⟨wanted_true rfl rfl (hd 13 rfl), loc_load_rowG rfl (hf.base 8 rfl) (HI.out.2.1.keep hb).row Try.underlying23 rfl sizeWn rfl⟩
        · exact ⟨wanted_true rfl rfl (hd 13 rfl), loc_slice2Wn (f := ⟨((i2 : Nat) : Int), ((e2 : Nat) : Int), 0⟩) (g := ⟨((i1 : Nat) : Int), ((e1 : Nat) : Int), 0⟩) rfl (hd 14 rfl) (hd 15 rfl) (by unfold Wn.rng i64P; simp only; omega) (by unfold Wn.rng i64P; simp only; omega) fun v w' h => h⟩
        · refine ⟨wanted_true rfl rfl (hd 13 rfl), loc_call rfl (by kernel_rfl) ?_⟩
          show Calls _ _ #[a.eval (.tmp 70)] w2 _
          exact wMerge_v [⟨((i2 : Nat) : Int), ((e2 : Nat) : Int), 0⟩, ⟨((i1 : Nat) : Int), ((e1 : Nat) : Int), 0⟩] ⟨((i : Nat) : Int), ((e : Nat) : Int), 0⟩ _ w2 (hd 16 rfl) (by simp only [List.length_cons, List.length_nil]; omega) HMM.out.2
        · exact ⟨wanted_true rfl rfl (hd 13 rfl), loc_load_rowG rfl (hf.base 10 rfl) (HI.out.2.2.2.1.keep hb).row Try.underlying23 rfl sizeWn rfl⟩
        · exact ⟨wanted_true rfl rfl (hd 13 rfl), loc_eqlWn rfl (hd 17 rfl) (hd 18 rfl) rfl⟩
        · exact ⟨wanted_none rfl, loc_pick rfl (hd 13 rfl) (hd 19 rfl)⟩
        · exact ⟨wanted_none rfl, loc_move rfl (hd 20 rfl)⟩
        · exact ⟨wanted_true rfl rfl (hd 21 rfl), loc_call rfl (by kernel_rfl) (wnAwake_v w2)⟩
        · exact ⟨wanted_none rfl, loc_pick rfl (hd 21 rfl) (hd 22 rfl)⟩
        · exact ⟨wanted_none rfl, loc_assign rfl (hd 23 rfl)⟩
      · intro a w2 hb hf hh
        refine hK a w2 ?_
        go_wp2_with fail
        exact local_ret rfl hf.defers (show a.eval (.tmp 6) = .bool true from hh 24 (by decide)) ⟨rfl, by rw [HGP.out]; exact HI.out.2.2.2.2.trans (hb.mono (by omega))⟩
end Go.Proofs.Ytegpgcdhmkcopaa
