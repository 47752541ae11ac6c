/- Opening a plan, a window and an input among the arguments. Opening a rollout and an input among the arguments. Opening a slice of numbers with its capacity. A region that draws its order, where an operation may be left out by its guard. The law RolloutRises. -/
import Derived.Test.YtfjnpegpfmaekaaPk1
import Derived.Test.YtfjnpegpfmaekaaPk2
import Derived.Test.YtfjnpegpfmaekaaPk3
import Derived.Test.YtfjnpegpfmaekaaPk4
import Derived.Test.YtfjnpegpfmaekaaPk5
import Derived.Test.YtfjnpegpfmaekaaRows
import Derived.WalkKit
import Derived.WalkSpells
import Derived.WalkLawsBesides
import Derived.BigQuiet
import Derived.Deep.QuietTactic
import Derived.Lib.Bytealg
import Derived.Lib.IndexLaws
import Derived.Lib.Hide
import Derived.Laws.IdiomStrings
import Derived.Lib.SlTrimSet
import Derived.Lib.IndexBytes
import Derived.Lib.Split
import Derived.Deep.AppendLies
import Derived.Shelf.LaysM
import Derived.Test.YtfjnpegpfmaekaaProg
import Derived.Shelf.Strings.SlTrimAscii
import Derived.Lib.SplitLaws
import Derived.WalkSmall
import Derived.ProofKit
import Derived.OpenShut
import Derived.Lib.Strings
import Derived.SliceStrings
import Derived.Deep.Quiet
import Derived.Tactics
import Derived.KernelRfl
import Derived.Below
import Derived.Laws.Bits64
import Derived.Lib.SlBytesConst
import Derived.Maps.AppendAt
import Derived.Laws.AppendOwnNone
import Derived.Great.BuildSlice
import Derived.Laws.Rows
import Derived.Laws.BitsAllLaws
import Derived.Laws.Shifts
import Derived.Maps.OwnOps
import Derived.Maps.OwnSet
import Derived.Deep.SlicePairs
import Derived.Lib.AppendZerosOnto
import Derived.Lib.AppendStr
import Derived.Laws.CopyOwn
import Derived.OwnWalk
import Derived.Laws.Strings3
import Derived.Laws.Concat
import Derived.Lib.ItoaMem
import Derived.IntWalk
import Derived.Sort.Grow
import Derived.Lib.LaidTab
import Derived.LaidSub
import Derived.Deep.DeepCutAuto
import Derived.Deep.CutBlock
import Derived.Laws.Tables
import Derived.Deep.Matrix
import Derived.Laws.RangeAny
import Derived.Laws.Bits64b
import Derived.Lib.ConvBytes
import Derived.Deep.WholeRow
import Derived.StillTailTactics
import Derived.ArgAppend
namespace Go.Proofs.Ytfjnpegpfmaekaa
open Go.ChangeShapes Go.WideShapes Go.ChangeAt Go.RowKit
set_option linter.unusedVariables false

set_option maxRecDepth 100000 in
theorem open_inp2 {H : Type} {enc : TypeId × Value → H} {W : World} {r : Reach} {q0 : Nat} {v : Value} {d : DataW H} {ps : List MemPlace} {base : Nat} (hval : Value.okWide Try.prog W r q0 24 v)
    (h : DataW.Trod enc Try.prog W base (fun _ => true) true 24 v d ps) :
    ∃ (z0 : Int) (z1 : Int), v = .agg #[.int .i64 z0, .int .i64 z1] ∧ (-9223372036854775808 ≤ z0 ∧ z0 ≤ 9223372036854775807) ∧ (-9223372036854775808 ≤ z1 ∧ z1 ≤ 9223372036854775807) := by
  obtain ⟨cs, rfl, hsz⟩ := okWide_struct Try.underlying24 hval
  obtain ⟨fuel, hf⟩ := h
  have hsz2 : cs.size = 2 := by rw [hsz]; kernel_rfl
  obtain ⟨x0, x1, rfl⟩ : ∃ x0 x1, cs = #[x0, x1] := by
    match cs, hsz2 with
    | ⟨[x0, x1]⟩, _ => exact ⟨x0, x1, rfl⟩
  obtain ⟨ys, n, _, hdp, _, hlen, hfs⟩ := DataW.trod_struct Try.underlying24 hf
  obtain ⟨y0, y1, rfl⟩ : ∃ y0 y1, ys = [y0, y1] := by
    match ys, hlen with
    | [y0, y1], _ => exact ⟨y0, y1, rfl⟩
  have h0 : DataW.trod enc Try.prog W base (fun _ => true) true n 3 [x0] = some y0 := by
    have e : ((Value.agg #[x0, x1]).cells.toList.drop 0).take (Try.prog.cellsOf 3) = [x0] := by rw [show Try.prog.cellsOf 3 = 1 by kernel_rfl]; rfl
    rw [← e]; exact hfs 0 _ rfl
  have h1 : DataW.trod enc Try.prog W base (fun _ => true) true n 3 [x1] = some y1 := by
    have e : ((Value.agg #[x0, x1]).cells.toList.drop 1).take (Try.prog.cellsOf 3) = [x1] := by rw [show Try.prog.cellsOf 3 = 1 by kernel_rfl]; rfl
    rw [← e]; exact hfs 1 _ rfl
  have hd : d = .agg [y0.1, y1.1] := by have := congrArg Prod.fst hdp; simpa using this
  obtain ⟨z0, ez0, fz0, wz0⟩ := DataW.trod_int Try.underlying3 h0
  injection ez0 with ez0
  subst ez0
  obtain ⟨z1, ez1, fz1, wz1⟩ := DataW.trod_int Try.underlying3 h1
  injection ez1 with ez1
  subst ez1
  subst hd
  subst fz0 fz1
  exact ⟨z0, z1, rfl, i64_ofF wz0, i64_ofF wz1⟩
end Go.Proofs.Ytfjnpegpfmaekaa
namespace Go.Proofs.Ytfjnpegpfmaekaa
open Go.ChangeShapes Go.WideShapes Go.ChangeAt Go.RowKit
set_option linter.unusedVariables false

set_option maxRecDepth 100000 in
theorem open_rollout {H : Type} {enc : TypeId × Value → H} {W : World} {r : Reach} {q0 : Nat} {v : Value} {d : DataW H} {ps : List MemPlace} {base : Nat} (hval : Value.okWide Try.prog W r q0 28 v)
    (h : DataW.Trod enc Try.prog W base (fun _ => true) true 28 v d ps) : ∃ x : Ro, v = .agg x.cells ∧ x.rng := by
  obtain ⟨cs, rfl, hsz⟩ := okWide_struct Try.underlying28 hval
  obtain ⟨fuel, hf⟩ := h
  have hsz2 : cs.size = 6 := by rw [hsz]; kernel_rfl
  obtain ⟨x0, x1, x2, x3, x4, x5, rfl⟩ : ∃ x0 x1 x2 x3 x4 x5, cs = #[x0, x1, x2, x3, x4, x5] := by
    match cs, hsz2 with
    | ⟨[x0, x1, x2, x3, x4, x5]⟩, _ => exact ⟨x0, x1, x2, x3, x4, x5, rfl⟩
  obtain ⟨ys, n, _, _, _, hlen, hfs⟩ := DataW.trod_struct Try.underlying28 hf
  obtain ⟨y0, y1, y2, y3, rfl⟩ : ∃ y0 y1 y2 y3, ys = [y0, y1, y2, y3] := by
    match ys, hlen with
    | [y0, y1, y2, y3], _ => exact ⟨y0, y1, y2, y3, rfl⟩
  have h0 : DataW.trod enc Try.prog W base (fun _ => true) true n 3 [x0] = some y0 := by
    have e : ((Value.agg #[x0, x1, x2, x3, x4, x5]).cells.toList.drop 0).take (Try.prog.cellsOf 3) = [x0] := by rw [show Try.prog.cellsOf 3 = 1 by kernel_rfl]; rfl
    rw [← e]; exact hfs 0 _ rfl
  have h1 : DataW.trod enc Try.prog W base (fun _ => true) true n 3 [x1] = some y1 := by
    have e : ((Value.agg #[x0, x1, x2, x3, x4, x5]).cells.toList.drop 1).take (Try.prog.cellsOf 3) = [x1] := by rw [show Try.prog.cellsOf 3 = 1 by kernel_rfl]; rfl
    rw [← e]; exact hfs 1 _ rfl
  have h2 : DataW.trod enc Try.prog W base (fun _ => true) true n 3 [x2] = some y2 := by
    have e : ((Value.agg #[x0, x1, x2, x3, x4, x5]).cells.toList.drop 2).take (Try.prog.cellsOf 3) = [x2] := by rw [show Try.prog.cellsOf 3 = 1 by kernel_rfl]; rfl
    rw [← e]; exact hfs 2 _ rfl
  have h3 : DataW.trod enc Try.prog W base (fun _ => true) true n 26 [x3, x4, x5] = some y3 := by
    have e : ((Value.agg #[x0, x1, x2, x3, x4, x5]).cells.toList.drop 3).take (Try.prog.cellsOf 26) = [x3, x4, x5] := by rw [show Try.prog.cellsOf 26 = 3 by kernel_rfl]; rfl
    rw [← e]; exact hfs 3 _ rfl
  obtain ⟨us, m, _, _, _, hlen2, hgs⟩ := DataW.trod_struct Try.underlying26 h3
  obtain ⟨u0, u1, u2, rfl⟩ : ∃ u0 u1 u2, us = [u0, u1, u2] := by
    match us, hlen2 with
    | [u0, u1, u2], _ => exact ⟨u0, u1, u2, rfl⟩
  have g0 : DataW.trod enc Try.prog W base (fun _ => true) true m 3 [x3] = some u0 := by
    have e : (([x3, x4, x5] : List Value).drop 0).take (Try.prog.cellsOf 3) = [x3] := by rw [show Try.prog.cellsOf 3 = 1 by kernel_rfl]; rfl
    rw [← e]; exact hgs 0 _ rfl
  have g1 : DataW.trod enc Try.prog W base (fun _ => true) true m 3 [x4] = some u1 := by
    have e : (([x3, x4, x5] : List Value).drop 1).take (Try.prog.cellsOf 3) = [x4] := by rw [show Try.prog.cellsOf 3 = 1 by kernel_rfl]; rfl
    rw [← e]; exact hgs 1 _ rfl
  have g2 : DataW.trod enc Try.prog W base (fun _ => true) true m 3 [x5] = some u2 := by
    have e : (([x3, x4, x5] : List Value).drop 2).take (Try.prog.cellsOf 3) = [x5] := by rw [show Try.prog.cellsOf 3 = 1 by kernel_rfl]; rfl
    rw [← e]; exact hgs 2 _ rfl
  obtain ⟨z0, ez0, _, wz0⟩ := DataW.trod_int Try.underlying3 h0
  injection ez0 with ez0
  subst ez0
  obtain ⟨z1, ez1, _, wz1⟩ := DataW.trod_int Try.underlying3 h1
  injection ez1 with ez1
  subst ez1
  obtain ⟨z2, ez2, _, wz2⟩ := DataW.trod_int Try.underlying3 h2
  injection ez2 with ez2
  subst ez2
  obtain ⟨z3, ez3, _, wz3⟩ := DataW.trod_int Try.underlying3 g0
  injection ez3 with ez3
  subst ez3
  obtain ⟨z4, ez4, _, wz4⟩ := DataW.trod_int Try.underlying3 g1
  injection ez4 with ez4
  subst ez4
  obtain ⟨z5, ez5, _, wz5⟩ := DataW.trod_int Try.underlying3 g2
  injection ez5 with ez5
  subst ez5
  exact ⟨⟨z0, z1, z2, ⟨z3, z4, z5⟩⟩, rfl, i64_ofF wz0, i64_ofF wz1, i64_ofF wz2, i64_ofF wz3, i64_ofF wz4, i64_ofF wz5⟩
theorem open_input {H : Type} {enc : TypeId × Value → H} {W : World} {r : Reach} {q0 : Nat} {v : Value} {d : DataW H} {ps : List MemPlace} {base : Nat} (hval : Value.okWide Try.prog W r q0 24 v)
    (h : DataW.Trod enc Try.prog W base (fun _ => true) true 24 v d ps) : ∃ x : Int × Int, v = .agg #[.int .i64 x.1, .int .i64 x.2] ∧ True := by
  obtain ⟨z0, z1, rfl, _, _⟩ := open_inp2 hval h
  exact ⟨(z0, z1), rfl, trivial⟩
end Go.Proofs.Ytfjnpegpfmaekaa
namespace Go.Proofs.Ytfjnpegpfmaekaa
open Go.ChangeShapes Go.WideShapes Go.ChangeAt Go.RowKit

theorem open_intsC {H : Type} {enc : TypeId × Value → H} {W : World} {a : Option Addr} {len cap : Nat} {d : DataW H} {ps : List MemPlace} {base : Nat}
    (h : DataW.Trod enc Try.prog W base (fun _ => true) true 22 (.slice a len cap) d ps) : IntsF W a len ∧ len ≤ maxLen ∧ len ≤ cap ∧ (0 < len → ∃ ad, a = some ad) := by
  obtain ⟨fuel, hf⟩ := h
  rcases open_ints Try.underlying22 Try.underlying3 (by kernel_rfl) hf with ⟨hcs, _⟩ | ⟨x, l, c, zs, hcs, _, hl, hm, hz, _, hcell, hwz⟩
  · simp [Value.cells] at hcs
    obtain ⟨rfl, rfl, rfl⟩ := hcs
    exact ⟨fun k hk => absurd hk (Nat.not_lt_zero _), Nat.zero_le _, Nat.le_refl _, fun h => absurd h (Nat.lt_irrefl _)⟩
  · simp [Value.cells] at hcs
    obtain ⟨rfl, rfl, rfl⟩ := hcs
    have hz' : zs.length = cap := by simpa using hz
    refine ⟨fun k hk => ?_, Nat.le_trans hl hm, hl, fun _ => ⟨x, rfl⟩⟩
    have hk' : k < zs.length := by omega
    have e : zs.getD k 0 = zs[k] := by rw [List.getD_eq_getElem?_getD, List.getElem?_eq_getElem hk']; rfl
    refine ⟨x, zs[k], rfl, by rw [hcell k hk', e], i64_ofF (hwz zs[k] (List.getElem_mem _))⟩
end Go.Proofs.Ytfjnpegpfmaekaa
namespace Go.Proofs.Ytfjnpegpfmaekaa
open Go.RowKit

/-- One operation by itself: it is done, or its guard says no and nothing is claimed of its slot. -/
def StepSk (P : Program) (Q : Exit → Act → World → Prop) (ops : Array Oper) (S : List Spec) (a0 : Act) (w0 : World) (o : Oper) (s : Spec) : Prop :=
  ∀ a w, Below w0.heap.size w0 w → Fr ops a0 a → (∀ j, waitsFor o j = true → Holds ops S a w j) →
    (Region.wanted o (yielded ops a.tmps) = true ∧ o.wp P a w (fun a' w' => ∃ v, a' = a.put o.dst v ∧ Below w.heap.size w w' ∧ s.p v w') Q) ∨ (Region.wanted o (yielded ops a.tmps) = false ∧ s = Spec.any)
def StepsSk (P : Program) (Q : Exit → Act → World → Prop) (ops : Array Oper) (S : List Spec) (a0 : Act) (w0 : World) : List Oper → List Spec → Prop
  | o :: os, s :: ss => StepSk P Q ops S a0 w0 o s ∧ StepsSk P Q ops S a0 w0 os ss
  | [], [] => True
  | _, _ => False
section
variable {P : Program} {Q : Exit → Act → World → Prop} {ops : Array Oper} {S : List Spec} {a0 : Act} {w0 : World}
theorem stepsSk_at : ∀ {os : List Oper} {ss : List Spec}, StepsSk P Q ops S a0 w0 os ss → ∀ (i : Nat) (o : Oper), os[i]? = some o → ∃ s, ss[i]? = some s ∧ StepSk P Q ops S a0 w0 o s
  | o :: os, s :: ss, h, 0, _, rfl => ⟨s, rfl, h.1⟩
  | o :: os, s :: ss, h, i + 1, o', ho => stepsSk_at h.2 i o' ho
  | [], _, _, i, _, ho => by simp at ho
theorem wp_region_skip {id : Nat} (S : List Spec) (hm : P.follows .mixedOrders = true) (hB : (List.range ops.size).all (fun i => match ops[i]? with | some x => x.after.all (fun e => decide (e.on < i)) | none => true) = true)
    (hd : dstsOk ops a0.tmps.size = true) (h : StepsSk P Q ops S a0 w0 ops.toList S)
    (hQ : ∀ a w, Below w0.heap.size w0 w → Fr ops a0 a → (∀ j, j < ops.size → Holds ops S a w j) → Q .normal a w) : (Code.region id ops true).wp P Q a0 w0 := by
  refine wp_region_inv hm (fun m a w => Below w0.heap.size w0 w ∧ Fr ops a0 a ∧ ∀ j, m.getD j false = true → Holds ops S a w j) ?_ ?_ ?_
  · rintro m a w hs ⟨hb, hf, hh⟩ i hi
    obtain ⟨h1, o, ho, hall⟩ := mem_ready.1 hi
    have hil : i < ops.size := (Array.getElem?_eq_some_iff.1 ho).1
    obtain ⟨s, hsi, hstep⟩ := stepsSk_at h i o (by simpa using ho)
    have hst := hstep a w hb hf fun j hj => by
      obtain ⟨e, he, h2⟩ := List.any_eq_true.1 hj
      simp only [Bool.and_eq_true, beq_iff_eq] at h2
      obtain ⟨h3, rfl⟩ := h2
      exact hh _ (hall e (Array.mem_toList_iff.1 he) h3)
    have common : ∀ v w', Below w.heap.size w w' → s.p v w' → (Below w0.heap.size w0 w' ∧ Fr ops a0 (a.put o.dst v) ∧ ∀ j, (m.setIfInBounds i true).getD j false = true → Holds ops S (a.put o.dst v) w' j) := by
      intro v w' hb' hsp
      refine ⟨hb.trans (hb'.mono hb.size), ⟨?_, ?_, fun k hk => ?_⟩, fun j hj => ?_⟩
      · have := hf.defers
        cases o.dst <;> simpa [Act.put] using this
      · have := hf.size
        cases o.dst <;> simpa [Act.put] using this
      · rw [eval_put_other, hf.base k hk]
        intro hk2
        have : isDst ops k = true := by
          unfold isDst
          exact List.any_eq_true.2 ⟨o, Array.mem_toList_iff.2 (Array.mem_of_getElem? ho), by rw [hk2]; simp⟩
        rw [hk] at this; cases this
      · by_cases hji : j = i
        · subst hji
          unfold Holds
          simp only [ho, hsi]
          cases hdo : o.dst with
          | none => trivial
          | some d =>
            show s.p ((a.put (some d) v).eval (.tmp d)) w'
            rw [eval_put_same]
            · exact hsp
            · rw [hf.size]; exact (dsts_lt hd ho hdo).1
        · have hj' : m.getD j false = true := by rw [getD_set_ne false (fun e => hji e.symm)] at hj; exact hj
          have h5 := holds_mono (hh j hj') hb'
          unfold Holds at *
          cases hoj : ops[j]? with
          | none => simp
          | some o' =>
            cases hsj : S[j]? with
            | none => simp
            | some s' =>
              simp only [hoj, hsj] at h5 ⊢
              cases hdo : o'.dst with
              | none => trivial
              | some d =>
                simp only [hdo] at h5 ⊢
                show s'.p ((a.put o.dst v).eval (.tmp d)) w'
                rw [eval_put_other]
                · exact h5
                · intro e
                  exact (dsts_lt hd ho e).2 j o' hoj hji hdo
    unfold wpOp
    simp only [ho]
    rcases hst with ⟨hw, hwp⟩ | ⟨hw, hsany⟩
    · rw [if_pos hw]
      refine .inl (Oper.wp_mono ?_ hwp)
      rintro a' w' ⟨v, rfl, hb', hsp⟩
      exact common v w' hb' hsp
    · rw [if_neg (by rw [hw]; decide)]
      exact common undef w (Below.refl _ _) (by rw [hsany]; trivial)
  · rintro m a w hs ⟨hb, hf, hh⟩ hr
    refine hQ a w hb hf fun j hj => hh j ?_
    induction j using Nat.strongRecOn with
    | _ j ih =>
      cases hmj : m.getD j false with
      | true => rfl
      | false =>
        exfalso
        have hoj : ops[j]? = some ops[j] := Array.getElem?_eq_getElem hj
        have hbk := List.all_eq_true.1 hB j (List.mem_range.2 hj)
        rw [hoj] at hbk
        simp only [Array.all_eq_true_iff_forall_mem, decide_eq_true_eq] at hbk
        have : j ∈ Region.ready .any ops m := mem_ready.2 ⟨by
          have hs' : j < m.size := by rw [hs]; exact hj
          simp [hs'] at hmj ⊢; exact hmj, ops[j], hoj, fun e he _ => ih _ (hbk e he) (by have := hbk e he; omega)⟩
        rw [hr] at this; cases this
  · refine ⟨(Below.refl _ _).drew, ⟨rfl, rfl, fun _ _ => rfl⟩, fun j hj => ?_⟩
    exfalso
    simp only [Array.getD_eq_getD_getElem?, Array.getElem?_replicate] at hj
    split at hj <;> simp at hj
theorem wanted_no {a : Act} {o : Oper} {j d : Nat} (h : o.guard = some (j, true)) (hd : (ops[j]?).bind (·.dst) = some d) (hv : a.eval (.tmp d) = .bool false) : Region.wanted o (yielded ops a.tmps) = false := by
  have e : a.tmps[d]? = some (.bool false) := by
    unfold Act.eval at hv
    simp only [Array.getD_eq_getD_getElem?] at hv
    cases hq : a.tmps[d]? with
    | none => rw [hq] at hv; cases hv
    | some x => rw [hq] at hv; simp at hv; rw [hv]
  unfold Region.wanted yielded
  rw [h]
  simp [hd, e]
theorem wanted_yes0 {a : Act} {o : Oper} {j d : Nat} (h : o.guard = some (j, false)) (hd : (ops[j]?).bind (·.dst) = some d) (hv : a.eval (.tmp d) = .bool false) : Region.wanted o (yielded ops a.tmps) = true := by
  have e : a.tmps[d]? = some (.bool false) := by
    unfold Act.eval at hv
    simp only [Array.getD_eq_getD_getElem?] at hv
    cases hq : a.tmps[d]? with
    | none => rw [hq] at hv; cases hv
    | some x => rw [hq] at hv; simp at hv; rw [hv]
  unfold Region.wanted yielded
  rw [h]
  simp [hd, e]
theorem wanted_no0 {a : Act} {o : Oper} {j d : Nat} (h : o.guard = some (j, false)) (hd : (ops[j]?).bind (·.dst) = some d) (hv : a.eval (.tmp d) = .bool true) : Region.wanted o (yielded ops a.tmps) = false := by
  have e : a.tmps[d]? = some (.bool true) := by
    unfold Act.eval at hv
    simp only [Array.getD_eq_getD_getElem?] at hv
    cases hq : a.tmps[d]? with
    | none => rw [hq] at hv; cases hv
    | some x => rw [hq] at hv; simp at hv; rw [hv]
  unfold Region.wanted yielded
  rw [h]
  simp [hd, e]
theorem loc_pickF {act : Act} {w : World} {o : Oper} {s : Spec} {c x y : Operand} (ho : o.op = .pick c x y) (hc : act.eval c = .bool false) (hs : s.p (act.eval y) w) : o.wp P act w (fun a' w' => ∃ v, a' = act.put o.dst v ∧ Below w.heap.size w w' ∧ s.p v w') Q :=
  loc_run (by unfold execOp; rw [ho]; simp only [hc]; rfl) (Below.refl _ _) hs
end
end Go.Proofs.Ytfjnpegpfmaekaa
namespace Go.Proofs.Ytfjnpegpfmaekaa
open Go.RowKit
set_option linter.unusedSimpArgs false

def Ro.live (r : Ro) : Prop := r.st = 1 ∨ r.st = 4
def Ro.next (r x : Ro) : Prop := r.live → x.live → x.stage = r.stage ∨ x.stage = r.stage + 1
theorem next_roS (r : Ro) {s : Int} (h1 : s ≠ 1) (h4 : s ≠ 4) : r.next (roS s) := fun _ h => by unfold Ro.live roS at h; simp only at h; omega
theorem next_same (r : Ro) : r.next r := fun _ _ => .inl rfl
theorem next_tick (r : Ro) (p : Pl) : r.next (tickR r p) := by
  unfold tickR closeR
  split
  · split
    · split
      · exact next_roS r (by decide) (by decide)
      · split
        · exact fun _ _ => .inl rfl
        · split
          · split
            · split
              · exact next_roS r (by decide) (by decide)
              · exact fun _ _ => .inr rfl
            · exact fun _ _ => .inl rfl
          · exact fun _ _ => .inl rfl
    · exact fun _ _ => .inl rfl
  · exact next_same r
theorem next_obs (r : Ro) (b : Bool) : r.next (obsV r b) := by
  unfold obsV
  split
  · exact fun _ _ => .inl rfl
  · exact next_same r
theorem next_cmd (r : Ro) (k : Int) (h : (cmdV r k).2 = 0) : r.next (cmdV r k).1 := by
  intro hr hx
  unfold Ro.live at hr
  unfold cmdV at h hx ⊢
  by_cases c1 : k = 1
  · rw [if_pos c1] at h hx ⊢; rw [if_neg (by omega)] at h; cases h
  rw [if_neg c1] at h hx ⊢
  by_cases c2 : k = 2
  · rw [if_pos c2] at h hx ⊢
    by_cases q : r.st = 1
    · rw [if_pos q]; exact .inl rfl
    · rw [if_neg q] at h; cases h
  rw [if_neg c2] at h hx ⊢
  by_cases c3 : k = 3
  · rw [if_pos c3] at h hx ⊢
    by_cases q : r.st = 4
    · rw [if_pos q]; exact .inl rfl
    · rw [if_neg q] at h; cases h
  rw [if_neg c3] at h hx ⊢
  by_cases c4 : k = 4
  · rw [if_pos c4] at h hx ⊢
    by_cases q : r.st = 1 ∨ r.st = 4
    · rw [if_pos q] at hx; exact absurd hx (by unfold Ro.live roS; decide)
    · rw [if_neg q] at h; cases h
  rw [if_neg c4] at h hx ⊢
  by_cases c5 : k = 5
  · rw [if_pos c5] at h hx ⊢
    by_cases q : (r.st = 1 ∨ r.st = 4) ∨ r.st = 2
    · rw [if_pos q] at hx; exact absurd hx (by unfold Ro.live roS; decide)
    · rw [if_neg q] at h; cases h
  rw [if_neg c5] at h hx ⊢
  by_cases c6 : k = 6
  · rw [if_pos c6] at hx; exact absurd hx (by unfold Ro.live roS; decide)
  · rw [if_neg c6] at h; cases h
theorem next_step (r : Ro) (p : Pl) (x : Int × Int) : r.next (stepV r p x) := by
  unfold stepV
  split
  · exact next_tick r p
  · split
    · exact next_obs r _
    · split
      · exact next_obs r _
      · split
        · split
          · rename_i h; exact next_cmd r _ h
          · exact next_same r
        · exact next_same r
theorem stage_in {p : Pl} (hp : p.ok = true) {s : Int} (h0 : 0 ≤ s) (h1 : s < p.ws.length) : 1 ≤ stageW p s := by
  have ha : ascK p.ws p.ws.length = true := by have := hp; unfold Pl.ok at this; rw [Bool.and_eq_true] at this; exact this.2
  have := (asc_at ha s.toNat (by omega)).1
  unfold stageW
  rw [if_pos ⟨hp, h0, h1⟩]
  exact this
theorem weight_rises {r x : Ro} {p : Pl} (hp : p.ok = true) (hr : r.live) (hx : x.live) (hn : r.next x) (hI : x.inv p) : weightV r p ≤ weightV x p := by
  have e1 : weightV r p = stageW p r.stage := if_pos hr
  have e2 : weightV x p = stageW p x.stage := if_pos hx
  rw [e1, e2]
  unfold Ro.inv at hI
  rcases hn hr hx with h | h
  · rw [h]; exact Int.le_refl _
  · have h2 := stage_in hp hI.2.1.1 hI.2.1.2
    rcases stage_facts p x.stage with h3 | ⟨_, _, h4, _, h5⟩
    · omega
    · rcases h5 with h5 | h5
      · rcases stage_facts p r.stage with h6 | ⟨_, _, h7, _⟩ <;> omega
      · rw [h, show r.stage + 1 - 1 = r.stage by omega] at h5
        rw [h]; omega
theorem weight_obs (r : Ro) (p : Pl) (b : Bool) : weightV (obsV r b) p = weightV r p := by
  unfold obsV
  split
  · rfl
  · rfl
theorem step_obs {r : Ro} {p : Pl} {x : Int × Int} (h : x.1 = 2 ∨ x.1 = 3) : weightV (stepV r p x) p = weightV r p := by
  unfold stepV
  rw [if_neg (by omega)]
  by_cases h2 : x.1 = 2
  · rw [if_pos h2]; exact weight_obs _ _ _
  · rw [if_neg h2, if_pos (by omega)]; exact weight_obs _ _ _
section
variable {P : Program} {Q : Exit → Act → World → Prop} {act : Act} {w : World} {o : Oper} {s : Spec}
theorem loc_lssR {x y : Operand} {t : TypeId} (ho : o.op = .binOp .lss 3 x y t) {n m : Int} (hx : act.eval x = .int .i64 n) (hy : act.eval y = .int .i64 m) (hn : ¬ n < m) (hs : s.p (.bool false) w) :
    o.wp Try.prog act w (fun a' w' => ∃ v, a' = act.put o.dst v ∧ Below w.heap.size w w' ∧ s.p v w') Q :=
  loc_run (v := .bool false) (by
    unfold execOp
    simp [ho, hx, hy, eqGuard, binOp, Op.intCmp, hn]) (Below.refl _ _) hs
theorem loc_eqlR {x : Operand} {t : TypeId} {m : Int} {y : Operand} (ho : o.op = .binOp .eql 3 x y t) {n : Int} {q : Bool} (hx : act.eval x = .int .i64 n) (hy : act.eval y = .int .i64 m) (hn : (n == m) = q) (hs : s.p (.bool q) w) :
    o.wp Try.prog act w (fun a' w' => ∃ v, a' = act.put o.dst v ∧ Below w.heap.size w w' ∧ s.p v w') Q :=
  loc_run (v := .bool q) (by
    unfold execOp
    simp [ho, hx, hy, eqGuard, binOp, Op.intCmp, ← hn]) (Below.refl _ _) hs
theorem loc_neqR {x y : Operand} {t : TypeId} (ho : o.op = .binOp .neq 3 x y t) {n : Int} (hx : act.eval x = .int .i64 n) (hy : act.eval y = .int .i64 n) (hs : s.p (.bool false) w) :
    o.wp Try.prog act w (fun a' w' => ∃ v, a' = act.put o.dst v ∧ Below w.heap.size w w' ∧ s.p v w') Q :=
  loc_run (v := .bool false) (by
    unfold execOp
    simp [ho, hx, hy, eqGuard, binOp, Op.intCmp]) (Below.refl _ _) hs
theorem loc_fieldIn {x : Operand} {i : Nat} (ho : o.op = .fieldAddr 24 x i) {p : Addr} (hx : act.eval x = .pointer (some p)) (hi : i < 2) (hs : s.p (.pointer (some (p.add i))) w) :
    o.wp Try.prog act w (fun a' w' => ∃ v, a' = act.put o.dst v ∧ Below w.heap.size w w' ∧ s.p v w') Q :=
  loc_field_G ho hx (by
    match i, hi with
    | 0, _ => simp [Instr.fieldAt, run_underlying Try.underlying24, Instr.sureAddr, fieldPlace]
    | 1, _ => simp [Instr.fieldAt, run_underlying Try.underlying24, Instr.sureAddr, fieldPlace]) hs
theorem rWeight_v {r : Ro} {p : Pl} {x : Int} {a : Option Addr} {c : Nat} {v u : Value} (w : World) (hv : v = .agg r.cells) (hu : u = PlV a c p) (h : IsInts w a p.ws c) (hx : weightV r p = x) :
    Calls Try.prog 14 #[v, u] w fun e w' => ∃ v', e = .returned v' ∧ Below w.heap.size w w' ∧ v' = .int .i64 x := by
  subst hv hu
  refine (rWeight_eq w h hx).mono ?_
  rintro e w' ⟨rfl, hb⟩
  exact ⟨_, rfl, hb, rfl⟩
end

set_option maxRecDepth 100000 in
set_option maxHeartbeats 8000000 in
theorem rolloutRises_any (la : Option Addr) (ln lc : Nat) (ma : Option Addr) (mn mc : Nat) (w : World) (hl : IntsF w la ln) (hn : ln ≤ maxLen) (hm : IntsF w ma mn) (hmn : mn ≤ maxLen) (hmc : mn ≤ mc) (hma : 0 < mn → ∃ ad, ma = some ad) :
    Calls Try.prog 7 #[.slice la ln lc, .slice ma mn mc] w fun e w' => e = .returned (.bool true) ∧ Below w.heap.size w w' := by
  have HIN := Box.mk (And.intro hl (And.intro hn (And.intro hm (And.intro hmn (And.intro hmc hma)))))
  clear hl hn hm hmn hmc hma
  go_enter Try.func7, Try.ntmps7
  go_wp2_with fail
  refine (roMade_any la ln lc ma mn mc w HIN.out.1 HIN.out.2.1 HIN.out.2.2.1 HIN.out.2.2.2.1 HIN.out.2.2.2.2.1 HIN.out.2.2.2.2.2).mono ?_
  rintro e w1 ⟨p, a, c, l, b, d, rfl, hM⟩
  have HM := Box.mk hM
  have hlen : l.length ≤ 160 := hM.2.2.2.2.1
  obtain ⟨W, hW⟩ : ∃ W, W = (w1.alloc (.cells (PlC a c p) 30)).alloc (.cells (roS 0).cells 28) := ⟨_, rfl⟩
  have HB := Box.mk (show Below w1.heap.size w1 W by rw [hW]; exact below_twoF (below_oneF w1 _) _)
  have HV := Box.mk (show VarA W w1.heap.size (PlC a c p) 30 by rw [hW]; exact (VarA.new _ _ _).below _)
  have HS := Box.mk (show VarA W (w1.heap.size + 1) (roS 0).cells 28 by rw [hW]; have := VarA.new (w1.alloc (.cells (PlC a c p) 30)) (roS 0).cells 28; rw [World.size_alloc] at this; exact this)
  clear hM HIN
  unfold PlV
  go_upto_region 3 with fail
  change Code.wp _ _ _ _ ((w1.alloc (.cells (PlC a c p) 30)).alloc (.cells (roS 0).cells 28))
  rw [← hW]
  clear hW
  generalize hgp : w1.heap.size = gp at *
  have HGP := Box.mk hgp
  clear hgp
  go_wp2_with fail
  go_loopw [8] (fun iv wr => ∃ k : Nat, k ≤ l.length ∧ iv = .int .i64 k ∧ Box (VarA wr (gp + 1) (runV p (l.take k)).cells 28 ∧ VarA wr gp (PlC a c p) 30 ∧ Below gp w1 wr)) (fun iv _ => l.length - (intOf iv).toNat)
  case atStart => exact ⟨0, Nat.zero_le _, rfl, ⟨HS.out, HV.out, HB.out⟩⟩
  case round =>
    clear HS HV HB
    obtain ⟨k, hk, rfl, HI⟩ := hrel
    have HB1 := Box.mk (show Below w1.heap.size w1 wr by rw [HGP.out]; exact HI.out.2.2)
    have hgl : gp + 1 < wr.heap.size := HI.out.1.lt
    by_cases hlt : k < l.length
    · obtain ⟨ad, rfl, _⟩ := HM.out.2.2.2.1 k hlt
      have HROW := Box.mk (fun w' (hb : Below w1.heap.size w1 w') => (HM.out.2.2.2.1.keep hb).row hlt)
      have HST := Box.mk (runV_snoc p l k hlt).symm
      have HINV := Box.mk (runV_inv HM.out.1 l k hk)
      have HINX := Box.mk (runV_inv HM.out.1 l (k + 1) (by omega))
      have HOKI := Box.mk (HM.out.2.2.2.2.2.2.1 l[k] (List.getElem_mem _))
      generalize l[k] = y at *
      obtain ⟨X, hX⟩ : ∃ X, runV p (l.take (k + 1)) = X := ⟨_, rfl⟩
      rw [hX] at HST HINX
      have HXE := Box.mk hX
      clear hX
      generalize runV p (l.take k) = r at *
      obtain ⟨r1, r2, r3, ⟨r4, r5, r6⟩⟩ := r
      obtain ⟨x1, x2, x3, ⟨x4, x5, x6⟩⟩ := X
      obtain ⟨y1, y2⟩ := y
      simp only [Ro.cells] at HI HROW
      go_upto_region 6 with fail
      rename_i K hK
      refine wp_region_last (S := [some (.val (.agg #[.int .i64 r1, .int .i64 r2, .int .i64 r3, .int .i64 r4, .int .i64 r5, .int .i64 r6])), some (.val (PlV a c p)), some (.val (.slice (some ad) l.length d)), some (.val (.int .i64 k)), some (.val (.pointer (some (ad.add (k * 2))))), some (.val (.agg #[.int .i64 y1, .int .i64 y2])), some (.val (.agg #[.int .i64 x1, .int .i64 x2, .int .i64 x3, .int .i64 x4, .int .i64 x5, .int .i64 x6])), some (.of (.rowNew wr.heap.size #[.int .i64 0, .int .i64 0, .int .i64 0, .int .i64 0, .int .i64 0, .int .i64 0] 28)), none]) 8
        (by kernel_rfl) (by kernel_rfl) (by kernel_rfl) (by kernel_rfl) rfl rfl rfl ?_ ?_
      · refine ⟨?_, ?_, ?_, ?_, ?_, ?_, ?_, ?_, trivial⟩ <;> intro a' w2 hb hf hd
        · exact ⟨wanted_none rfl, loc_load_rowG rfl (hf.base 7 rfl) (HI.out.1.keep hb).row Try.underlying28 rfl sizeRo rfl⟩
        · exact ⟨wanted_none rfl, loc_load_rowG rfl (hf.base 5 rfl) (HI.out.2.1.keep hb).row Try.underlying30 rfl (sizePl a c p) rfl⟩
        · exact ⟨wanted_none rfl, loc_move rfl (hf.base 6 rfl)⟩
        · exact ⟨wanted_none rfl, loc_move rfl (hf.base 8 rfl)⟩
        · exact ⟨wanted_none rfl, loc_index_G 2 rfl (hd 2 rfl) (hd 3 rfl) hlt (by kernel_rfl) (by kernel_rfl) rfl⟩
        · exact ⟨wanted_none rfl, loc_load_rowG rfl (hd 4 rfl) (HROW.out w2 (below_trans HB1.out hb)) Try.underlying24 rfl (sizeIn y1 y2) rfl⟩
        · refine ⟨wanted_none rfl, loc_call rfl (by kernel_rfl) ?_⟩
          show Calls _ _ #[a'.eval (.tmp 23), a'.eval (.tmp 24), a'.eval (.tmp 28)] w2 _
          rw [show a'.eval (.tmp 23) = .agg #[.int .i64 r1, .int .i64 r2, .int .i64 r3, .int .i64 r4, .int .i64 r5, .int .i64 r6] from hd 0 rfl, show a'.eval (.tmp 24) = PlV a c p from hd 1 rfl, show a'.eval (.tmp 28) = .agg #[.int .i64 y1, .int .i64 y2] from hd 5 rfl]
          refine (rStep_eq (r := ⟨r1, r2, r3, ⟨r4, r5, r6⟩⟩) (x := (y1, y2)) w2 HM.out.1 HINV.out (HM.out.2.2.1.keepP (below_trans HB1.out hb)) HST.out).mono ?_
          rintro e w3 ⟨rfl, h3⟩
          exact ⟨_, rfl, h3, rfl⟩
        · exact ⟨wanted_none rfl, loc_alloc_G rfl hb.size (by kernel_rfl) fun v w' h => h⟩
      · intro a' w2 hb hf hd
        refine ⟨wanted_none rfl, ?_⟩
        obtain ⟨q, e6, hqB, hq⟩ := hd 7 (by decide) (by decide)
        have ev : a'.eval (.tmp 29) = .agg #[.int .i64 x1, .int .i64 x2, .int .i64 x3, .int .i64 x4, .int .i64 x5, .int .i64 x6] := hd 6 (by decide) (by decide)
        have eq' : a'.eval (.tmp 9) = .pointer (some ⟨q, 0, none⟩) := e6
        refine wp_store_row 28 _ _ rfl q #[.int .i64 x1, .int .i64 x2, .int .i64 x3, .int .i64 x4, .int .i64 x5, .int .i64 x6] e6 ev 28 _ hq sizeRo rfl (oneRo ..) ?_
        have HB4 := Box.mk (show Below gp w1 (w2.setRow q #[.int .i64 x1, .int .i64 x2, .int .i64 x3, .int .i64 x4, .int .i64 x5, .int .i64 x6]) from below_setRow (HI.out.2.2.trans (hb.mono (by omega))) (by omega) _)
        have HR4 := Box.mk (show VarA (w2.setRow q #[.int .i64 x1, .int .i64 x2, .int .i64 x3, .int .i64 x4, .int .i64 x5, .int .i64 x6]) (gp + 1) #[.int .i64 r1, .int .i64 r2, .int .i64 r3, .int .i64 r4, .int .i64 r5, .int .i64 r6] 28 from (HI.out.1.keep hb).row_other (by omega))
        have HV4 := Box.mk (show VarA (w2.setRow q #[.int .i64 x1, .int .i64 x2, .int .i64 x3, .int .i64 x4, .int .i64 x5, .int .i64 x6]) gp (PlC a c p) 30 from (HI.out.2.1.keep hb).row_other (by omega))
        have HX4 := Box.mk (show VarA (w2.setRow q #[.int .i64 x1, .int .i64 x2, .int .i64 x3, .int .i64 x4, .int .i64 x5, .int .i64 x6]) q #[.int .i64 x1, .int .i64 x2, .int .i64 x3, .int .i64 x4, .int .i64 x5, .int .i64 x6] 28 from setRow_heap _ _ _ _ _ _ hq)
        have hqg : gp + 1 < q := by omega
        refine hK _ _ ?_
        rw [fr_putAll hf]
        simp only [putAll, ev, eq']
        clear hf hd hb HI hK e6 ev eq' hq HB1
        generalize a'.eval (.tmp 23) = u23
        generalize a'.eval (.tmp 24) = u24
        generalize a'.eval (.tmp 25) = u25
        generalize a'.eval (.tmp 26) = u26
        generalize a'.eval (.tmp 27) = u27
        generalize a'.eval (.tmp 28) = u28
        simp only [Act.put, List.setIfInBounds_toArray, List.set_cons_succ, List.set_cons_zero]
        change Code.wp _ _ _ (Act.mk _ _) _
        generalize (w2.setRow q #[.int .i64 x1, .int .i64 x2, .int .i64 x3, .int .i64 x4, .int .i64 x5, .int .i64 x6]) = w4 at *
        have a0 := HR4.out.cell (i := 0) (v := .int .i64 r1) rfl
        have b0 := HX4.out.cell (i := 0) (v := .int .i64 x1) rfl
        obtain ⟨lv, hlv⟩ : ∃ lv : Bool, lv = decide ((r1 = 1 ∨ r1 = 4) ∧ (x1 = 1 ∨ x1 = 4)) := ⟨_, rfl⟩
        have HLV := Box.mk hlv
        clear hlv
        go_upto_region 7 with fail
        go_cut [10] (fun v wx => w4 = wx ∧ v = .bool lv)
        case first =>
          have HG := Box.mk (show ∀ z : Bool, (decide ((r1 = 1 ∨ r1 = 4) ∧ (x1 = 1 ∨ x1 = 4)) = z) → Value.bool z = .bool lv from fun z h => by rw [HLV.out, h])
          by_cases h1 : r1 = 1
          · have e1 := beq_i_yes h1
            by_cases g1 : x1 = 1
            · have e2 := beq_i_yes g1
              go_wp2_with fail
              go_meet
              exact ⟨rfl, HG.out true (by simp [h1, g1])⟩
            · have e2 := beq_i_no g1
              by_cases g4 : x1 = 4
              · have e3 := beq_i_yes g4
                go_wp2_with fail
                go_meet
                exact ⟨rfl, HG.out true (by simp [h1, g4])⟩
              · have e3 := beq_i_no g4
                go_wp2_with fail
                go_meet
                exact ⟨rfl, HG.out false (by simp [g1, g4])⟩
          · have e1 := beq_i_no h1
            by_cases h4 : r1 = 4
            · have e4 := beq_i_yes h4
              by_cases g1 : x1 = 1
              · have e2 := beq_i_yes g1
                go_wp2_with fail
                go_meet
                exact ⟨rfl, HG.out true (by simp [h4, g1])⟩
              · have e2 := beq_i_no g1
                by_cases g4 : x1 = 4
                · have e3 := beq_i_yes g4
                  go_wp2_with fail
                  go_meet
                  exact ⟨rfl, HG.out true (by simp [h4, g4])⟩
                · have e3 := beq_i_no g4
                  go_wp2_with fail
                  go_meet
                  exact ⟨rfl, HG.out false (by simp [g1, g4])⟩
            · have e4 := beq_i_no h4
              go_wp2_with fail
              go_meet
              exact ⟨rfl, HG.out false (by simp [h1, h4])⟩
        case rest =>
          obtain ⟨rfl, rfl⟩ := hcut
          clear a0 b0
          have HC := Box.mk (And.intro HR4.out (And.intro HV4.out (And.intro HX4.out HB4.out)))
          have HB5 := Box.mk (show Below w1.heap.size w1 w4 by rw [HGP.out]; exact HB4.out)
          clear HR4 HV4 HX4 HB4
          obtain ⟨wr', hwr⟩ : ∃ z, weightV ⟨r1, r2, r3, ⟨r4, r5, r6⟩⟩ p = z := ⟨_, rfl⟩
          obtain ⟨wx', hwx⟩ : ∃ z, weightV ⟨x1, x2, x3, ⟨x4, x5, x6⟩⟩ p = z := ⟨_, rfl⟩
          have HWR := Box.mk hwr
          have HWX := Box.mk hwx
          have HLT := Box.mk (show lv = true → wr' ≤ wx' from fun h => by
            rw [HLV.out] at h
            have h2 := of_decide_eq_true h
            have := weight_rises HM.out.1 (r := ⟨r1, r2, r3, ⟨r4, r5, r6⟩⟩) (x := ⟨x1, x2, x3, ⟨x4, x5, x6⟩⟩) h2.1 h2.2 (HST.out ▸ next_step ⟨r1, r2, r3, ⟨r4, r5, r6⟩⟩ p (y1, y2)) HINX.out
            rw [hwr, hwx] at this
            exact this)
          have HWE := Box.mk (show (y1 = 2 ∨ y1 = 3) → weightV ⟨x1, x2, x3, ⟨x4, x5, x6⟩⟩ p = wr' from fun h => by
            have := step_obs (r := ⟨r1, r2, r3, ⟨r4, r5, r6⟩⟩) (p := p) (x := (y1, y2)) h
            rw [HST.out] at this
            rw [this, hwr])
          clear hwr hwx HLV
          cases lv
          · clear HLT
            go_upto_region 8 with fail
            rename_i K hK
            refine wp_region_skip (S := [.val (.bool false), .val (.bool false), .any, .any, .any, .any, .any, .any, .any, .val (.bool false)])
              (by kernel_rfl) (by kernel_rfl) (by kernel_rfl) ?_ ?_
            · refine ⟨?_, ?_, ?_, ?_, ?_, ?_, ?_, ?_, ?_, ?_, trivial⟩ <;> intro a' w2 hb hf hd
              · exact .inl ⟨wanted_none rfl, loc_move rfl (hf.base 10 rfl)⟩
              · exact .inl ⟨wanted_none rfl, loc_move rfl (hd 0 rfl)⟩
              · exact .inr ⟨wanted_no rfl rfl (hd 1 rfl), rfl⟩
              · exact .inr ⟨wanted_no rfl rfl (hd 1 rfl), rfl⟩
              · exact .inr ⟨wanted_no rfl rfl (hd 1 rfl), rfl⟩
              · exact .inr ⟨wanted_no rfl rfl (hd 1 rfl), rfl⟩
              · exact .inr ⟨wanted_no rfl rfl (hd 1 rfl), rfl⟩
              · exact .inr ⟨wanted_no rfl rfl (hd 1 rfl), rfl⟩
              · exact .inr ⟨wanted_no rfl rfl (hd 1 rfl), rfl⟩
              · exact .inl ⟨wanted_none rfl, loc_pickF rfl (hd 1 rfl) rfl⟩
            · intro a' w2 hb hf hd
              have ev : a'.eval (.tmp 57) = .bool false := hd 9 (by decide)
              replace HC := Box.mk (show VarA w2 (gp + 1) #[.int .i64 r1, .int .i64 r2, .int .i64 r3, .int .i64 r4, .int .i64 r5, .int .i64 r6] 28 ∧ VarA w2 gp (PlC a c p) 30 ∧ VarA w2 q #[.int .i64 x1, .int .i64 x2, .int .i64 x3, .int .i64 x4, .int .i64 x5, .int .i64 x6] 28 ∧ Below gp w1 w2 from
                ⟨HC.out.1.keep hb, HC.out.2.1.keep hb, HC.out.2.2.1.keep hb, HC.out.2.2.2.trans (hb.mono (by have := HC.out.1.lt; omega))⟩)
              replace HB5 := Box.mk (show Below w1.heap.size w1 w2 by rw [HGP.out]; exact HC.out.2.2.2)
              refine hK _ _ ?_
              rw [fr_putAll hf]
              simp only [putAll, ev]
              clear hf hd hb hK ev
              generalize a'.eval (.tmp 48) = u48
              generalize a'.eval (.tmp 49) = u49
              generalize a'.eval (.tmp 50) = u50
              generalize a'.eval (.tmp 51) = u51
              generalize a'.eval (.tmp 52) = u52
              generalize a'.eval (.tmp 53) = u53
              generalize a'.eval (.tmp 54) = u54
              generalize a'.eval (.tmp 55) = u55
              generalize a'.eval (.tmp 56) = u56
              simp only [Act.put, List.setIfInBounds_toArray, List.set_cons_succ, List.set_cons_zero]
              by_cases k2 : y1 = 2
              · have e2 := beq_i_yes k2
                replace HWE := Box.mk (HWE.out (.inl k2))
                clear k2
                go_upto_region 10 with fail
                rename_i K hK
                refine wp_region_skip (S := [.val (.slice (some ad) l.length d), .val (.int .i64 k), .val (.pointer (some (ad.add (k * 2)))), .val (.pointer (some ((ad.add (k * 2)).add 0))), .val (.int .i64 y1), .val (.bool true), .val (.bool true), .any, .any, .any, .any, .any, .any, .val (.bool true), .val (.bool true), .val (.agg #[.int .i64 x1, .int .i64 x2, .int .i64 x3, .int .i64 x4, .int .i64 x5, .int .i64 x6]), .val (PlV a c p), .val (.int .i64 wr'), .val (.agg #[.int .i64 r1, .int .i64 r2, .int .i64 r3, .int .i64 r4, .int .i64 r5, .int .i64 r6]), .val (PlV a c p), .val (.int .i64 wr'), .val (.bool false), .val (.bool false)])
                  (by kernel_rfl) (by kernel_rfl) (by kernel_rfl) ?_ ?_
                · refine ⟨?_, ?_, ?_, ?_, ?_, ?_, ?_, ?_, ?_, ?_, ?_, ?_, ?_, ?_, ?_, ?_, ?_, ?_, ?_, ?_, ?_, ?_, ?_, trivial⟩ <;> intro a' w2 hb hf hd
                  · exact .inl ⟨wanted_none rfl, loc_move rfl (hf.base 6 rfl)⟩
                  · exact .inl ⟨wanted_none rfl, loc_move rfl (hf.base 8 rfl)⟩
                  · exact .inl ⟨wanted_none rfl, loc_index_G 2 rfl (hd 0 rfl) (hd 1 rfl) hlt (by kernel_rfl) (by kernel_rfl) rfl⟩
                  · exact .inl ⟨wanted_none rfl, loc_fieldIn rfl (hd 2 rfl) (by decide) rfl⟩
                  · exact .inl ⟨wanted_none rfl, loc_load_int rfl (hd 3 rfl) (HROW.out w2 (below_trans HB5.out hb) 0 _ rfl) rfl⟩
                  · exact .inl ⟨wanted_none rfl, loc_eqlR rfl (hd 4 rfl) rfl e2 rfl⟩
                  · exact .inl ⟨wanted_none rfl, loc_move rfl (hd 5 rfl)⟩
                  · exact .inr ⟨wanted_no0 rfl rfl (hd 6 rfl), rfl⟩
                  · exact .inr ⟨wanted_no0 rfl rfl (hd 6 rfl), rfl⟩
                  · exact .inr ⟨wanted_no0 rfl rfl (hd 6 rfl), rfl⟩
                  · exact .inr ⟨wanted_no0 rfl rfl (hd 6 rfl), rfl⟩
                  · exact .inr ⟨wanted_no0 rfl rfl (hd 6 rfl), rfl⟩
                  · exact .inr ⟨wanted_no0 rfl rfl (hd 6 rfl), rfl⟩
                  · exact .inl ⟨wanted_none rfl, loc_pick rfl (hd 6 rfl) rfl⟩
                  · exact .inl ⟨wanted_none rfl, loc_move rfl (hd 13 rfl)⟩
                  · exact .inl ⟨wanted_true rfl rfl (hd 14 rfl), loc_load_rowG rfl (hf.base 9 rfl) (HC.out.2.2.1.keep hb).row Try.underlying28 rfl sizeRo rfl⟩
                  · exact .inl ⟨wanted_true rfl rfl (hd 14 rfl), loc_load_rowG rfl (hf.base 5 rfl) (HC.out.2.1.keep hb).row Try.underlying30 rfl (sizePl a c p) rfl⟩
                  · exact .inl ⟨wanted_true rfl rfl (hd 14 rfl), loc_call rfl (by kernel_rfl) (rWeight_v (r := ⟨x1, x2, x3, ⟨x4, x5, x6⟩⟩) (p := p) w2 (show a'.eval (.tmp 73) = _ from hd 15 rfl) (show a'.eval (.tmp 74) = _ from hd 16 rfl) (HM.out.2.2.1.keepP (below_trans HB5.out hb)) HWE.out)⟩
                  · exact .inl ⟨wanted_true rfl rfl (hd 14 rfl), loc_load_rowG rfl (hf.base 7 rfl) (HC.out.1.keep hb).row Try.underlying28 rfl sizeRo rfl⟩
                  · exact .inl ⟨wanted_true rfl rfl (hd 14 rfl), loc_load_rowG rfl (hf.base 5 rfl) (HC.out.2.1.keep hb).row Try.underlying30 rfl (sizePl a c p) rfl⟩
                  · exact .inl ⟨wanted_true rfl rfl (hd 14 rfl), loc_call rfl (by kernel_rfl) (rWeight_v (r := ⟨r1, r2, r3, ⟨r4, r5, r6⟩⟩) (p := p) w2 (show a'.eval (.tmp 76) = _ from hd 18 rfl) (show a'.eval (.tmp 77) = _ from hd 19 rfl) (HM.out.2.2.1.keepP (below_trans HB5.out hb)) HWR.out)⟩
                  · exact .inl ⟨wanted_true rfl rfl (hd 14 rfl), loc_neqR rfl (hd 17 rfl) (hd 20 rfl) rfl⟩
                  · exact .inl ⟨wanted_none rfl, loc_pick rfl (hd 14 rfl) (hd 21 rfl)⟩
                · intro a' w2 hb hf hd
                  have ev : a'.eval (.tmp 80) = .bool false := hd 22 (by decide)
                  replace HC := Box.mk (show VarA w2 (gp + 1) #[.int .i64 r1, .int .i64 r2, .int .i64 r3, .int .i64 r4, .int .i64 r5, .int .i64 r6] 28 ∧ VarA w2 gp (PlC a c p) 30 ∧ VarA w2 q #[.int .i64 x1, .int .i64 x2, .int .i64 x3, .int .i64 x4, .int .i64 x5, .int .i64 x6] 28 ∧ Below gp w1 w2 from
                    ⟨HC.out.1.keep hb, HC.out.2.1.keep hb, HC.out.2.2.1.keep hb, HC.out.2.2.2.trans (hb.mono (by have := HC.out.1.lt; omega))⟩)
                  replace HB5 := Box.mk (show Below w1.heap.size w1 w2 by rw [HGP.out]; exact HC.out.2.2.2)
                  refine hK _ _ ?_
                  rw [fr_putAll hf]
                  simp only [putAll, ev]
                  clear hf hd hb hK ev
                  generalize a'.eval (.tmp 58) = u58
                  generalize a'.eval (.tmp 59) = u59
                  generalize a'.eval (.tmp 60) = u60
                  generalize a'.eval (.tmp 61) = u61
                  generalize a'.eval (.tmp 62) = u62
                  generalize a'.eval (.tmp 63) = u63
                  generalize a'.eval (.tmp 64) = u64
                  generalize a'.eval (.tmp 65) = u65
                  generalize a'.eval (.tmp 66) = u66
                  generalize a'.eval (.tmp 67) = u67
                  generalize a'.eval (.tmp 68) = u68
                  generalize a'.eval (.tmp 69) = u69
                  generalize a'.eval (.tmp 70) = u70
                  generalize a'.eval (.tmp 71) = u71
                  generalize a'.eval (.tmp 72) = u72
                  generalize a'.eval (.tmp 73) = u73
                  generalize a'.eval (.tmp 74) = u74
                  generalize a'.eval (.tmp 75) = u75
                  generalize a'.eval (.tmp 76) = u76
                  generalize a'.eval (.tmp 77) = u77
                  generalize a'.eval (.tmp 78) = u78
                  generalize a'.eval (.tmp 79) = u79
                  simp only [Act.put, List.setIfInBounds_toArray, List.set_cons_succ, List.set_cons_zero]
                  have hI := HINX.out
                  unfold Ro.inv at hI
                  simp only at hI
                  have hs1 : ¬ x2 < 0 := by omega
                  have hs2 : x2 < (p.ws.length : Int) := hI.2.1.2
                  have hs3 : ¬ x3 < 0 := by omega
                  have hs4 : x3 < p.hold := hI.2.2.1.2
                  clear hI
                  have b0 := HC.out.2.2.1.cell (i := 0) (v := .int .i64 x1) rfl
                  have b1 := HC.out.2.2.1.cell (i := 1) (v := .int .i64 x2) rfl
                  have b2 := HC.out.2.2.1.cell (i := 2) (v := .int .i64 x3) rfl
                  have b3 := HC.out.2.2.1.cell (i := 3) (v := .int .i64 x4) rfl
                  have b4 := HC.out.2.2.1.cell (i := 4) (v := .int .i64 x5) rfl
                  have b5 := HC.out.2.2.1.cell (i := 5) (v := .int .i64 x6) rfl
                  have c0 := HC.out.2.1.cell (i := 0) (v := .slice a p.ws.length c) rfl
                  have c4 := HC.out.2.1.cell (i := 4) (v := .int .i64 p.hold) rfl
                  have HN := Box.mk (show VarA (w2.setRow (gp + 1) #[.int .i64 x1, .int .i64 x2, .int .i64 x3, .int .i64 x4, .int .i64 x5, .int .i64 x6]) (gp + 1) #[.int .i64 x1, .int .i64 x2, .int .i64 x3, .int .i64 x4, .int .i64 x5, .int .i64 x6] 28 ∧ VarA (w2.setRow (gp + 1) #[.int .i64 x1, .int .i64 x2, .int .i64 x3, .int .i64 x4, .int .i64 x5, .int .i64 x6]) gp (PlC a c p) 30 ∧ Below gp w1 (w2.setRow (gp + 1) #[.int .i64 x1, .int .i64 x2, .int .i64 x3, .int .i64 x4, .int .i64 x5, .int .i64 x6]) from
                    ⟨setRow_heap _ _ _ _ _ _ HC.out.1, HC.out.2.1.row_other (by omega), below_setRow HC.out.2.2.2 (by omega) _⟩)
                  go_wp2_with (refine wpList_store_row rfl 28 _ _ rfl (gp + 1) #[.int .i64 x1, .int .i64 x2, .int .i64 x3, .int .i64 x4, .int .i64 x5, .int .i64 x6] rfl rfl 28 _ HC.out.1 sizeRo rfl (oneRo ..) ?_)
                  go_roundw
                  case rel => exact ⟨k + 1, by omega, by go_num, ⟨by rw [HXE.out]; exact HN.out.1, HN.out.2.1, HN.out.2.2⟩⟩
                  case measure => simp [intOf]; omega
              · have e2 := beq_i_no k2
                by_cases k3 : y1 = 3
                · have e3 := beq_i_yes k3
                  replace HWE := Box.mk (HWE.out (.inr k3))
                  clear k2 k3
                  go_upto_region 10 with fail
                  rename_i K hK
                  refine wp_region_local (S := [.val (.slice (some ad) l.length d), .val (.int .i64 k), .val (.pointer (some (ad.add (k * 2)))), .val (.pointer (some ((ad.add (k * 2)).add 0))), .val (.int .i64 y1), .val (.bool false), .val (.bool false), .val (.slice (some ad) l.length d), .val (.int .i64 k), .val (.pointer (some (ad.add (k * 2)))), .val (.pointer (some ((ad.add (k * 2)).add 0))), .val (.int .i64 y1), .val (.bool true), .val (.bool true), .val (.bool true), .val (.agg #[.int .i64 x1, .int .i64 x2, .int .i64 x3, .int .i64 x4, .int .i64 x5, .int .i64 x6]), .val (PlV a c p), .val (.int .i64 wr'), .val (.agg #[.int .i64 r1, .int .i64 r2, .int .i64 r3, .int .i64 r4, .int .i64 r5, .int .i64 r6]), .val (PlV a c p), .val (.int .i64 wr'), .val (.bool false), .val (.bool false)])
                    (by kernel_rfl) (by kernel_rfl) (by kernel_rfl) ?_ ?_
                  · refine ⟨?_, ?_, ?_, ?_, ?_, ?_, ?_, ?_, ?_, ?_, ?_, ?_, ?_, ?_, ?_, ?_, ?_, ?_, ?_, ?_, ?_, ?_, ?_, trivial⟩ <;> intro a' w2 hb hf hd
                    · exact ⟨wanted_none rfl, loc_move rfl (hf.base 6 rfl)⟩
                    · exact ⟨wanted_none rfl, loc_move rfl (hf.base 8 rfl)⟩
                    · exact ⟨wanted_none rfl, loc_index_G 2 rfl (hd 0 rfl) (hd 1 rfl) hlt (by kernel_rfl) (by kernel_rfl) rfl⟩
                    · exact ⟨wanted_none rfl, loc_fieldIn rfl (hd 2 rfl) (by decide) rfl⟩
                    · exact ⟨wanted_none rfl, loc_load_int rfl (hd 3 rfl) (HROW.out w2 (below_trans HB5.out hb) 0 _ rfl) rfl⟩
                    · exact ⟨wanted_none rfl, loc_eqlR rfl (hd 4 rfl) rfl e2 rfl⟩
                    · exact ⟨wanted_none rfl, loc_move rfl (hd 5 rfl)⟩
                    · exact ⟨wanted_yes0 rfl rfl (hd 6 rfl), loc_move rfl (hf.base 6 rfl)⟩
                    · exact ⟨wanted_yes0 rfl rfl (hd 6 rfl), loc_move rfl (hf.base 8 rfl)⟩
                    · exact ⟨wanted_yes0 rfl rfl (hd 6 rfl), loc_index_G 2 rfl (hd 7 rfl) (hd 8 rfl) hlt (by kernel_rfl) (by kernel_rfl) rfl⟩
                    · exact ⟨wanted_yes0 rfl rfl (hd 6 rfl), loc_fieldIn rfl (hd 9 rfl) (by decide) rfl⟩
                    · exact ⟨wanted_yes0 rfl rfl (hd 6 rfl), loc_load_int rfl (hd 10 rfl) (HROW.out w2 (below_trans HB5.out hb) 0 _ rfl) rfl⟩
                    · exact ⟨wanted_yes0 rfl rfl (hd 6 rfl), loc_eqlR rfl (hd 11 rfl) rfl e3 rfl⟩
                    · exact ⟨wanted_none rfl, loc_pickF rfl (hd 6 rfl) (hd 12 rfl)⟩
                    · exact ⟨wanted_none rfl, loc_move rfl (hd 13 rfl)⟩
                    · exact ⟨wanted_true rfl rfl (hd 14 rfl), loc_load_rowG rfl (hf.base 9 rfl) (HC.out.2.2.1.keep hb).row Try.underlying28 rfl sizeRo rfl⟩
                    · exact ⟨wanted_true rfl rfl (hd 14 rfl), loc_load_rowG rfl (hf.base 5 rfl) (HC.out.2.1.keep hb).row Try.underlying30 rfl (sizePl a c p) rfl⟩
                    · exact ⟨wanted_true rfl rfl (hd 14 rfl), loc_call rfl (by kernel_rfl) (rWeight_v (r := ⟨x1, x2, x3, ⟨x4, x5, x6⟩⟩) (p := p) w2 (show a'.eval (.tmp 73) = _ from hd 15 rfl) (show a'.eval (.tmp 74) = _ from hd 16 rfl) (HM.out.2.2.1.keepP (below_trans HB5.out hb)) HWE.out)⟩
                    · exact ⟨wanted_true rfl rfl (hd 14 rfl), loc_load_rowG rfl (hf.base 7 rfl) (HC.out.1.keep hb).row Try.underlying28 rfl sizeRo rfl⟩
                    · exact ⟨wanted_true rfl rfl (hd 14 rfl), loc_load_rowG rfl (hf.base 5 rfl) (HC.out.2.1.keep hb).row Try.underlying30 rfl (sizePl a c p) rfl⟩
                    · exact ⟨wanted_true rfl rfl (hd 14 rfl), loc_call rfl (by kernel_rfl) (rWeight_v (r := ⟨r1, r2, r3, ⟨r4, r5, r6⟩⟩) (p := p) w2 (show a'.eval (.tmp 76) = _ from hd 18 rfl) (show a'.eval (.tmp 77) = _ from hd 19 rfl) (HM.out.2.2.1.keepP (below_trans HB5.out hb)) HWR.out)⟩
                    · exact ⟨wanted_true rfl rfl (hd 14 rfl), loc_neqR rfl (hd 17 rfl) (hd 20 rfl) rfl⟩
                    · exact ⟨wanted_none rfl, loc_pick rfl (hd 14 rfl) (hd 21 rfl)⟩
                  · intro a' w2 hb hf hd
                    have ev : a'.eval (.tmp 80) = .bool false := hd 22 (by decide)
                    replace HC := Box.mk (show VarA w2 (gp + 1) #[.int .i64 r1, .int .i64 r2, .int .i64 r3, .int .i64 r4, .int .i64 r5, .int .i64 r6] 28 ∧ VarA w2 gp (PlC a c p) 30 ∧ VarA w2 q #[.int .i64 x1, .int .i64 x2, .int .i64 x3, .int .i64 x4, .int .i64 x5, .int .i64 x6] 28 ∧ Below gp w1 w2 from
                      ⟨HC.out.1.keep hb, HC.out.2.1.keep hb, HC.out.2.2.1.keep hb, HC.out.2.2.2.trans (hb.mono (by have := HC.out.1.lt; omega))⟩)
                    replace HB5 := Box.mk (show Below w1.heap.size w1 w2 by rw [HGP.out]; exact HC.out.2.2.2)
                    refine hK _ _ ?_
                    rw [fr_putAll hf]
                    simp only [putAll, ev]
                    clear hf hd hb hK ev
                    generalize a'.eval (.tmp 58) = u58
                    generalize a'.eval (.tmp 59) = u59
                    generalize a'.eval (.tmp 60) = u60
                    generalize a'.eval (.tmp 61) = u61
                    generalize a'.eval (.tmp 62) = u62
                    generalize a'.eval (.tmp 63) = u63
                    generalize a'.eval (.tmp 64) = u64
                    generalize a'.eval (.tmp 65) = u65
                    generalize a'.eval (.tmp 66) = u66
                    generalize a'.eval (.tmp 67) = u67
                    generalize a'.eval (.tmp 68) = u68
                    generalize a'.eval (.tmp 69) = u69
                    generalize a'.eval (.tmp 70) = u70
                    generalize a'.eval (.tmp 71) = u71
                    generalize a'.eval (.tmp 72) = u72
                    generalize a'.eval (.tmp 73) = u73
                    generalize a'.eval (.tmp 74) = u74
                    generalize a'.eval (.tmp 75) = u75
                    generalize a'.eval (.tmp 76) = u76
                    generalize a'.eval (.tmp 77) = u77
                    generalize a'.eval (.tmp 78) = u78
                    generalize a'.eval (.tmp 79) = u79
                    simp only [Act.put, List.setIfInBounds_toArray, List.set_cons_succ, List.set_cons_zero]
                    have hI := HINX.out
                    unfold Ro.inv at hI
                    simp only at hI
                    have hs1 : ¬ x2 < 0 := by omega
                    have hs2 : x2 < (p.ws.length : Int) := hI.2.1.2
                    have hs3 : ¬ x3 < 0 := by omega
                    have hs4 : x3 < p.hold := hI.2.2.1.2
                    clear hI
                    have b0 := HC.out.2.2.1.cell (i := 0) (v := .int .i64 x1) rfl
                    have b1 := HC.out.2.2.1.cell (i := 1) (v := .int .i64 x2) rfl
                    have b2 := HC.out.2.2.1.cell (i := 2) (v := .int .i64 x3) rfl
                    have b3 := HC.out.2.2.1.cell (i := 3) (v := .int .i64 x4) rfl
                    have b4 := HC.out.2.2.1.cell (i := 4) (v := .int .i64 x5) rfl
                    have b5 := HC.out.2.2.1.cell (i := 5) (v := .int .i64 x6) rfl
                    have c0 := HC.out.2.1.cell (i := 0) (v := .slice a p.ws.length c) rfl
                    have c4 := HC.out.2.1.cell (i := 4) (v := .int .i64 p.hold) rfl
                    have HN := Box.mk (show VarA (w2.setRow (gp + 1) #[.int .i64 x1, .int .i64 x2, .int .i64 x3, .int .i64 x4, .int .i64 x5, .int .i64 x6]) (gp + 1) #[.int .i64 x1, .int .i64 x2, .int .i64 x3, .int .i64 x4, .int .i64 x5, .int .i64 x6] 28 ∧ VarA (w2.setRow (gp + 1) #[.int .i64 x1, .int .i64 x2, .int .i64 x3, .int .i64 x4, .int .i64 x5, .int .i64 x6]) gp (PlC a c p) 30 ∧ Below gp w1 (w2.setRow (gp + 1) #[.int .i64 x1, .int .i64 x2, .int .i64 x3, .int .i64 x4, .int .i64 x5, .int .i64 x6]) from
                      ⟨setRow_heap _ _ _ _ _ _ HC.out.1, HC.out.2.1.row_other (by omega), below_setRow HC.out.2.2.2 (by omega) _⟩)
                    go_wp2_with (refine wpList_store_row rfl 28 _ _ rfl (gp + 1) #[.int .i64 x1, .int .i64 x2, .int .i64 x3, .int .i64 x4, .int .i64 x5, .int .i64 x6] rfl rfl 28 _ HC.out.1 sizeRo rfl (oneRo ..) ?_)
                    go_roundw
                    case rel => exact ⟨k + 1, by omega, by go_num, ⟨by rw [HXE.out]; exact HN.out.1, HN.out.2.1, HN.out.2.2⟩⟩
                    case measure => simp [intOf]; omega
                · have e3 := beq_i_no k3
                  clear k2 k3
                  go_upto_region 10 with fail
                  rename_i K hK
                  refine wp_region_skip (S := [.val (.slice (some ad) l.length d), .val (.int .i64 k), .val (.pointer (some (ad.add (k * 2)))), .val (.pointer (some ((ad.add (k * 2)).add 0))), .val (.int .i64 y1), .val (.bool false), .val (.bool false), .val (.slice (some ad) l.length d), .val (.int .i64 k), .val (.pointer (some (ad.add (k * 2)))), .val (.pointer (some ((ad.add (k * 2)).add 0))), .val (.int .i64 y1), .val (.bool false), .val (.bool false), .val (.bool false), .any, .any, .any, .any, .any, .any, .any, .val (.bool false)])
                    (by kernel_rfl) (by kernel_rfl) (by kernel_rfl) ?_ ?_
                  · refine ⟨?_, ?_, ?_, ?_, ?_, ?_, ?_, ?_, ?_, ?_, ?_, ?_, ?_, ?_, ?_, ?_, ?_, ?_, ?_, ?_, ?_, ?_, ?_, trivial⟩ <;> intro a' w2 hb hf hd
                    · exact .inl ⟨wanted_none rfl, loc_move rfl (hf.base 6 rfl)⟩
                    · exact .inl ⟨wanted_none rfl, loc_move rfl (hf.base 8 rfl)⟩
                    · exact .inl ⟨wanted_none rfl, loc_index_G 2 rfl (hd 0 rfl) (hd 1 rfl) hlt (by kernel_rfl) (by kernel_rfl) rfl⟩
                    · exact .inl ⟨wanted_none rfl, loc_fieldIn rfl (hd 2 rfl) (by decide) rfl⟩
                    · exact .inl ⟨wanted_none rfl, loc_load_int rfl (hd 3 rfl) (HROW.out w2 (below_trans HB5.out hb) 0 _ rfl) rfl⟩
                    · exact .inl ⟨wanted_none rfl, loc_eqlR rfl (hd 4 rfl) rfl e2 rfl⟩
                    · exact .inl ⟨wanted_none rfl, loc_move rfl (hd 5 rfl)⟩
                    · exact .inl ⟨wanted_yes0 rfl rfl (hd 6 rfl), loc_move rfl (hf.base 6 rfl)⟩
                    · exact .inl ⟨wanted_yes0 rfl rfl (hd 6 rfl), loc_move rfl (hf.base 8 rfl)⟩
                    · exact .inl ⟨wanted_yes0 rfl rfl (hd 6 rfl), loc_index_G 2 rfl (hd 7 rfl) (hd 8 rfl) hlt (by kernel_rfl) (by kernel_rfl) rfl⟩
                    · exact .inl ⟨wanted_yes0 rfl rfl (hd 6 rfl), loc_fieldIn rfl (hd 9 rfl) (by decide) rfl⟩
                    · exact .inl ⟨wanted_yes0 rfl rfl (hd 6 rfl), loc_load_int rfl (hd 10 rfl) (HROW.out w2 (below_trans HB5.out hb) 0 _ rfl) rfl⟩
                    · exact .inl ⟨wanted_yes0 rfl rfl (hd 6 rfl), loc_eqlR rfl (hd 11 rfl) rfl e3 rfl⟩
                    · exact .inl ⟨wanted_none rfl, loc_pickF rfl (hd 6 rfl) (hd 12 rfl)⟩
                    · exact .inl ⟨wanted_none rfl, loc_move rfl (hd 13 rfl)⟩
                    · exact .inr ⟨wanted_no rfl rfl (hd 14 rfl), rfl⟩
                    · exact .inr ⟨wanted_no rfl rfl (hd 14 rfl), rfl⟩
                    · exact .inr ⟨wanted_no rfl rfl (hd 14 rfl), rfl⟩
                    · exact .inr ⟨wanted_no rfl rfl (hd 14 rfl), rfl⟩
                    · exact .inr ⟨wanted_no rfl rfl (hd 14 rfl), rfl⟩
                    · exact .inr ⟨wanted_no rfl rfl (hd 14 rfl), rfl⟩
                    · exact .inr ⟨wanted_no rfl rfl (hd 14 rfl), rfl⟩
                    · exact .inl ⟨wanted_none rfl, loc_pickF rfl (hd 14 rfl) rfl⟩
                  · intro a' w2 hb hf hd
                    have ev : a'.eval (.tmp 80) = .bool false := hd 22 (by decide)
                    replace HC := Box.mk (show VarA w2 (gp + 1) #[.int .i64 r1, .int .i64 r2, .int .i64 r3, .int .i64 r4, .int .i64 r5, .int .i64 r6] 28 ∧ VarA w2 gp (PlC a c p) 30 ∧ VarA w2 q #[.int .i64 x1, .int .i64 x2, .int .i64 x3, .int .i64 x4, .int .i64 x5, .int .i64 x6] 28 ∧ Below gp w1 w2 from
                      ⟨HC.out.1.keep hb, HC.out.2.1.keep hb, HC.out.2.2.1.keep hb, HC.out.2.2.2.trans (hb.mono (by have := HC.out.1.lt; omega))⟩)
                    replace HB5 := Box.mk (show Below w1.heap.size w1 w2 by rw [HGP.out]; exact HC.out.2.2.2)
                    refine hK _ _ ?_
                    rw [fr_putAll hf]
                    simp only [putAll, ev]
                    clear hf hd hb hK ev
                    generalize a'.eval (.tmp 58) = u58
                    generalize a'.eval (.tmp 59) = u59
                    generalize a'.eval (.tmp 60) = u60
                    generalize a'.eval (.tmp 61) = u61
                    generalize a'.eval (.tmp 62) = u62
                    generalize a'.eval (.tmp 63) = u63
                    generalize a'.eval (.tmp 64) = u64
                    generalize a'.eval (.tmp 65) = u65
                    generalize a'.eval (.tmp 66) = u66
                    generalize a'.eval (.tmp 67) = u67
                    generalize a'.eval (.tmp 68) = u68
                    generalize a'.eval (.tmp 69) = u69
                    generalize a'.eval (.tmp 70) = u70
                    generalize a'.eval (.tmp 71) = u71
                    generalize a'.eval (.tmp 72) = u72
                    generalize a'.eval (.tmp 73) = u73
                    generalize a'.eval (.tmp 74) = u74
                    generalize a'.eval (.tmp 75) = u75
                    generalize a'.eval (.tmp 76) = u76
                    generalize a'.eval (.tmp 77) = u77
                    generalize a'.eval (.tmp 78) = u78
                    generalize a'.eval (.tmp 79) = u79
                    simp only [Act.put, List.setIfInBounds_toArray, List.set_cons_succ, List.set_cons_zero]
                    have hI := HINX.out
                    unfold Ro.inv at hI
                    simp only at hI
                    have hs1 : ¬ x2 < 0 := by omega
                    have hs2 : x2 < (p.ws.length : Int) := hI.2.1.2
                    have hs3 : ¬ x3 < 0 := by omega
                    have hs4 : x3 < p.hold := hI.2.2.1.2
                    clear hI
                    have b0 := HC.out.2.2.1.cell (i := 0) (v := .int .i64 x1) rfl
                    have b1 := HC.out.2.2.1.cell (i := 1) (v := .int .i64 x2) rfl
                    have b2 := HC.out.2.2.1.cell (i := 2) (v := .int .i64 x3) rfl
                    have b3 := HC.out.2.2.1.cell (i := 3) (v := .int .i64 x4) rfl
                    have b4 := HC.out.2.2.1.cell (i := 4) (v := .int .i64 x5) rfl
                    have b5 := HC.out.2.2.1.cell (i := 5) (v := .int .i64 x6) rfl
                    have c0 := HC.out.2.1.cell (i := 0) (v := .slice a p.ws.length c) rfl
                    have c4 := HC.out.2.1.cell (i := 4) (v := .int .i64 p.hold) rfl
                    have HN := Box.mk (show VarA (w2.setRow (gp + 1) #[.int .i64 x1, .int .i64 x2, .int .i64 x3, .int .i64 x4, .int .i64 x5, .int .i64 x6]) (gp + 1) #[.int .i64 x1, .int .i64 x2, .int .i64 x3, .int .i64 x4, .int .i64 x5, .int .i64 x6] 28 ∧ VarA (w2.setRow (gp + 1) #[.int .i64 x1, .int .i64 x2, .int .i64 x3, .int .i64 x4, .int .i64 x5, .int .i64 x6]) gp (PlC a c p) 30 ∧ Below gp w1 (w2.setRow (gp + 1) #[.int .i64 x1, .int .i64 x2, .int .i64 x3, .int .i64 x4, .int .i64 x5, .int .i64 x6]) from
                      ⟨setRow_heap _ _ _ _ _ _ HC.out.1, HC.out.2.1.row_other (by omega), below_setRow HC.out.2.2.2 (by omega) _⟩)
                    go_wp2_with (refine wpList_store_row rfl 28 _ _ rfl (gp + 1) #[.int .i64 x1, .int .i64 x2, .int .i64 x3, .int .i64 x4, .int .i64 x5, .int .i64 x6] rfl rfl 28 _ HC.out.1 sizeRo rfl (oneRo ..) ?_)
                    go_roundw
                    case rel => exact ⟨k + 1, by omega, by go_num, ⟨by rw [HXE.out]; exact HN.out.1, HN.out.2.1, HN.out.2.2⟩⟩
                    case measure => simp [intOf]; omega
          · replace HLT := Box.mk (HLT.out rfl)
            go_upto_region 8 with fail
            rename_i K hK
            refine wp_region_local (S := [.val (.bool true), .val (.bool true), .val (.agg #[.int .i64 x1, .int .i64 x2, .int .i64 x3, .int .i64 x4, .int .i64 x5, .int .i64 x6]), .val (PlV a c p), .val (.int .i64 wx'), .val (.agg #[.int .i64 r1, .int .i64 r2, .int .i64 r3, .int .i64 r4, .int .i64 r5, .int .i64 r6]), .val (PlV a c p), .val (.int .i64 wr'), .val (.bool false), .val (.bool false)])
              (by kernel_rfl) (by kernel_rfl) (by kernel_rfl) ?_ ?_
            · refine ⟨?_, ?_, ?_, ?_, ?_, ?_, ?_, ?_, ?_, ?_, trivial⟩ <;> intro a' w2 hb hf hd
              · exact ⟨wanted_none rfl, loc_move rfl (hf.base 10 rfl)⟩
              · exact ⟨wanted_none rfl, loc_move rfl (hd 0 rfl)⟩
              · exact ⟨wanted_true rfl rfl (hd 1 rfl), loc_load_rowG rfl (hf.base 9 rfl) (HC.out.2.2.1.keep hb).row Try.underlying28 rfl sizeRo rfl⟩
              · exact ⟨wanted_true rfl rfl (hd 1 rfl), loc_load_rowG rfl (hf.base 5 rfl) (HC.out.2.1.keep hb).row Try.underlying30 rfl (sizePl a c p) rfl⟩
              · exact ⟨wanted_true rfl rfl (hd 1 rfl), loc_call rfl (by kernel_rfl) (rWeight_v (r := ⟨x1, x2, x3, ⟨x4, x5, x6⟩⟩) (p := p) w2 (show a'.eval (.tmp 50) = _ from hd 2 rfl) (show a'.eval (.tmp 51) = _ from hd 3 rfl) (HM.out.2.2.1.keepP (below_trans HB5.out hb)) HWX.out)⟩
              · exact ⟨wanted_true rfl rfl (hd 1 rfl), loc_load_rowG rfl (hf.base 7 rfl) (HC.out.1.keep hb).row Try.underlying28 rfl sizeRo rfl⟩
              · exact ⟨wanted_true rfl rfl (hd 1 rfl), loc_load_rowG rfl (hf.base 5 rfl) (HC.out.2.1.keep hb).row Try.underlying30 rfl (sizePl a c p) rfl⟩
              · exact ⟨wanted_true rfl rfl (hd 1 rfl), loc_call rfl (by kernel_rfl) (rWeight_v (r := ⟨r1, r2, r3, ⟨r4, r5, r6⟩⟩) (p := p) w2 (show a'.eval (.tmp 53) = _ from hd 5 rfl) (show a'.eval (.tmp 54) = _ from hd 6 rfl) (HM.out.2.2.1.keepP (below_trans HB5.out hb)) HWR.out)⟩
              · exact ⟨wanted_true rfl rfl (hd 1 rfl), loc_lssR rfl (hd 4 rfl) (hd 7 rfl) (Int.not_lt.2 HLT.out) rfl⟩
              · exact ⟨wanted_none rfl, loc_pick rfl (hd 1 rfl) (hd 8 rfl)⟩
            · intro a' w2 hb hf hd
              have ev : a'.eval (.tmp 57) = .bool false := hd 9 (by decide)
              replace HC := Box.mk (show VarA w2 (gp + 1) #[.int .i64 r1, .int .i64 r2, .int .i64 r3, .int .i64 r4, .int .i64 r5, .int .i64 r6] 28 ∧ VarA w2 gp (PlC a c p) 30 ∧ VarA w2 q #[.int .i64 x1, .int .i64 x2, .int .i64 x3, .int .i64 x4, .int .i64 x5, .int .i64 x6] 28 ∧ Below gp w1 w2 from
                ⟨HC.out.1.keep hb, HC.out.2.1.keep hb, HC.out.2.2.1.keep hb, HC.out.2.2.2.trans (hb.mono (by have := HC.out.1.lt; omega))⟩)
              replace HB5 := Box.mk (show Below w1.heap.size w1 w2 by rw [HGP.out]; exact HC.out.2.2.2)
              refine hK _ _ ?_
              rw [fr_putAll hf]
              simp only [putAll, ev]
              clear hf hd hb hK ev
              generalize a'.eval (.tmp 48) = u48
              generalize a'.eval (.tmp 49) = u49
              generalize a'.eval (.tmp 50) = u50
              generalize a'.eval (.tmp 51) = u51
              generalize a'.eval (.tmp 52) = u52
              generalize a'.eval (.tmp 53) = u53
              generalize a'.eval (.tmp 54) = u54
              generalize a'.eval (.tmp 55) = u55
              generalize a'.eval (.tmp 56) = u56
              simp only [Act.put, List.setIfInBounds_toArray, List.set_cons_succ, List.set_cons_zero]
              by_cases k2 : y1 = 2
              · have e2 := beq_i_yes k2
                replace HWE := Box.mk (HWE.out (.inl k2))
                clear k2
                go_upto_region 10 with fail
                rename_i K hK
                refine wp_region_skip (S := [.val (.slice (some ad) l.length d), .val (.int .i64 k), .val (.pointer (some (ad.add (k * 2)))), .val (.pointer (some ((ad.add (k * 2)).add 0))), .val (.int .i64 y1), .val (.bool true), .val (.bool true), .any, .any, .any, .any, .any, .any, .val (.bool true), .val (.bool true), .val (.agg #[.int .i64 x1, .int .i64 x2, .int .i64 x3, .int .i64 x4, .int .i64 x5, .int .i64 x6]), .val (PlV a c p), .val (.int .i64 wr'), .val (.agg #[.int .i64 r1, .int .i64 r2, .int .i64 r3, .int .i64 r4, .int .i64 r5, .int .i64 r6]), .val (PlV a c p), .val (.int .i64 wr'), .val (.bool false), .val (.bool false)])
                  (by kernel_rfl) (by kernel_rfl) (by kernel_rfl) ?_ ?_
                · refine ⟨?_, ?_, ?_, ?_, ?_, ?_, ?_, ?_, ?_, ?_, ?_, ?_, ?_, ?_, ?_, ?_, ?_, ?_, ?_, ?_, ?_, ?_, ?_, trivial⟩ <;> intro a' w2 hb hf hd
                  · exact .inl ⟨wanted_none rfl, loc_move rfl (hf.base 6 rfl)⟩
                  · exact .inl ⟨wanted_none rfl, loc_move rfl (hf.base 8 rfl)⟩
                  · exact .inl ⟨wanted_none rfl, loc_index_G 2 rfl (hd 0 rfl) (hd 1 rfl) hlt (by kernel_rfl) (by kernel_rfl) rfl⟩
                  · exact .inl ⟨wanted_none rfl, loc_fieldIn rfl (hd 2 rfl) (by decide) rfl⟩
                  · exact .inl ⟨wanted_none rfl, loc_load_int rfl (hd 3 rfl) (HROW.out w2 (below_trans HB5.out hb) 0 _ rfl) rfl⟩
                  · exact .inl ⟨wanted_none rfl, loc_eqlR rfl (hd 4 rfl) rfl e2 rfl⟩
                  · exact .inl ⟨wanted_none rfl, loc_move rfl (hd 5 rfl)⟩
                  · exact .inr ⟨wanted_no0 rfl rfl (hd 6 rfl), rfl⟩
                  · exact .inr ⟨wanted_no0 rfl rfl (hd 6 rfl), rfl⟩
                  · exact .inr ⟨wanted_no0 rfl rfl (hd 6 rfl), rfl⟩
                  · exact .inr ⟨wanted_no0 rfl rfl (hd 6 rfl), rfl⟩
                  · exact .inr ⟨wanted_no0 rfl rfl (hd 6 rfl), rfl⟩
                  · exact .inr ⟨wanted_no0 rfl rfl (hd 6 rfl), rfl⟩
                  · exact .inl ⟨wanted_none rfl, loc_pick rfl (hd 6 rfl) rfl⟩
                  · exact .inl ⟨wanted_none rfl, loc_move rfl (hd 13 rfl)⟩
                  · exact .inl ⟨wanted_true rfl rfl (hd 14 rfl), loc_load_rowG rfl (hf.base 9 rfl) (HC.out.2.2.1.keep hb).row Try.underlying28 rfl sizeRo rfl⟩
                  · exact .inl ⟨wanted_true rfl rfl (hd 14 rfl), loc_load_rowG rfl (hf.base 5 rfl) (HC.out.2.1.keep hb).row Try.underlying30 rfl (sizePl a c p) rfl⟩
                  · exact .inl ⟨wanted_true rfl rfl (hd 14 rfl), loc_call rfl (by kernel_rfl) (rWeight_v (r := ⟨x1, x2, x3, ⟨x4, x5, x6⟩⟩) (p := p) w2 (show a'.eval (.tmp 73) = _ from hd 15 rfl) (show a'.eval (.tmp 74) = _ from hd 16 rfl) (HM.out.2.2.1.keepP (below_trans HB5.out hb)) HWE.out)⟩
                  · exact .inl ⟨wanted_true rfl rfl (hd 14 rfl), loc_load_rowG rfl (hf.base 7 rfl) (HC.out.1.keep hb).row Try.underlying28 rfl sizeRo rfl⟩
                  · exact .inl ⟨wanted_true rfl rfl (hd 14 rfl), loc_load_rowG rfl (hf.base 5 rfl) (HC.out.2.1.keep hb).row Try.underlying30 rfl (sizePl a c p) rfl⟩
                  · exact .inl ⟨wanted_true rfl rfl (hd 14 rfl), loc_call rfl (by kernel_rfl) (rWeight_v (r := ⟨r1, r2, r3, ⟨r4, r5, r6⟩⟩) (p := p) w2 (show a'.eval (.tmp 76) = _ from hd 18 rfl) (show a'.eval (.tmp 77) = _ from hd 19 rfl) (HM.out.2.2.1.keepP (below_trans HB5.out hb)) HWR.out)⟩
                  · exact .inl ⟨wanted_true rfl rfl (hd 14 rfl), loc_neqR rfl (hd 17 rfl) (hd 20 rfl) rfl⟩
                  · exact .inl ⟨wanted_none rfl, loc_pick rfl (hd 14 rfl) (hd 21 rfl)⟩
                · intro a' w2 hb hf hd
                  have ev : a'.eval (.tmp 80) = .bool false := hd 22 (by decide)
                  replace HC := Box.mk (show VarA w2 (gp + 1) #[.int .i64 r1, .int .i64 r2, .int .i64 r3, .int .i64 r4, .int .i64 r5, .int .i64 r6] 28 ∧ VarA w2 gp (PlC a c p) 30 ∧ VarA w2 q #[.int .i64 x1, .int .i64 x2, .int .i64 x3, .int .i64 x4, .int .i64 x5, .int .i64 x6] 28 ∧ Below gp w1 w2 from
                    ⟨HC.out.1.keep hb, HC.out.2.1.keep hb, HC.out.2.2.1.keep hb, HC.out.2.2.2.trans (hb.mono (by have := HC.out.1.lt; omega))⟩)
                  replace HB5 := Box.mk (show Below w1.heap.size w1 w2 by rw [HGP.out]; exact HC.out.2.2.2)
                  refine hK _ _ ?_
                  rw [fr_putAll hf]
                  simp only [putAll, ev]
                  clear hf hd hb hK ev
                  generalize a'.eval (.tmp 58) = u58
                  generalize a'.eval (.tmp 59) = u59
                  generalize a'.eval (.tmp 60) = u60
                  generalize a'.eval (.tmp 61) = u61
                  generalize a'.eval (.tmp 62) = u62
                  generalize a'.eval (.tmp 63) = u63
                  generalize a'.eval (.tmp 64) = u64
                  generalize a'.eval (.tmp 65) = u65
                  generalize a'.eval (.tmp 66) = u66
                  generalize a'.eval (.tmp 67) = u67
                  generalize a'.eval (.tmp 68) = u68
                  generalize a'.eval (.tmp 69) = u69
                  generalize a'.eval (.tmp 70) = u70
                  generalize a'.eval (.tmp 71) = u71
                  generalize a'.eval (.tmp 72) = u72
                  generalize a'.eval (.tmp 73) = u73
                  generalize a'.eval (.tmp 74) = u74
                  generalize a'.eval (.tmp 75) = u75
                  generalize a'.eval (.tmp 76) = u76
                  generalize a'.eval (.tmp 77) = u77
                  generalize a'.eval (.tmp 78) = u78
                  generalize a'.eval (.tmp 79) = u79
                  simp only [Act.put, List.setIfInBounds_toArray, List.set_cons_succ, List.set_cons_zero]
                  have hI := HINX.out
                  unfold Ro.inv at hI
                  simp only at hI
                  have hs1 : ¬ x2 < 0 := by omega
                  have hs2 : x2 < (p.ws.length : Int) := hI.2.1.2
                  have hs3 : ¬ x3 < 0 := by omega
                  have hs4 : x3 < p.hold := hI.2.2.1.2
                  clear hI
                  have b0 := HC.out.2.2.1.cell (i := 0) (v := .int .i64 x1) rfl
                  have b1 := HC.out.2.2.1.cell (i := 1) (v := .int .i64 x2) rfl
                  have b2 := HC.out.2.2.1.cell (i := 2) (v := .int .i64 x3) rfl
                  have b3 := HC.out.2.2.1.cell (i := 3) (v := .int .i64 x4) rfl
                  have b4 := HC.out.2.2.1.cell (i := 4) (v := .int .i64 x5) rfl
                  have b5 := HC.out.2.2.1.cell (i := 5) (v := .int .i64 x6) rfl
                  have c0 := HC.out.2.1.cell (i := 0) (v := .slice a p.ws.length c) rfl
                  have c4 := HC.out.2.1.cell (i := 4) (v := .int .i64 p.hold) rfl
                  have HN := Box.mk (show VarA (w2.setRow (gp + 1) #[.int .i64 x1, .int .i64 x2, .int .i64 x3, .int .i64 x4, .int .i64 x5, .int .i64 x6]) (gp + 1) #[.int .i64 x1, .int .i64 x2, .int .i64 x3, .int .i64 x4, .int .i64 x5, .int .i64 x6] 28 ∧ VarA (w2.setRow (gp + 1) #[.int .i64 x1, .int .i64 x2, .int .i64 x3, .int .i64 x4, .int .i64 x5, .int .i64 x6]) gp (PlC a c p) 30 ∧ Below gp w1 (w2.setRow (gp + 1) #[.int .i64 x1, .int .i64 x2, .int .i64 x3, .int .i64 x4, .int .i64 x5, .int .i64 x6]) from
                    ⟨setRow_heap _ _ _ _ _ _ HC.out.1, HC.out.2.1.row_other (by omega), below_setRow HC.out.2.2.2 (by omega) _⟩)
                  go_wp2_with (refine wpList_store_row rfl 28 _ _ rfl (gp + 1) #[.int .i64 x1, .int .i64 x2, .int .i64 x3, .int .i64 x4, .int .i64 x5, .int .i64 x6] rfl rfl 28 _ HC.out.1 sizeRo rfl (oneRo ..) ?_)
                  go_roundw
                  case rel => exact ⟨k + 1, by omega, by go_num, ⟨by rw [HXE.out]; exact HN.out.1, HN.out.2.1, HN.out.2.2⟩⟩
                  case measure => simp [intOf]; omega
              · have e2 := beq_i_no k2
                by_cases k3 : y1 = 3
                · have e3 := beq_i_yes k3
                  replace HWE := Box.mk (HWE.out (.inr k3))
                  clear k2 k3
                  go_upto_region 10 with fail
                  rename_i K hK
                  refine wp_region_local (S := [.val (.slice (some ad) l.length d), .val (.int .i64 k), .val (.pointer (some (ad.add (k * 2)))), .val (.pointer (some ((ad.add (k * 2)).add 0))), .val (.int .i64 y1), .val (.bool false), .val (.bool false), .val (.slice (some ad) l.length d), .val (.int .i64 k), .val (.pointer (some (ad.add (k * 2)))), .val (.pointer (some ((ad.add (k * 2)).add 0))), .val (.int .i64 y1), .val (.bool true), .val (.bool true), .val (.bool true), .val (.agg #[.int .i64 x1, .int .i64 x2, .int .i64 x3, .int .i64 x4, .int .i64 x5, .int .i64 x6]), .val (PlV a c p), .val (.int .i64 wr'), .val (.agg #[.int .i64 r1, .int .i64 r2, .int .i64 r3, .int .i64 r4, .int .i64 r5, .int .i64 r6]), .val (PlV a c p), .val (.int .i64 wr'), .val (.bool false), .val (.bool false)])
                    (by kernel_rfl) (by kernel_rfl) (by kernel_rfl) ?_ ?_
                  · refine ⟨?_, ?_, ?_, ?_, ?_, ?_, ?_, ?_, ?_, ?_, ?_, ?_, ?_, ?_, ?_, ?_, ?_, ?_, ?_, ?_, ?_, ?_, ?_, trivial⟩ <;> intro a' w2 hb hf hd
                    · exact ⟨wanted_none rfl, loc_move rfl (hf.base 6 rfl)⟩
                    · exact ⟨wanted_none rfl, loc_move rfl (hf.base 8 rfl)⟩
                    · exact ⟨wanted_none rfl, loc_index_G 2 rfl (hd 0 rfl) (hd 1 rfl) hlt (by kernel_rfl) (by kernel_rfl) rfl⟩
                    · exact ⟨wanted_none rfl, loc_fieldIn rfl (hd 2 rfl) (by decide) rfl⟩
                    · exact ⟨wanted_none rfl, loc_load_int rfl (hd 3 rfl) (HROW.out w2 (below_trans HB5.out hb) 0 _ rfl) rfl⟩
                    · exact ⟨wanted_none rfl, loc_eqlR rfl (hd 4 rfl) rfl e2 rfl⟩
                    · exact ⟨wanted_none rfl, loc_move rfl (hd 5 rfl)⟩
                    · exact ⟨wanted_yes0 rfl rfl (hd 6 rfl), loc_move rfl (hf.base 6 rfl)⟩
                    · exact ⟨wanted_yes0 rfl rfl (hd 6 rfl), loc_move rfl (hf.base 8 rfl)⟩
                    · exact ⟨wanted_yes0 rfl rfl (hd 6 rfl), loc_index_G 2 rfl (hd 7 rfl) (hd 8 rfl) hlt (by kernel_rfl) (by kernel_rfl) rfl⟩
                    · exact ⟨wanted_yes0 rfl rfl (hd 6 rfl), loc_fieldIn rfl (hd 9 rfl) (by decide) rfl⟩
                    · exact ⟨wanted_yes0 rfl rfl (hd 6 rfl), loc_load_int rfl (hd 10 rfl) (HROW.out w2 (below_trans HB5.out hb) 0 _ rfl) rfl⟩
                    · exact ⟨wanted_yes0 rfl rfl (hd 6 rfl), loc_eqlR rfl (hd 11 rfl) rfl e3 rfl⟩
                    · exact ⟨wanted_none rfl, loc_pickF rfl (hd 6 rfl) (hd 12 rfl)⟩
                    · exact ⟨wanted_none rfl, loc_move rfl (hd 13 rfl)⟩
                    · exact ⟨wanted_true rfl rfl (hd 14 rfl), loc_load_rowG rfl (hf.base 9 rfl) (HC.out.2.2.1.keep hb).row Try.underlying28 rfl sizeRo rfl⟩
                    · exact ⟨wanted_true rfl rfl (hd 14 rfl), loc_load_rowG rfl (hf.base 5 rfl) (HC.out.2.1.keep hb).row Try.underlying30 rfl (sizePl a c p) rfl⟩
                    · exact ⟨wanted_true rfl rfl (hd 14 rfl), loc_call rfl (by kernel_rfl) (rWeight_v (r := ⟨x1, x2, x3, ⟨x4, x5, x6⟩⟩) (p := p) w2 (show a'.eval (.tmp 73) = _ from hd 15 rfl) (show a'.eval (.tmp 74) = _ from hd 16 rfl) (HM.out.2.2.1.keepP (below_trans HB5.out hb)) HWE.out)⟩
                    · exact ⟨wanted_true rfl rfl (hd 14 rfl), loc_load_rowG rfl (hf.base 7 rfl) (HC.out.1.keep hb).row Try.underlying28 rfl sizeRo rfl⟩
                    · exact ⟨wanted_true rfl rfl (hd 14 rfl), loc_load_rowG rfl (hf.base 5 rfl) (HC.out.2.1.keep hb).row Try.underlying30 rfl (sizePl a c p) rfl⟩
                    · exact ⟨wanted_true rfl rfl (hd 14 rfl), loc_call rfl (by kernel_rfl) (rWeight_v (r := ⟨r1, r2, r3, ⟨r4, r5, r6⟩⟩) (p := p) w2 (show a'.eval (.tmp 76) = _ from hd 18 rfl) (show a'.eval (.tmp 77) = _ from hd 19 rfl) (HM.out.2.2.1.keepP (below_trans HB5.out hb)) HWR.out)⟩
                    · exact ⟨wanted_true rfl rfl (hd 14 rfl), loc_neqR rfl (hd 17 rfl) (hd 20 rfl) rfl⟩
                    · exact ⟨wanted_none rfl, loc_pick rfl (hd 14 rfl) (hd 21 rfl)⟩
                  · intro a' w2 hb hf hd
                    have ev : a'.eval (.tmp 80) = .bool false := hd 22 (by decide)
                    replace HC := Box.mk (show VarA w2 (gp + 1) #[.int .i64 r1, .int .i64 r2, .int .i64 r3, .int .i64 r4, .int .i64 r5, .int .i64 r6] 28 ∧ VarA w2 gp (PlC a c p) 30 ∧ VarA w2 q #[.int .i64 x1, .int .i64 x2, .int .i64 x3, .int .i64 x4, .int .i64 x5, .int .i64 x6] 28 ∧ Below gp w1 w2 from
                      ⟨HC.out.1.keep hb, HC.out.2.1.keep hb, HC.out.2.2.1.keep hb, HC.out.2.2.2.trans (hb.mono (by have := HC.out.1.lt; omega))⟩)
                    replace HB5 := Box.mk (show Below w1.heap.size w1 w2 by rw [HGP.out]; exact HC.out.2.2.2)
                    refine hK _ _ ?_
                    rw [fr_putAll hf]
                    simp only [putAll, ev]
                    clear hf hd hb hK ev
                    generalize a'.eval (.tmp 58) = u58
                    generalize a'.eval (.tmp 59) = u59
                    generalize a'.eval (.tmp 60) = u60
                    generalize a'.eval (.tmp 61) = u61
                    generalize a'.eval (.tmp 62) = u62
                    generalize a'.eval (.tmp 63) = u63
                    generalize a'.eval (.tmp 64) = u64
                    generalize a'.eval (.tmp 65) = u65
                    generalize a'.eval (.tmp 66) = u66
                    generalize a'.eval (.tmp 67) = u67
                    generalize a'.eval (.tmp 68) = u68
                    generalize a'.eval (.tmp 69) = u69
                    generalize a'.eval (.tmp 70) = u70
                    generalize a'.eval (.tmp 71) = u71
                    generalize a'.eval (.tmp 72) = u72
                    generalize a'.eval (.tmp 73) = u73
                    generalize a'.eval (.tmp 74) = u74
                    generalize a'.eval (.tmp 75) = u75
                    generalize a'.eval (.tmp 76) = u76
                    generalize a'.eval (.tmp 77) = u77
                    generalize a'.eval (.tmp 78) = u78
                    generalize a'.eval (.tmp 79) = u79
                    simp only [Act.put, List.setIfInBounds_toArray, List.set_cons_succ, List.set_cons_zero]
                    have hI := HINX.out
                    unfold Ro.inv at hI
                    simp only at hI
                    have hs1 : ¬ x2 < 0 := by omega
                    have hs2 : x2 < (p.ws.length : Int) := hI.2.1.2
                    have hs3 : ¬ x3 < 0 := by omega
                    have hs4 : x3 < p.hold := hI.2.2.1.2
                    clear hI
                    have b0 := HC.out.2.2.1.cell (i := 0) (v := .int .i64 x1) rfl
                    have b1 := HC.out.2.2.1.cell (i := 1) (v := .int .i64 x2) rfl
                    have b2 := HC.out.2.2.1.cell (i := 2) (v := .int .i64 x3) rfl
                    have b3 := HC.out.2.2.1.cell (i := 3) (v := .int .i64 x4) rfl
                    have b4 := HC.out.2.2.1.cell (i := 4) (v := .int .i64 x5) rfl
                    have b5 := HC.out.2.2.1.cell (i := 5) (v := .int .i64 x6) rfl
                    have c0 := HC.out.2.1.cell (i := 0) (v := .slice a p.ws.length c) rfl
                    have c4 := HC.out.2.1.cell (i := 4) (v := .int .i64 p.hold) rfl
                    have HN := Box.mk (show VarA (w2.setRow (gp + 1) #[.int .i64 x1, .int .i64 x2, .int .i64 x3, .int .i64 x4, .int .i64 x5, .int .i64 x6]) (gp + 1) #[.int .i64 x1, .int .i64 x2, .int .i64 x3, .int .i64 x4, .int .i64 x5, .int .i64 x6] 28 ∧ VarA (w2.setRow (gp + 1) #[.int .i64 x1, .int .i64 x2, .int .i64 x3, .int .i64 x4, .int .i64 x5, .int .i64 x6]) gp (PlC a c p) 30 ∧ Below gp w1 (w2.setRow (gp + 1) #[.int .i64 x1, .int .i64 x2, .int .i64 x3, .int .i64 x4, .int .i64 x5, .int .i64 x6]) from
                      ⟨setRow_heap _ _ _ _ _ _ HC.out.1, HC.out.2.1.row_other (by omega), below_setRow HC.out.2.2.2 (by omega) _⟩)
                    go_wp2_with (refine wpList_store_row rfl 28 _ _ rfl (gp + 1) #[.int .i64 x1, .int .i64 x2, .int .i64 x3, .int .i64 x4, .int .i64 x5, .int .i64 x6] rfl rfl 28 _ HC.out.1 sizeRo rfl (oneRo ..) ?_)
                    go_roundw
                    case rel => exact ⟨k + 1, by omega, by go_num, ⟨by rw [HXE.out]; exact HN.out.1, HN.out.2.1, HN.out.2.2⟩⟩
                    case measure => simp [intOf]; omega
                · have e3 := beq_i_no k3
                  clear k2 k3
                  go_upto_region 10 with fail
                  rename_i K hK
                  refine wp_region_skip (S := [.val (.slice (some ad) l.length d), .val (.int .i64 k), .val (.pointer (some (ad.add (k * 2)))), .val (.pointer (some ((ad.add (k * 2)).add 0))), .val (.int .i64 y1), .val (.bool false), .val (.bool false), .val (.slice (some ad) l.length d), .val (.int .i64 k), .val (.pointer (some (ad.add (k * 2)))), .val (.pointer (some ((ad.add (k * 2)).add 0))), .val (.int .i64 y1), .val (.bool false), .val (.bool false), .val (.bool false), .any, .any, .any, .any, .any, .any, .any, .val (.bool false)])
                    (by kernel_rfl) (by kernel_rfl) (by kernel_rfl) ?_ ?_
                  · refine ⟨?_, ?_, ?_, ?_, ?_, ?_, ?_, ?_, ?_, ?_, ?_, ?_, ?_, ?_, ?_, ?_, ?_, ?_, ?_, ?_, ?_, ?_, ?_, trivial⟩ <;> intro a' w2 hb hf hd
                    · exact .inl ⟨wanted_none rfl, loc_move rfl (hf.base 6 rfl)⟩
                    · exact .inl ⟨wanted_none rfl, loc_move rfl (hf.base 8 rfl)⟩
                    · exact .inl ⟨wanted_none rfl, loc_index_G 2 rfl (hd 0 rfl) (hd 1 rfl) hlt (by kernel_rfl) (by kernel_rfl) rfl⟩
                    · exact .inl ⟨wanted_none rfl, loc_fieldIn rfl (hd 2 rfl) (by decide) rfl⟩
                    · exact .inl ⟨wanted_none rfl, loc_load_int rfl (hd 3 rfl) (HROW.out w2 (below_trans HB5.out hb) 0 _ rfl) rfl⟩
                    · exact .inl ⟨wanted_none rfl, loc_eqlR rfl (hd 4 rfl) rfl e2 rfl⟩
                    · exact .inl ⟨wanted_none rfl, loc_move rfl (hd 5 rfl)⟩
                    · exact .inl ⟨wanted_yes0 rfl rfl (hd 6 rfl), loc_move rfl (hf.base 6 rfl)⟩
                    · exact .inl ⟨wanted_yes0 rfl rfl (hd 6 rfl), loc_move rfl (hf.base 8 rfl)⟩
                    · exact .inl ⟨wanted_yes0 rfl rfl (hd 6 rfl), loc_index_G 2 rfl (hd 7 rfl) (hd 8 rfl) hlt (by kernel_rfl) (by kernel_rfl) rfl⟩
                    · exact .inl ⟨wanted_yes0 rfl rfl (hd 6 rfl), loc_fieldIn rfl (hd 9 rfl) (by decide) rfl⟩
                    · exact .inl ⟨wanted_yes0 rfl rfl (hd 6 rfl), loc_load_int rfl (hd 10 rfl) (HROW.out w2 (below_trans HB5.out hb) 0 _ rfl) rfl⟩
                    · exact .inl ⟨wanted_yes0 rfl rfl (hd 6 rfl), loc_eqlR rfl (hd 11 rfl) rfl e3 rfl⟩
                    · exact .inl ⟨wanted_none rfl, loc_pickF rfl (hd 6 rfl) (hd 12 rfl)⟩
                    · exact .inl ⟨wanted_none rfl, loc_move rfl (hd 13 rfl)⟩
                    · exact .inr ⟨wanted_no rfl rfl (hd 14 rfl), rfl⟩
                    · exact .inr ⟨wanted_no rfl rfl (hd 14 rfl), rfl⟩
                    · exact .inr ⟨wanted_no rfl rfl (hd 14 rfl), rfl⟩
                    · exact .inr ⟨wanted_no rfl rfl (hd 14 rfl), rfl⟩
                    · exact .inr ⟨wanted_no rfl rfl (hd 14 rfl), rfl⟩
                    · exact .inr ⟨wanted_no rfl rfl (hd 14 rfl), rfl⟩
                    · exact .inr ⟨wanted_no rfl rfl (hd 14 rfl), rfl⟩
                    · exact .inl ⟨wanted_none rfl, loc_pickF rfl (hd 14 rfl) rfl⟩
                  · intro a' w2 hb hf hd
                    have ev : a'.eval (.tmp 80) = .bool false := hd 22 (by decide)
                    replace HC := Box.mk (show VarA w2 (gp + 1) #[.int .i64 r1, .int .i64 r2, .int .i64 r3, .int .i64 r4, .int .i64 r5, .int .i64 r6] 28 ∧ VarA w2 gp (PlC a c p) 30 ∧ VarA w2 q #[.int .i64 x1, .int .i64 x2, .int .i64 x3, .int .i64 x4, .int .i64 x5, .int .i64 x6] 28 ∧ Below gp w1 w2 from
                      ⟨HC.out.1.keep hb, HC.out.2.1.keep hb, HC.out.2.2.1.keep hb, HC.out.2.2.2.trans (hb.mono (by have := HC.out.1.lt; omega))⟩)
                    replace HB5 := Box.mk (show Below w1.heap.size w1 w2 by rw [HGP.out]; exact HC.out.2.2.2)
                    refine hK _ _ ?_
                    rw [fr_putAll hf]
                    simp only [putAll, ev]
                    clear hf hd hb hK ev
                    generalize a'.eval (.tmp 58) = u58
                    generalize a'.eval (.tmp 59) = u59
                    generalize a'.eval (.tmp 60) = u60
                    generalize a'.eval (.tmp 61) = u61
                    generalize a'.eval (.tmp 62) = u62
                    generalize a'.eval (.tmp 63) = u63
                    generalize a'.eval (.tmp 64) = u64
                    generalize a'.eval (.tmp 65) = u65
                    generalize a'.eval (.tmp 66) = u66
                    generalize a'.eval (.tmp 67) = u67
                    generalize a'.eval (.tmp 68) = u68
                    generalize a'.eval (.tmp 69) = u69
                    generalize a'.eval (.tmp 70) = u70
                    generalize a'.eval (.tmp 71) = u71
                    generalize a'.eval (.tmp 72) = u72
                    generalize a'.eval (.tmp 73) = u73
                    generalize a'.eval (.tmp 74) = u74
                    generalize a'.eval (.tmp 75) = u75
                    generalize a'.eval (.tmp 76) = u76
                    generalize a'.eval (.tmp 77) = u77
                    generalize a'.eval (.tmp 78) = u78
                    generalize a'.eval (.tmp 79) = u79
                    simp only [Act.put, List.setIfInBounds_toArray, List.set_cons_succ, List.set_cons_zero]
                    have hI := HINX.out
                    unfold Ro.inv at hI
                    simp only at hI
                    have hs1 : ¬ x2 < 0 := by omega
                    have hs2 : x2 < (p.ws.length : Int) := hI.2.1.2
                    have hs3 : ¬ x3 < 0 := by omega
                    have hs4 : x3 < p.hold := hI.2.2.1.2
                    clear hI
                    have b0 := HC.out.2.2.1.cell (i := 0) (v := .int .i64 x1) rfl
                    have b1 := HC.out.2.2.1.cell (i := 1) (v := .int .i64 x2) rfl
                    have b2 := HC.out.2.2.1.cell (i := 2) (v := .int .i64 x3) rfl
                    have b3 := HC.out.2.2.1.cell (i := 3) (v := .int .i64 x4) rfl
                    have b4 := HC.out.2.2.1.cell (i := 4) (v := .int .i64 x5) rfl
                    have b5 := HC.out.2.2.1.cell (i := 5) (v := .int .i64 x6) rfl
                    have c0 := HC.out.2.1.cell (i := 0) (v := .slice a p.ws.length c) rfl
                    have c4 := HC.out.2.1.cell (i := 4) (v := .int .i64 p.hold) rfl
                    have HN := Box.mk (show VarA (w2.setRow (gp + 1) #[.int .i64 x1, .int .i64 x2, .int .i64 x3, .int .i64 x4, .int .i64 x5, .int .i64 x6]) (gp + 1) #[.int .i64 x1, .int .i64 x2, .int .i64 x3, .int .i64 x4, .int .i64 x5, .int .i64 x6] 28 ∧ VarA (w2.setRow (gp + 1) #[.int .i64 x1, .int .i64 x2, .int .i64 x3, .int .i64 x4, .int .i64 x5, .int .i64 x6]) gp (PlC a c p) 30 ∧ Below gp w1 (w2.setRow (gp + 1) #[.int .i64 x1, .int .i64 x2, .int .i64 x3, .int .i64 x4, .int .i64 x5, .int .i64 x6]) from
                      ⟨setRow_heap _ _ _ _ _ _ HC.out.1, HC.out.2.1.row_other (by omega), below_setRow HC.out.2.2.2 (by omega) _⟩)
                    go_wp2_with (refine wpList_store_row rfl 28 _ _ rfl (gp + 1) #[.int .i64 x1, .int .i64 x2, .int .i64 x3, .int .i64 x4, .int .i64 x5, .int .i64 x6] rfl rfl 28 _ HC.out.1 sizeRo rfl (oneRo ..) ?_)
                    go_roundw
                    case rel => exact ⟨k + 1, by omega, by go_num, ⟨by rw [HXE.out]; exact HN.out.1, HN.out.2.1, HN.out.2.2⟩⟩
                    case measure => simp [intOf]; omega
    · go_wp2_with fail
      refine (roAwake_any wr).mono ?_
      rintro e w5 ⟨rfl, hb5⟩
      go_wp2_with fail
      go_ret
      exact ⟨rfl, below_trans HM.out.2.2.2.2.2.2.2 (below_trans HB1.out hb5)⟩
end Go.Proofs.Ytfjnpegpfmaekaa
