/- The law NormalTwice. -/
import Derived.Test.YtnpbnaapbimjaaaGreatDoorPk1
import Derived.Test.YtnpbnaapbimjaaaGreatDoorPk2
import Derived.Test.YtnpbnaapbimjaaaGreatDoorPk3
import Derived.Test.YtnpbnaapbimjaaaGreatDoorPk4
import Derived.Test.YtnpbnaapbimjaaaGreatDoorRows
import Derived.WalkKit
import Derived.WalkSpells
import Derived.WalkLawsBesides
import Derived.BigQuiet
import Derived.Deep.QuietTactic
import Derived.Lib.Bytealg
import Derived.Lib.IndexLaws
import Derived.Lib.Hide
import Derived.Laws.IdiomStrings
import Derived.Lib.SlTrimSet
import Derived.Lib.IndexBytes
import Derived.Lib.Split
import Derived.Deep.AppendLies
import Derived.Shelf.SlGeneric
import Derived.Shelf.Strings.SlTrimAscii
import Derived.Shelf.Strings.SplitShaped
import Derived.Shelf.LaysM
import Derived.Shelf.Strings.BuilderK
import Derived.Shelf.Strconv.Itoa4
import Derived.Shelf.Strings.Builder2
import Derived.Shelf.SlLaysF0
import Derived.Shelf.SlLaysM
import Derived.Shelf.SlLaysN
import Derived.Ground.SlsfProg
import Derived.Ground.SlgmProg
import Derived.Ground.SlgnProg
import Derived.Test.YtnpbnaapbimjaaaGreatDoorProg
import Derived.Lib.SplitLaws
import Derived.WalkSmall
import Derived.ProofKit
import Derived.OpenShut
import Derived.Lib.Strings
import Derived.SliceStrings
import Derived.Deep.Quiet
import Derived.Tactics
import Derived.KernelRfl
import Derived.Below
import Derived.Laws.Bits64
import Derived.Lib.SlBytesConst
import Derived.Maps.AppendAt
import Derived.Laws.AppendOwnNone
import Derived.Great.BuildSlice
import Derived.Laws.Rows
import Derived.Laws.BitsAllLaws
import Derived.Laws.Shifts
import Derived.Maps.OwnOps
import Derived.Maps.OwnSet
import Derived.Deep.SlicePairs
import Derived.Lib.AppendZerosOnto
import Derived.Lib.AppendStr
import Derived.Laws.CopyOwn
import Derived.OwnWalk
import Derived.Laws.Strings3
import Derived.Laws.Concat
import Derived.Lib.ItoaMem
import Derived.Deep.RegionHeld3
import Derived.IntWalk
import Derived.Sort.Grow
import Derived.Lib.LaidTab
import Derived.LaidSub
import Derived.Sort.Walk0
import Derived.Laws.OwnMore
import Derived.ArgAppend
import Derived.Shelf.Strings.OnBuilder
import Derived.Laws.Tables
import Derived.Maps.RangeWalk
import Derived.Lib.SlicesCompact
import Derived.Shelf.SlSortCmp.Insertion
import Derived.Sort.Statements
import Derived.Shelf.SlSortCmp.WholeK
import Derived.Shelf.SlSortCmp.NoneTotal
import Derived.Shelf.SortM.Plain
import Derived.Shelf.SlicesG.CompactS
import Derived.Shelf.Small.Strs
import Derived.Sort.OwnSorted
import Derived.Deep.DeepCutAuto
import Derived.Deep.CutBlock
namespace Go.Proofs.YtnpbnaapbimjaaaGreatDoor
open Go.RowKit
set_option linter.unusedSimpArgs false
set_option linter.unusedVariables false

def etagN : ByteArray := ⟨#[101, 116, 97, 103]⟩
def etagP : ByteArray := ⟨#[69, 84, 97, 103]⟩
theorem low_etag : lowS etagP = lowS etagN := by decide +kernel
theorem etag_same (s : ByteArray) (h : inFoldL [etagN] s = false) : inFoldL [etagP] s = false := by
  rw [inFoldL_one] at h ⊢
  unfold foldS at h ⊢
  rw [low_etag]; exact h
theorem sorted_at : ∀ {l : List ByteArray}, SortedS l → ∀ j (h : j + 1 < l.length), ltS l[j] l[j + 1] = true
  | [], _, j, h => absurd h (by simp)
  | [_], _, j, h => absurd h (by simp)
  | x :: y :: r, hs, 0, h => hs.1 y (List.mem_cons_self ..)
  | x :: y :: r, hs, j + 1, h => sorted_at hs.2 j (by simpa using h)
theorem leq_no {a b : ByteArray} (h : ltS b a = true) : (Op.bytesLess a.toList b.toList || a.toList == b.toList) = false := by
  have h1 : ltS a b = false := by
    cases hc : ltS a b with
    | false => rfl
    | true => have := ltS_trans h hc; rw [ltS_irr] at this; cases this
  have h2 : (a.toList == b.toList) = false := by
    rw [beq_eq_false_iff_ne]
    intro e
    rw [ba_eq.2 e, ltS_irr] at h; cases h
  rw [h2, Bool.or_false]; exact h1
section
variable {Q : Exit → Act → World → Prop} {act : Act} {w : World} {o : Oper} {s : Spec}
theorem loc_fieldN {x : Operand} (ho : o.op = .fieldAddr 34 x 0) {p : Addr} (hx : act.eval x = .pointer (some p)) (hs : s.p (.pointer (some p)) w) :
    o.wp Tryz.prog act w (fun a' w' => ∃ v, a' = act.put o.dst v ∧ Below w.heap.size w w' ∧ s.p v w') Q :=
  loc_field_G ho hx (by simp [Instr.fieldAt, run_underlying Tryz.underlying34, Instr.sureAddr, fieldPlace, Addr.add]) hs
theorem loc_neqStr {x y : Operand} {t : TypeId} (ho : o.op = .binOp .neq 9 x y t) {a : ByteArray} (hx : act.eval x = .string a) (hy : act.eval y = .string a) (hs : s.p (.bool false) w) :
    o.wp Tryz.prog act w (fun a' w' => ∃ v, a' = act.put o.dst v ∧ Below w.heap.size w w' ∧ s.p v w') Q :=
  loc_run (v := .bool false) (by
    unfold execOp
    simp [ho, hx, hy, eqGuard, binOp, Op.stringOp]) (Below.refl _ _) hs
theorem loc_leqStr {x y : Operand} {t : TypeId} (ho : o.op = .binOp .leq 9 x y t) {a b : ByteArray} (hx : act.eval x = .string a) (hy : act.eval y = .string b) (h : (Op.bytesLess a.toList b.toList || a.toList == b.toList) = false) (hs : s.p (.bool false) w) :
    o.wp Tryz.prog act w (fun a' w' => ∃ v, a' = act.put o.dst v ∧ Below w.heap.size w w' ∧ s.p v w') Q :=
  loc_run (v := .bool false) (by
    unfold execOp
    simp only [ho, hx, hy]
    simp [eqGuard, binOp, Op.stringOp, h]) (Below.refl _ _) hs
theorem loc_gtr0 {x : Operand} {t : TypeId} (ho : o.op = .binOp .gtr 3 x (.const (.int .i64 0)) t) {k : Nat} {b : Bool} (hx : act.eval x = .int .i64 k) (hb : decide (0 < k) = b) (hs : s.p (.bool b) w) :
    o.wp Tryz.prog act w (fun a' w' => ∃ v, a' = act.put o.dst v ∧ Below w.heap.size w w' ∧ s.p v w') Q :=
  loc_run (v := .bool b) (by
    unfold execOp
    simp only [ho, hx]
    subst hb
    simp [Act.eval, eqGuard, binOp, Op.intCmp]) (Below.refl _ _) hs
theorem loc_sub1N {x : Operand} {t : TypeId} (ho : o.op = .binOp .sub 3 x (.const (.int .i64 1)) t) {m : Nat} (hx : act.eval x = .int .i64 ((m + 1 : Nat) : Int)) (hn : m ≤ 1000000) (hs : s.p (.int .i64 (m : Int)) w) :
    o.wp Tryz.prog act w (fun a' w' => ∃ v, a' = act.put o.dst v ∧ Below w.heap.size w w' ∧ s.p v w') Q :=
  loc_run (v := .int .i64 (m : Int)) (by
    have e : IntKind.i64.wrap (((m : Int) + 1) - 1) = (m : Int) := by
      simp only [IntKind.wrap, IntKind.bits, IntKind.signed]; simp; omega
    have h : (Op.intArith .sub .i64 ((m : Int) + 1) 1).run Tryz.prog w = .ok (.int .i64 (m : Int)) w := by
      unfold Op.intArith
      show (pure (Value.int .i64 (IntKind.i64.wrap ((m : Int) + 1 - 1))) : Sem Value).run Tryz.prog w = _
      rw [e]; rfl
    unfold execOp
    simp only [ho, hx]
    simp only [Act.eval, eqGuard, binOp]
    simp [h, Result.andThen]) (Below.refl _ _) hs
theorem refLower_v {n m : ByteArray} {v : Value} (w : World) (hv : v = .string n) (hs : n.size ≤ maxLen) (hm : lowS n = m) :
    Calls Tryz.prog 13 #[v] w fun e w' => ∃ v', e = .returned v' ∧ Below w.heap.size w w' ∧ v' = .string m := by
  subst hv hm
  refine (refLower_any n w hs).mono ?_
  rintro e w' ⟨rfl, hb⟩
  exact ⟨_, rfl, hb, rfl⟩
end

set_option maxRecDepth 100000 in
set_option maxHeartbeats 8000000 in
theorem normalTwice_any (la : Option Addr) (ln lc : Nat) (l : List Fld) (a : Option Addr) (cap : Nat) (wild : Bool) (w : World) (hl : IntsF w la ln) (hn : ln ≤ maxLen) (h : FldsC w a l cap) (hs : SmallF l) (hcap : l.length ≤ cap) (hcm : cap ≤ maxLen) (mm : Int) (hmx : MaxOk w mm) :
    Calls Tryz.prog 4 #[.slice la ln lc, .slice a l.length cap, .bool wild] w fun e w' => e = .returned (.bool true) ∧ Below w.heap.size w w' := by
  have HIN := Box.mk (And.intro h (And.intro hs (And.intro hcap (And.intro hcm (And.intro hl hn)))))
  have HMX := Box.mk hmx
  clear hl hn h hs hcap hcm hmx
  go_enter Tryz.func4, Tryz.ntmps4
  go_wp2_with fail
  refine (nmMade_any l a cap la ln lc wild w HIN.out.1 HIN.out.2.1 HIN.out.2.2.1 HIN.out.2.2.2.1 HIN.out.2.2.2.2.1 HIN.out.2.2.2.2.2).mono ?_
  rintro e w1 ⟨X, xa, xc, rfl, hM⟩
  have HM := Box.mk hM
  have hx30 : X.length ≤ 30 := hM.2.2.1
  have HMED := Box.mk (medF_small hM.2.2.2.1 (by omega))
  obtain ⟨Y, hY⟩ : ∃ Y, fieldsN X [etagN] = Y := ⟨_, rfl⟩
  have HY := Box.mk hY
  have HYM := Box.mk (show MedF Y by rw [← hY]; exact medF_fields hM.2.2.2.1 (by omega))
  have hy30 : Y.length ≤ 30 := by rw [← hY]; have := fieldsN_len X [etagN]; omega
  have HYL := Box.mk (show ∀ f ∈ Y, lowS f.1 = f.1 by rw [← hY]; exact fieldsN_low X _)
  have HYS := Box.mk (show SortedS (Y.map (·.1)) by rw [← hY]; exact fieldsN_sorted X _)
  have HY1 := Box.mk (show fieldsN Y [etagP] = Y by rw [← hY]; exact fieldsN_twice etag_same)
  have HY2 := Box.mk (show fieldsN Y [] = Y by rw [← hY]; exact fieldsN_twice fun _ _ => rfl)
  clear hM HIN hY
  obtain ⟨W1, hW1⟩ : ∃ W1, W1 = w1.alloc (.cells #[.string etagN] 9) := ⟨_, rfl⟩
  have HB1 := Box.mk (show Below w.heap.size w W1 by rw [hW1]; exact below_twoF HM.out.2.2.2.2 _)
  have HX1 := Box.mk (show FldsC W1 xa X xc by rw [hW1]; exact HM.out.1.keep (below_oneF _ _))
  have HS1 := Box.mk (show StrsC W1 (some ⟨w1.heap.size, 0, none⟩) [etagN] 1 by rw [hW1]; exact strsC_one w1 etagN _)
  go_wp2_with fail
  change Calls _ _ #[.slice xa X.length xc, .slice (some ⟨w1.heap.size, 0, none⟩) ([etagN] : List ByteArray).length 1] (w1.alloc (.cells #[.string etagN] 9)) _
  rw [← hW1]
  clear hW1
  refine (nFields_eq W1 (HMX.out.keep HB1.out) HX1.out HM.out.2.1 HMED.out HS1.out (by unfold maxLen; decide +kernel) (by decide) HY.out).mono ?_
  rintro e w2 ⟨ya, yc, rfl, h1, h2, h3⟩
  have HV := Box.mk h1
  have HB2 := Box.mk (below_trans HB1.out h3)
  have hyc : Y.length ≤ yc := h2
  clear h1 h2 h3 HX1 HS1 HB1 HM HMED HY
  go_wp2_with fail
  go_loopw [9] (fun iv wr => ∃ j : Nat, j ≤ Y.length ∧ iv = .int .i64 j ∧ Box (Below w2.heap.size w2 wr)) (fun iv _ => Y.length - (intOf iv).toNat)
  case atStart => exact ⟨0, Nat.zero_le _, rfl, ⟨Below.refl _ _⟩⟩
  case round =>
    obtain ⟨j, hj, rfl, HBJ⟩ := hrel
    by_cases hlt : j < Y.length
    · obtain ⟨x, rfl, hc1, _⟩ := HV.out.1 j hlt
      have HC := Box.mk hc1
      have HSZ := Box.mk (show Y[j].1.size ≤ maxLen from (HYM.out.short Y[j] (List.getElem_mem _)).1)
      have HLW := Box.mk (HYL.out Y[j] (List.getElem_mem _))
      clear hc1
      cases j with
      | zero =>
        generalize Y[0].1 = nm at *
        go_upto_region 6 with fail
        rename_i K hK
        refine wp_region_skip (S := [.val (.slice (some x) Y.length yc), .val (.int .i64 ((0 : Nat) : Int)), .val (.pointer (some (x.add (0 * 2)))), .val (.pointer (some (x.add (0 * 2)))), .val (.string nm), .val (.slice (some x) Y.length yc), .val (.int .i64 ((0 : Nat) : Int)), .val (.pointer (some (x.add (0 * 2)))), .val (.pointer (some (x.add (0 * 2)))), .val (.string nm), .val (.string nm), .val (.bool false), .val (.bool false), .val (.int .i64 ((0 : Nat) : Int)), .val (.bool false), .val (.bool false), .any, .any, .any, .any, .any, .any, .any, .any, .any, .any, .any, .any, .val (.bool false), .val (.bool false)])
          (by kernel_rfl) (by kernel_rfl) (by kernel_rfl) ?_ ?_
        · refine ⟨?_, ?_, ?_, ?_, ?_, ?_, ?_, ?_, ?_, ?_, ?_, ?_, ?_, ?_, ?_, ?_, ?_, ?_, ?_, ?_, ?_, ?_, ?_, ?_, ?_, ?_, ?_, ?_, ?_, ?_, trivial⟩ <;> intro a' w6 hb hf hd
          · exact .inl ⟨wanted_none rfl, loc_move rfl (hf.base 8 rfl)⟩
          · exact .inl ⟨wanted_none rfl, loc_move rfl (hf.base 9 rfl)⟩
          · exact .inl ⟨wanted_none rfl, loc_index_G 2 rfl (hd 0 rfl) (hd 1 rfl) hlt (by kernel_rfl) (by kernel_rfl) rfl⟩
          · exact .inl ⟨wanted_none rfl, loc_fieldN rfl (hd 2 rfl) rfl⟩
          · exact .inl ⟨wanted_none rfl, loc_load_cellG rfl (hd 3 rfl) (below_cell (below_trans HBJ.out hb) HC.out) agg_strN rfl⟩
          · exact .inl ⟨wanted_none rfl, loc_move rfl (hf.base 8 rfl)⟩
          · exact .inl ⟨wanted_none rfl, loc_move rfl (hf.base 9 rfl)⟩
          · exact .inl ⟨wanted_none rfl, loc_index_G 2 rfl (hd 5 rfl) (hd 6 rfl) hlt (by kernel_rfl) (by kernel_rfl) rfl⟩
          · exact .inl ⟨wanted_none rfl, loc_fieldN rfl (hd 7 rfl) rfl⟩
          · exact .inl ⟨wanted_none rfl, loc_load_cellG rfl (hd 8 rfl) (below_cell (below_trans HBJ.out hb) HC.out) agg_strN rfl⟩
          · exact .inl ⟨wanted_none rfl, loc_call rfl (by kernel_rfl) (refLower_v w6 (hd 9 rfl) HSZ.out HLW.out)⟩
          · exact .inl ⟨wanted_none rfl, loc_neqStr rfl (hd 4 rfl) (hd 10 rfl) rfl⟩
          · exact .inl ⟨wanted_none rfl, loc_move rfl (hd 11 rfl)⟩
          · exact .inl ⟨wanted_yes0 rfl rfl (hd 12 rfl), loc_move rfl (hf.base 9 rfl)⟩
          · exact .inl ⟨wanted_yes0 rfl rfl (hd 12 rfl), loc_gtr0 rfl (hd 13 rfl) (by simp) rfl⟩
          · exact .inl ⟨wanted_yes0 rfl rfl (hd 12 rfl), loc_move rfl (hd 14 rfl)⟩
          · exact .inr ⟨wanted_no rfl rfl (hd 15 rfl), rfl⟩
          · exact .inr ⟨wanted_no rfl rfl (hd 15 rfl), rfl⟩
          · exact .inr ⟨wanted_no rfl rfl (hd 15 rfl), rfl⟩
          · exact .inr ⟨wanted_no rfl rfl (hd 15 rfl), rfl⟩
          · exact .inr ⟨wanted_no rfl rfl (hd 15 rfl), rfl⟩
          · exact .inr ⟨wanted_no rfl rfl (hd 15 rfl), rfl⟩
          · exact .inr ⟨wanted_no rfl rfl (hd 15 rfl), rfl⟩
          · exact .inr ⟨wanted_no rfl rfl (hd 15 rfl), rfl⟩
          · exact .inr ⟨wanted_no rfl rfl (hd 15 rfl), rfl⟩
          · exact .inr ⟨wanted_no rfl rfl (hd 15 rfl), rfl⟩
          · exact .inr ⟨wanted_no rfl rfl (hd 15 rfl), rfl⟩
          · exact .inr ⟨wanted_no rfl rfl (hd 15 rfl), rfl⟩
          · exact .inl ⟨wanted_yes0 rfl rfl (hd 12 rfl), loc_pickF rfl (hd 15 rfl) rfl⟩
          · exact .inl ⟨wanted_none rfl, loc_pickF rfl (hd 12 rfl) (hd 28 rfl)⟩
        · intro a' w6 hb hf hd
          have ev : a'.eval (.tmp 52) = .bool false := hd 29 (by decide)
          have HBN := Box.mk (below_trans HBJ.out hb)
          refine hK _ _ ?_
          rw [fr_putAll hf]
          simp only [putAll, ev]
          clear hf hd hb hK ev
          generalize a'.eval (.tmp 23) = u23
          generalize a'.eval (.tmp 24) = u24
          generalize a'.eval (.tmp 25) = u25
          generalize a'.eval (.tmp 26) = u26
          generalize a'.eval (.tmp 27) = u27
          generalize a'.eval (.tmp 28) = u28
          generalize a'.eval (.tmp 29) = u29
          generalize a'.eval (.tmp 30) = u30
          generalize a'.eval (.tmp 31) = u31
          generalize a'.eval (.tmp 32) = u32
          generalize a'.eval (.tmp 33) = u33
          generalize a'.eval (.tmp 34) = u34
          generalize a'.eval (.tmp 35) = u35
          generalize a'.eval (.tmp 36) = u36
          generalize a'.eval (.tmp 37) = u37
          generalize a'.eval (.tmp 38) = u38
          generalize a'.eval (.tmp 39) = u39
          generalize a'.eval (.tmp 40) = u40
          generalize a'.eval (.tmp 41) = u41
          generalize a'.eval (.tmp 42) = u42
          generalize a'.eval (.tmp 43) = u43
          generalize a'.eval (.tmp 44) = u44
          generalize a'.eval (.tmp 45) = u45
          generalize a'.eval (.tmp 46) = u46
          generalize a'.eval (.tmp 47) = u47
          generalize a'.eval (.tmp 48) = u48
          generalize a'.eval (.tmp 49) = u49
          generalize a'.eval (.tmp 50) = u50
          generalize a'.eval (.tmp 51) = u51
          simp only [Act.put, List.setIfInBounds_toArray, List.set_cons_succ, List.set_cons_zero]
          go_wp2_with fail
          go_roundw
          case rel => exact ⟨1, by omega, by go_num, HBN⟩
          case measure => simp [intOf]; omega
      | succ m =>
        obtain ⟨x', e', hc2, _⟩ := HV.out.1 m (by omega)
        obtain rfl := Option.some.inj e'
        have HC2 := Box.mk hc2
        have HLE := Box.mk (show (Op.bytesLess Y[m + 1].1.toList Y[m].1.toList || Y[m + 1].1.toList == Y[m].1.toList) = false from leq_no (by
          have := sorted_at HYS.out m (by rw [List.length_map]; exact hlt)
          simpa using this))
        clear hc2 e'
        generalize Y[m + 1].1 = nm at *
        generalize Y[m].1 = nm2 at *
        go_upto_region 6 with fail
        rename_i K hK
        refine wp_region_skip (S := [.val (.slice (some x) Y.length yc), .val (.int .i64 ((m + 1 : Nat) : Int)), .val (.pointer (some (x.add ((m + 1) * 2)))), .val (.pointer (some (x.add ((m + 1) * 2)))), .val (.string nm), .val (.slice (some x) Y.length yc), .val (.int .i64 ((m + 1 : Nat) : Int)), .val (.pointer (some (x.add ((m + 1) * 2)))), .val (.pointer (some (x.add ((m + 1) * 2)))), .val (.string nm), .val (.string nm), .val (.bool false), .val (.bool false), .val (.int .i64 ((m + 1 : Nat) : Int)), .val (.bool true), .val (.bool true), .val (.slice (some x) Y.length yc), .val (.int .i64 ((m + 1 : Nat) : Int)), .val (.pointer (some (x.add ((m + 1) * 2)))), .val (.pointer (some (x.add ((m + 1) * 2)))), .val (.string nm), .val (.slice (some x) Y.length yc), .val (.int .i64 ((m + 1 : Nat) : Int)), .val (.int .i64 (m : Int)), .val (.pointer (some (x.add (m * 2)))), .val (.pointer (some (x.add (m * 2)))), .val (.string nm2), .val (.bool false), .val (.bool false), .val (.bool false)])
          (by kernel_rfl) (by kernel_rfl) (by kernel_rfl) ?_ ?_
        · refine ⟨?_, ?_, ?_, ?_, ?_, ?_, ?_, ?_, ?_, ?_, ?_, ?_, ?_, ?_, ?_, ?_, ?_, ?_, ?_, ?_, ?_, ?_, ?_, ?_, ?_, ?_, ?_, ?_, ?_, ?_, trivial⟩ <;> intro a' w6 hb hf hd
          · exact .inl ⟨wanted_none rfl, loc_move rfl (hf.base 8 rfl)⟩
          · exact .inl ⟨wanted_none rfl, loc_move rfl (hf.base 9 rfl)⟩
          · exact .inl ⟨wanted_none rfl, loc_index_G 2 rfl (hd 0 rfl) (hd 1 rfl) hlt (by kernel_rfl) (by kernel_rfl) rfl⟩
          · exact .inl ⟨wanted_none rfl, loc_fieldN rfl (hd 2 rfl) rfl⟩
          · exact .inl ⟨wanted_none rfl, loc_load_cellG rfl (hd 3 rfl) (below_cell (below_trans HBJ.out hb) HC.out) agg_strN rfl⟩
          · exact .inl ⟨wanted_none rfl, loc_move rfl (hf.base 8 rfl)⟩
          · exact .inl ⟨wanted_none rfl, loc_move rfl (hf.base 9 rfl)⟩
          · exact .inl ⟨wanted_none rfl, loc_index_G 2 rfl (hd 5 rfl) (hd 6 rfl) hlt (by kernel_rfl) (by kernel_rfl) rfl⟩
          · exact .inl ⟨wanted_none rfl, loc_fieldN rfl (hd 7 rfl) rfl⟩
          · exact .inl ⟨wanted_none rfl, loc_load_cellG rfl (hd 8 rfl) (below_cell (below_trans HBJ.out hb) HC.out) agg_strN rfl⟩
          · exact .inl ⟨wanted_none rfl, loc_call rfl (by kernel_rfl) (refLower_v w6 (hd 9 rfl) HSZ.out HLW.out)⟩
          · exact .inl ⟨wanted_none rfl, loc_neqStr rfl (hd 4 rfl) (hd 10 rfl) rfl⟩
          · exact .inl ⟨wanted_none rfl, loc_move rfl (hd 11 rfl)⟩
          · exact .inl ⟨wanted_yes0 rfl rfl (hd 12 rfl), loc_move rfl (hf.base 9 rfl)⟩
          · exact .inl ⟨wanted_yes0 rfl rfl (hd 12 rfl), loc_gtr0 rfl (hd 13 rfl) (by simp) rfl⟩
          · exact .inl ⟨wanted_yes0 rfl rfl (hd 12 rfl), loc_move rfl (hd 14 rfl)⟩
          · exact .inl ⟨wanted_true rfl rfl (hd 15 rfl), loc_move rfl (hf.base 8 rfl)⟩
          · exact .inl ⟨wanted_true rfl rfl (hd 15 rfl), loc_move rfl (hf.base 9 rfl)⟩
          · exact .inl ⟨wanted_true rfl rfl (hd 15 rfl), loc_index_G 2 rfl (hd 16 rfl) (hd 17 rfl) hlt (by kernel_rfl) (by kernel_rfl) rfl⟩
          · exact .inl ⟨wanted_true rfl rfl (hd 15 rfl), loc_fieldN rfl (hd 18 rfl) rfl⟩
          · exact .inl ⟨wanted_true rfl rfl (hd 15 rfl), loc_load_cellG rfl (hd 19 rfl) (below_cell (below_trans HBJ.out hb) HC.out) agg_strN rfl⟩
          · exact .inl ⟨wanted_true rfl rfl (hd 15 rfl), loc_move rfl (hf.base 8 rfl)⟩
          · exact .inl ⟨wanted_true rfl rfl (hd 15 rfl), loc_move rfl (hf.base 9 rfl)⟩
          · exact .inl ⟨wanted_true rfl rfl (hd 15 rfl), loc_sub1N rfl (hd 22 rfl) (by omega) rfl⟩
          · exact .inl ⟨wanted_true rfl rfl (hd 15 rfl), loc_index_G 2 rfl (hd 21 rfl) (hd 23 rfl) (by omega) (by kernel_rfl) (by kernel_rfl) rfl⟩
          · exact .inl ⟨wanted_true rfl rfl (hd 15 rfl), loc_fieldN rfl (hd 24 rfl) rfl⟩
          · exact .inl ⟨wanted_true rfl rfl (hd 15 rfl), loc_load_cellG rfl (hd 25 rfl) (below_cell (below_trans HBJ.out hb) HC2.out) agg_strN rfl⟩
          · exact .inl ⟨wanted_true rfl rfl (hd 15 rfl), loc_leqStr rfl (hd 20 rfl) (hd 26 rfl) HLE.out rfl⟩
          · exact .inl ⟨wanted_yes0 rfl rfl (hd 12 rfl), loc_pick rfl (hd 15 rfl) (hd 27 rfl)⟩
          · exact .inl ⟨wanted_none rfl, loc_pickF rfl (hd 12 rfl) (hd 28 rfl)⟩
        · intro a' w6 hb hf hd
          have ev : a'.eval (.tmp 52) = .bool false := hd 29 (by decide)
          have HBN := Box.mk (below_trans HBJ.out hb)
          refine hK _ _ ?_
          rw [fr_putAll hf]
          simp only [putAll, ev]
          clear hf hd hb hK ev
          generalize a'.eval (.tmp 23) = u23
          generalize a'.eval (.tmp 24) = u24
          generalize a'.eval (.tmp 25) = u25
          generalize a'.eval (.tmp 26) = u26
          generalize a'.eval (.tmp 27) = u27
          generalize a'.eval (.tmp 28) = u28
          generalize a'.eval (.tmp 29) = u29
          generalize a'.eval (.tmp 30) = u30
          generalize a'.eval (.tmp 31) = u31
          generalize a'.eval (.tmp 32) = u32
          generalize a'.eval (.tmp 33) = u33
          generalize a'.eval (.tmp 34) = u34
          generalize a'.eval (.tmp 35) = u35
          generalize a'.eval (.tmp 36) = u36
          generalize a'.eval (.tmp 37) = u37
          generalize a'.eval (.tmp 38) = u38
          generalize a'.eval (.tmp 39) = u39
          generalize a'.eval (.tmp 40) = u40
          generalize a'.eval (.tmp 41) = u41
          generalize a'.eval (.tmp 42) = u42
          generalize a'.eval (.tmp 43) = u43
          generalize a'.eval (.tmp 44) = u44
          generalize a'.eval (.tmp 45) = u45
          generalize a'.eval (.tmp 46) = u46
          generalize a'.eval (.tmp 47) = u47
          generalize a'.eval (.tmp 48) = u48
          generalize a'.eval (.tmp 49) = u49
          generalize a'.eval (.tmp 50) = u50
          generalize a'.eval (.tmp 51) = u51
          simp only [Act.put, List.setIfInBounds_toArray, List.set_cons_succ, List.set_cons_zero]
          go_wp2_with fail
          go_roundw
          case rel => exact ⟨m + 1 + 1, by omega, by go_num, HBN⟩
          case measure => simp [intOf]; omega
    · obtain ⟨G, hG⟩ : ∃ G, namesS (Y.map (·.1)) = G := ⟨_, rfl⟩
      have HG := Box.mk hG
      have hG1 : G.length ≤ 30 := by rw [← hG]; have := namesS_len (Y.map (·.1)); rw [List.length_map] at this; omega
      clear hG HYL HYS
      obtain ⟨W3, hW3⟩ : ∃ W3, W3 = wr.alloc (.cells #[.string etagP] 9) := ⟨_, rfl⟩
      have HB3 := Box.mk (show Below w2.heap.size w2 W3 by rw [hW3]; exact below_twoF HBJ.out _)
      have HS3 := Box.mk (show StrsC W3 (some ⟨wr.heap.size, 0, none⟩) [etagP] 1 by rw [hW3]; exact strsC_one wr etagP _)
      go_wp2_with fail
      change Calls _ _ #[.slice ya Y.length yc, .slice (some ⟨wr.heap.size, 0, none⟩) ([etagP] : List ByteArray).length 1] (wr.alloc (.cells #[.string etagP] 9)) _
      rw [← hW3]
      clear hW3
      refine (nFields_eq W3 (HMX.out.keep (below_trans HB2.out HB3.out)) (HV.out.keep HB3.out) hyc HYM.out HS3.out (by unfold maxLen; decide +kernel) (by decide) HY1.out).mono ?_
      rintro e w4 ⟨ra, rc, rfl, h1, h2, h3⟩
      have H4 := Box.mk (And.intro h1 (below_trans HB3.out h3))
      clear h1 h2 h3 HS3 HB3 HY1
      go_wp2_with fail
      refine (sameFlds_self Y ra ya rc yc w4 H4.out.1.1 (HV.out.keep H4.out.2).1 (by omega)).mono ?_
      rintro e w5 ⟨rfl, hb⟩
      have HB5 := Box.mk (below_trans H4.out.2 hb)
      clear hb H4
      go_wp2_with fail
      refine (nNames_eq w5 (HV.out.keep HB5.out) hyc HYM.out HG.out).mono ?_
      rintro e w6 ⟨ta, tc, rfl, h1, h3⟩
      have H6 := Box.mk (And.intro h1 (below_trans HB5.out h3))
      clear h1 h3 HB5
      go_wp2_with fail
      refine (nFields_eq (ig := []) (b := none) (cb := 0) w6 (HMX.out.keep (below_trans HB2.out H6.out.2)) (HV.out.keep H6.out.2) hyc HYM.out (StrsC.none _) (fun _ h => by cases h) (by decide) HY2.out).mono ?_
      rintro e w7 ⟨sa, sc, rfl, h1, h2, h3⟩
      have H7 := Box.mk (And.intro h1 (And.intro h2 (below_trans H6.out.2 h3)))
      have HT7 := Box.mk (H6.out.1.keep h3)
      clear h1 h2 h3 H6
      go_wp2_with fail
      refine (nNames_eq w7 H7.out.1 H7.out.2.1 HYM.out HG.out).mono ?_
      rintro e w8 ⟨ua, uc, rfl, h1, h3⟩
      have H8 := Box.mk (And.intro h1 (below_trans H7.out.2.2 h3))
      have HT8 := Box.mk (HT7.out.keep h3)
      clear h1 h3 H7 HT7
      go_wp2_with fail
      refine (sameIn_self G ta ua tc uc w8 HT8.out.1 H8.out.1.1 (by omega)).mono ?_
      rintro e w9 ⟨rfl, hb⟩
      have HB9 := Box.mk (below_trans H8.out.2 hb)
      clear hb H8 HT8
      go_wp2_with fail
      refine (nmAwake_any w9 mm (HMX.out.keep (below_trans HB2.out HB9.out))).mono ?_
      rintro e w10 ⟨rfl, hb⟩
      have HB10 := Box.mk (below_trans HB2.out (below_trans HB9.out hb))
      clear hb HB9
      go_wp2_with fail
      go_ret
      exact ⟨rfl, HB10.out⟩
end Go.Proofs.YtnpbnaapbimjaaaGreatDoor
