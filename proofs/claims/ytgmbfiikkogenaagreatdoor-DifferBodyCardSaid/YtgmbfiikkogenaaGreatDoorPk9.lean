/- The laws of package differ: awake; DifferSymmetric. The law DifferSymmetric. The law DifferSee. Opening a slice of strings among the arguments, with its capacity. The law FieldParse. Opening the arguments of the laws on fields. Opening a Seen and a Difference among the arguments. Opening a request and a reply among the arguments. The two tables of package digest out of the listed variables. The law DifferCompare. The law DifferBody. The mathematics of the law DifferField: one more field. -/
import Derived.Test.YtgmbfiikkogenaaGreatDoorPk1
import Derived.Test.YtgmbfiikkogenaaGreatDoorPk2
import Derived.Test.YtgmbfiikkogenaaGreatDoorPk3
import Derived.Test.YtgmbfiikkogenaaGreatDoorPk4
import Derived.Test.YtgmbfiikkogenaaGreatDoorPk5
import Derived.Test.YtgmbfiikkogenaaGreatDoorPk6
import Derived.Test.YtgmbfiikkogenaaGreatDoorPk7
import Derived.Test.YtgmbfiikkogenaaGreatDoorPk8
import Derived.Test.YtgmbfiikkogenaaGreatDoorRows
import Derived.WalkKit
import Derived.WalkSpells
import Derived.WalkLawsBesides
import Derived.BigQuiet
import Derived.Deep.QuietTactic
import Derived.Lib.Bytealg
import Derived.Lib.IndexLaws
import Derived.Lib.Hide
import Derived.Laws.IdiomStrings
import Derived.Lib.SlTrimSet
import Derived.Lib.IndexBytes
import Derived.Lib.Split
import Derived.Deep.AppendLies
import Derived.Shelf.SlGeneric
import Derived.Shelf.Strings.SlTrimAscii
import Derived.Shelf.Strings.SplitShaped
import Derived.Shelf.LaysM
import Derived.Shelf.Strings.BuilderK
import Derived.Shelf.Strconv.Itoa4
import Derived.Shelf.Strings.Builder2
import Derived.Shelf.SlLaysF0
import Derived.Shelf.SlLaysM
import Derived.Shelf.SlLaysN
import Derived.Ground.SlsfProg
import Derived.Ground.SlgmProg
import Derived.Ground.SlgnProg
import Derived.Test.YtgmbfiikkogenaaGreatDoorProg
import Derived.Lib.SplitLaws
import Derived.WalkSmall
import Derived.ProofKit
import Derived.OpenShut
import Derived.Lib.Strings
import Derived.SliceStrings
import Derived.Deep.Quiet
import Derived.Tactics
import Derived.KernelRfl
import Derived.Below
import Derived.Laws.Bits64
import Derived.Lib.SlBytesConst
import Derived.Maps.AppendAt
import Derived.Laws.AppendOwnNone
import Derived.Great.BuildSlice
import Derived.Laws.Rows
import Derived.Laws.BitsAllLaws
import Derived.Laws.Shifts
import Derived.Maps.OwnOps
import Derived.Maps.OwnSet
import Derived.Deep.SlicePairs
import Derived.Lib.AppendZerosOnto
import Derived.Lib.AppendStr
import Derived.Laws.CopyOwn
import Derived.OwnWalk
import Derived.Laws.Strings3
import Derived.Laws.Concat
import Derived.Lib.ItoaMem
import Derived.Deep.RegionHeld3
import Derived.IntWalk
import Derived.Sort.Grow
import Derived.Lib.LaidTab
import Derived.LaidSub
import Derived.Sort.Walk0
import Derived.Laws.OwnMore
import Derived.ArgAppend
import Derived.Shelf.Strings.OnBuilder
import Derived.Laws.Tables
import Derived.Maps.RangeWalk
import Derived.Lib.SlicesCompact
import Derived.Shelf.SlSortCmp.Insertion
import Derived.Sort.Statements
import Derived.Shelf.SlSortCmp.WholeK
import Derived.Shelf.SlSortCmp.NoneTotal
import Derived.Shelf.SortM.Plain
import Derived.Shelf.SlicesG.CompactS
import Derived.Shelf.Small.Strs
import Derived.Sort.OwnSorted
import Derived.Deep.DeepCutAuto
import Derived.Deep.CutBlock
import Derived.Deep.WholeRow
import Derived.StillTailTactics
import Derived.Deep.Matrix
import Derived.Stop.BytesEq
import Derived.MakeChecks
namespace Go.Proofs.YtgmbfiikkogenaaGreatDoor
open Go.RowKit
set_option linter.unusedSimpArgs false
set_option linter.unusedVariables false

theorem dSee_eq {r : Rp} {p : SnP} {ig : List ByteArray} {ia : Option Addr} {ic : Nat} {s : Sn} (w : World) (mm : Int) (hdt : DfT w mm) (h : RpIn w r p) (hm : MedF r.fs) (hi : StrsC w ia ig ic) (hiz : ∀ x ∈ ig, x.size ≤ maxLen) (hil : ig.length ≤ 1000) (hbl : r.body.length ≤ 1000000000) (hs : seeV r.st r.fs r.body ig = s) :
    Calls Tryz.prog 11 #[r.v p, .slice ia ig.length ic] w fun e w' => ∃ q, e = .returned (s.v q) ∧ SnIn w' s q ∧ Below w.heap.size w w' := by subst hs; exact dSee_any r p ig ia ic w mm hdt h hm hi hiz hil hbl
theorem dCompare_eq {a b : Sn} {p q : SnP} {d : Df} (w : World) (ha : SnIn w a p) (hb : SnIn w b q) (hal : LS a.fs) (hbl : LS b.fs) (hd : cmpV a b = d) :
    Calls Tryz.prog 14 #[a.v p, b.v q] w fun e w' => ∃ da dc, e = .returned (d.v da dc) ∧ StrsC w' da d.fs dc ∧ Below w.heap.size w w' := by subst hd; exact dCompare_any a b p q w ha hb hal hbl
theorem dSame_eq {d : Df} {a : Option Addr} {c : Nat} {z : Bool} (w : World) (h : StrsC w a d.fs c) (hz : sameD d = z) :
    Calls Tryz.prog 16 #[d.v a c] w fun e w' => e = .returned (.bool z) ∧ Below w.heap.size w w' := by subst hz; exact dSame_any d a c w h
theorem akF_nil : LS (fieldsN ([] : List Fld) []) := ls_fields ⟨fun f h => (nomatch h), by decide, by decide⟩
theorem ak_cmp : cmpV (seeV 200 [] [120] []) (seeV 500 [] [120] []) = ⟨true, false, []⟩ := by
  unfold cmpV seeV
  simp only [fsD_self]
  simp
theorem isBytes_oneD (w : World) (c : UInt8) (t : TypeId) (z : Nat × Nat) : IsBytes (w.alloc (.cells #[.int .u8 (c.toNat : Int)] t z)) (some ⟨w.heap.size, 0, none⟩) [c] 1 :=
  .inr ⟨_, rfl, Nat.le_refl _, by unfold maxLen; decide, fun j hj => by
    obtain rfl : j = 0 := by simpa using hj
    rw [Addr.add_lit, cell_of_row _ _ _ _ _ _ (heap_alloc_new _ _)]; rfl⟩
theorem rpIn_one (w : World) (st : Int) : RpIn (w.alloc (.cells #[.int .u8 120] 5 (1, 2))) ⟨st, ⟨#[]⟩, 0, [], [120]⟩ ⟨none, 0, some ⟨w.heap.size, 0, none⟩, 1⟩ :=
  ⟨⟨FldsIn.nil _ _, fun _ => ⟨rfl, rfl⟩⟩, Nat.le_refl _, isBytes_oneD w 120 _ _⟩
theorem medF_nil : MedF [] := ⟨fun f h => (nomatch h), by decide, by decide⟩

set_option maxRecDepth 10000 in
set_option maxHeartbeats 4000000 in
theorem dfAwake_any (w : World) (mm : Int) (hdt : DfT w mm) : Calls Tryz.prog 9 #[] w fun e w' => e = .returned (.bool true) ∧ Below w.heap.size w w' := by
  have HDT := Box.mk hdt
  clear hdt
  obtain ⟨A, hA⟩ : ∃ s, seeV 200 [] [120] [] = s := ⟨_, rfl⟩
  obtain ⟨B, hB⟩ : ∃ s, seeV 500 [] [120] [] = s := ⟨_, rfl⟩
  have HA := Box.mk hA
  have HB := Box.mk hB
  have HCMP := Box.mk (show cmpV A B = ⟨true, false, []⟩ by rw [← hA, ← hB]; exact ak_cmp)
  have HSF := Box.mk (same_self A)
  obtain ⟨D, hD⟩ : ∃ d, cmpV A A = d := ⟨_, rfl⟩
  have HD := Box.mk hD
  rw [hD] at HSF
  have HAL := Box.mk (show LS A.fs by rw [← hA]; exact akF_nil)
  have HBL := Box.mk (show LS B.fs by rw [← hB]; exact akF_nil)
  clear hA hB hD
  obtain ⟨a1, a2, a3, a4⟩ := A
  obtain ⟨b1, b2, b3, b4⟩ := B
  obtain ⟨e1, e2, e3⟩ := D
  obtain ⟨W, hW⟩ : ∃ W, W = w.alloc (.cells #[.int .u8 120] 5 (1, 2)) := ⟨_, rfl⟩
  have HW := Box.mk (show Below w.heap.size w W by rw [hW]; exact below_oneF w _)
  have HR := Box.mk (show RpIn W ⟨200, ⟨#[]⟩, 0, [], [120]⟩ ⟨none, 0, some ⟨w.heap.size, 0, none⟩, 1⟩ by rw [hW]; exact rpIn_one w 200)
  have kc := fun (w : World) (C : Array Value) (n c : Nat) => Lib.run_convert_bytes_const (P := Tryz.prog) w 24 5 C n c Tryz.underlying24 Tryz.underlying5
  go_enter Tryz.func9, Tryz.ntmps9
  go_wp2_with fail
  change Calls _ _ #[Rp.v ⟨200, ⟨#[]⟩, 0, [], [120]⟩ ⟨none, 0, some ⟨w.heap.size, 0, none⟩, 1⟩, .slice none ([] : List ByteArray).length 0] (w.alloc (.cells #[.int .u8 120] 5 (1, 2))) _
  rw [← hW]
  clear hW
  refine (dSee_eq W mm (HDT.out.keep HW.out) HR.out medF_nil (StrsC.none _) (fun _ h => by cases h) (by decide) (by decide) HA.out).mono ?_
  rintro e w1 ⟨⟨q1, q2, q3, q4⟩, rfl, h1, h2⟩
  obtain ⟨W1, hW1⟩ : ∃ W1, W1 = w1.alloc (.cells #[.int .i64 a1, .slice q1 a2.length q2, .int .i64 a3, .slice q3 a4.length q4] 32) := ⟨_, rfl⟩
  have HB1 := Box.mk (show Below w.heap.size w W1 by rw [hW1]; exact below_twoF (below_trans HW.out h2) _)
  have HV1 := Box.mk (show VarA W1 w1.heap.size #[.int .i64 a1, .slice q1 a2.length q2, .int .i64 a3, .slice q3 a4.length q4] 32 by rw [hW1]; exact VarA.new _ _ _)
  have HS1 := Box.mk (show SnIn W1 ⟨a1, a2, a3, a4⟩ ⟨q1, q2, q3, q4⟩ by rw [hW1]; exact h1.keep (below_oneF _ _))
  clear h1 h2 HR HW HA
  unfold Sn.v
  simp only
  go_upto_region 2 with fail
  change Code.wp _ _ _ _ (w1.alloc (.cells #[.int .i64 a1, .slice q1 a2.length q2, .int .i64 a3, .slice q3 a4.length q4] 32))
  rw [← hW1]
  clear hW1
  generalize w1.heap.size = ga at *
  obtain ⟨W2, hW2⟩ : ∃ W2, W2 = W1.alloc (.cells #[.int .u8 120] 5 (1, 2)) := ⟨_, rfl⟩
  have hb2 : Below W1.heap.size W1 W2 := by rw [hW2]; exact below_oneF W1 _
  have HR2 := Box.mk (show RpIn W2 ⟨500, ⟨#[]⟩, 0, [], [120]⟩ ⟨none, 0, some ⟨W1.heap.size, 0, none⟩, 1⟩ by rw [hW2]; exact rpIn_one W1 500)
  have HB2 := Box.mk (below_trans HB1.out hb2)
  have HV2 := Box.mk (HV1.out.keep hb2)
  have HS2 := Box.mk (HS1.out.keep hb2)
  clear hb2 HB1 HV1 HS1
  go_wp2_with fail
  change Calls _ _ #[Rp.v ⟨500, ⟨#[]⟩, 0, [], [120]⟩ ⟨none, 0, some ⟨W1.heap.size, 0, none⟩, 1⟩, .slice none ([] : List ByteArray).length 0] (W1.alloc (.cells #[.int .u8 120] 5 (1, 2))) _
  rw [← hW2]
  clear hW2
  refine (dSee_eq W2 mm (HDT.out.keep HB2.out) HR2.out medF_nil (StrsC.none _) (fun _ h => by cases h) (by decide) (by decide) HB.out).mono ?_
  rintro e w3 ⟨⟨r1, r2, r3, r4⟩, rfl, h1, h2⟩
  obtain ⟨W3, hW3⟩ : ∃ W3, W3 = w3.alloc (.cells #[.int .i64 b1, .slice r1 b2.length r2, .int .i64 b3, .slice r3 b4.length r4] 32) := ⟨_, rfl⟩
  have hb3 : Below W2.heap.size W2 W3 := by rw [hW3]; exact below_twoF h2 _
  have HB3 := Box.mk (below_trans HB2.out hb3)
  have HV3 := Box.mk (HV2.out.keep hb3)
  have HS3 := Box.mk (HS2.out.keep hb3)
  have HU3 := Box.mk (show VarA W3 w3.heap.size #[.int .i64 b1, .slice r1 b2.length r2, .int .i64 b3, .slice r3 b4.length r4] 32 by rw [hW3]; exact VarA.new _ _ _)
  have HT3 := Box.mk (show SnIn W3 ⟨b1, b2, b3, b4⟩ ⟨r1, r2, r3, r4⟩ by rw [hW3]; exact h1.keep (below_oneF _ _))
  clear h1 h2 hb3 HR2 HB2 HV2 HS2 HB
  unfold Sn.v
  simp only
  go_upto_region 3 with fail
  change Code.wp _ _ _ _ (w3.alloc (.cells #[.int .i64 b1, .slice r1 b2.length r2, .int .i64 b3, .slice r3 b4.length r4] 32))
  rw [← hW3]
  clear hW3
  generalize w3.heap.size = gb at *
  have v0 := HV3.out.cell (i := 0) (v := .int .i64 a1) rfl
  have v1 := HV3.out.cell (i := 1) (v := .slice q1 a2.length q2) rfl
  have v2 := HV3.out.cell (i := 2) (v := .int .i64 a3) rfl
  have v3 := HV3.out.cell (i := 3) (v := .slice q3 a4.length q4) rfl
  have u0 := HU3.out.cell (i := 0) (v := .int .i64 b1) rfl
  have u1 := HU3.out.cell (i := 1) (v := .slice r1 b2.length r2) rfl
  have u2 := HU3.out.cell (i := 2) (v := .int .i64 b3) rfl
  have u3 := HU3.out.cell (i := 3) (v := .slice r3 b4.length r4) rfl
  go_wp2_with fail
  refine (dCompare_eq (p := ⟨q1, q2, q3, q4⟩) (q := ⟨r1, r2, r3, r4⟩) W3 HS3.out HT3.out HAL.out HBL.out HCMP.out).mono ?_
  rintro e w4 ⟨da, dc, rfl, h1, h2⟩
  obtain ⟨W4, hW4⟩ : ∃ W4, W4 = w4.alloc (.cells #[.bool true, .bool false, .slice da 0 dc] 37) := ⟨_, rfl⟩
  have hb4 : Below W3.heap.size W3 W4 := by rw [hW4]; exact below_twoF h2 _
  have HB4 := Box.mk (below_trans HB3.out hb4)
  have HV4 := Box.mk (HV3.out.keep hb4)
  have HS4 := Box.mk (HS3.out.keep hb4)
  have HD4 := Box.mk (show VarA W4 w4.heap.size #[.bool true, .bool false, .slice da 0 dc] 37 by rw [hW4]; exact VarA.new _ _ _)
  have HE4 := Box.mk (show StrsC W4 da [] dc by rw [hW4]; exact h1.keep (below_oneF _ _))
  clear h1 h2 hb4 HB3 HV3 HS3 HU3 HT3 v0 v1 v2 v3 u0 u1 u2 u3 HCMP HBL
  unfold Df.v
  simp only
  go_upto_region 4 with fail
  change Code.wp _ _ _ _ (w4.alloc (.cells #[.bool true, .bool false, .slice da 0 dc] 37))
  rw [← hW4]
  clear hW4
  generalize w4.heap.size = gd at *
  have d0 := HD4.out.cell (i := 0) (v := .bool true) rfl
  have d1 := HD4.out.cell (i := 1) (v := .bool false) rfl
  have d2 := HD4.out.cell (i := 2) (v := .slice da 0 dc) rfl
  go_wp2_with fail
  change Calls _ _ #[Df.v ⟨true, false, []⟩ da dc] W4 _
  refine (dSame_eq (z := false) W4 HE4.out rfl).mono ?_
  rintro e w5 ⟨rfl, hb⟩
  have HB5 := Box.mk (below_trans HB4.out hb)
  have HV5 := Box.mk (HV4.out.keep hb)
  have HS5 := Box.mk (HS4.out.keep hb)
  clear hb HB4 HV4 HS4 HD4 HE4 d0 d1 d2
  have v0 := HV5.out.cell (i := 0) (v := .int .i64 a1) rfl
  have v1 := HV5.out.cell (i := 1) (v := .slice q1 a2.length q2) rfl
  have v2 := HV5.out.cell (i := 2) (v := .int .i64 a3) rfl
  have v3 := HV5.out.cell (i := 3) (v := .slice q3 a4.length q4) rfl
  go_wp2_with fail
  refine (dCompare_eq (p := ⟨q1, q2, q3, q4⟩) (q := ⟨q1, q2, q3, q4⟩) w5 HS5.out HS5.out HAL.out HAL.out HD.out).mono ?_
  rintro e w6 ⟨ea, ec, rfl, h1, h2⟩
  have HE6 := Box.mk h1
  have HB6 := Box.mk (below_trans HB5.out h2)
  clear h1 h2 HB5 HV5 HS5 v0 v1 v2 v3 HD
  unfold Df.v
  simp only
  go_wp2_with fail
  refine (dSame_eq (d := ⟨e1, e2, e3⟩) w6 HE6.out HSF.out).mono ?_
  rintro e w7 ⟨rfl, hb⟩
  have HB7 := Box.mk (below_trans HB6.out hb)
  clear hb HB6 HE6
  go_wp2_with fail
  go_ret
  exact ⟨rfl, HB7.out⟩
end Go.Proofs.YtgmbfiikkogenaaGreatDoor
namespace Go.Proofs.YtgmbfiikkogenaaGreatDoor
open Go.RowKit
set_option linter.unusedSimpArgs false
set_option linter.unusedVariables false

def Spec.diffD (d : Df) : Spec := ⟨fun v w => ∃ a c, v = d.v a c ∧ StrsC w a d.fs c, fun _ _ _ h hb => by
  obtain ⟨a, c, h1, h2⟩ := h
  exact ⟨a, c, h1, h2.keep hb⟩⟩
theorem dCompare_v {a b : Sn} {p q : SnP} {d : Df} {v u : Value} (w : World) (hv : v = a.v p) (hu : u = b.v q) (ha : SnIn w a p) (hb : SnIn w b q) (hal : LS a.fs) (hbl : LS b.fs) (hd : cmpV a b = d) :
    Calls Tryz.prog 14 #[v, u] w fun e w' => ∃ v', e = .returned v' ∧ Below w.heap.size w w' ∧ ∃ a c, v' = d.v a c ∧ StrsC w' a d.fs c := by
  subst hv hu
  refine (dCompare_eq w ha hb hal hbl hd).mono ?_
  rintro e w' ⟨da, dc, rfl, h1, h2⟩
  exact ⟨_, rfl, h2, da, dc, rfl, h1⟩
theorem dSame_v {d : Df} {v : Value} {z : Bool} (w : World) (hv : ∃ a c, v = d.v a c ∧ StrsC w a d.fs c) (hz : sameD d = z) :
    Calls Tryz.prog 16 #[v] w fun e w' => ∃ v', e = .returned v' ∧ Below w.heap.size w w' ∧ v' = .bool z := by
  obtain ⟨a, c, rfl, h⟩ := hv
  refine (dSame_eq w h hz).mono ?_
  rintro e w' ⟨rfl, h2⟩
  exact ⟨_, rfl, h2, rfl⟩
theorem sameDiff_v {d : Df} {v u : Value} (w : World) (hv : ∃ a c, v = d.v a c ∧ StrsC w a d.fs c) (hu : ∃ a c, u = d.v a c ∧ StrsC w a d.fs c) (hl : d.fs.length ≤ 1000000) :
    Calls Tryz.prog 13 #[v, u] w fun e w' => ∃ v', e = .returned v' ∧ Below w.heap.size w w' ∧ v' = .bool true := by
  obtain ⟨a, c, rfl, h⟩ := hv
  obtain ⟨b, e, rfl, k⟩ := hu
  refine (sameDiff_self d a b c e w h.1 k.1 hl).mono ?_
  rintro e w' ⟨rfl, h2⟩
  exact ⟨_, rfl, h2, rfl⟩
theorem dfAwake_v (w : World) (mm : Int) (hdt : DfT w mm) : Calls Tryz.prog 9 #[] w fun e w' => ∃ v', e = .returned v' ∧ Below w.heap.size w w' ∧ v' = .bool true := by
  refine (dfAwake_any w mm hdt).mono ?_
  rintro e w' ⟨rfl, hb⟩
  exact ⟨_, rfl, hb, rfl⟩

set_option maxRecDepth 100000 in
set_option maxHeartbeats 8000000 in
theorem differSymmetric_any (la : Option Addr) (ln lc : Nat) (ma : Option Addr) (mn mc : Nat) (w : World) (hl : IntsF w la ln) (hn : ln ≤ maxLen) (hm : IntsF w ma mn) (hmn : mn ≤ maxLen) (mm : Int) (hdt : DfT w mm) :
    Calls Tryz.prog 5 #[.slice la ln lc, .slice ma mn mc] w fun e w' => e = .returned (.bool true) ∧ Below w.heap.size w w' := by
  have HIN := Box.mk (And.intro hl (And.intro hn (And.intro hm hmn)))
  have HDT := Box.mk hdt
  clear hl hn hm hmn hdt
  go_enter Tryz.func5, Tryz.ntmps5
  go_wp2_with fail
  refine (dfMade_any la ln lc w HIN.out.1 HIN.out.2.1).mono ?_
  rintro e w1 ⟨r, p, rfl, hM⟩
  have HM := Box.mk hM
  obtain ⟨SA, hSA⟩ : ∃ s, seeV r.st r.fs r.body [] = s := ⟨_, rfl⟩
  have HSA := Box.mk hSA
  have HAL := Box.mk (show LS SA.fs by rw [← hSA]; exact ls_fields (medF_small hM.2.1 (by have := hM.2.2.1; omega)))
  have HB1 := Box.mk hM.2.2.2.2
  clear hM hSA
  obtain ⟨x1, x2, x3, x4, x5⟩ := r
  obtain ⟨p1, p2, p3, p4⟩ := p
  obtain ⟨a1, a2, a3, a4⟩ := SA
  unfold Rp.v
  simp only
  go_wp2_with fail
  refine (dSee_eq (r := ⟨x1, x2, x3, x4, x5⟩) (p := ⟨p1, p2, p3, p4⟩) (ig := []) (ia := none) (ic := 0) w1 mm (HDT.out.keep HB1.out) HM.out.1 (medF_small HM.out.2.1 (by have := HM.out.2.2.1; omega)) (StrsC.none _) (fun _ h => by cases h) (by decide) (by have := HM.out.2.2.2.1; omega) HSA.out).mono ?_
  rintro e w2 ⟨⟨q1, q2, q3, q4⟩, rfl, h1, h2⟩
  have HS2 := Box.mk h1
  have HB2 := Box.mk (below_trans HB1.out h2)
  clear h1 h2 HM HSA HB1
  unfold Sn.v
  simp only
  go_wp2_with fail
  refine (dfMade_any ma mn mc w2 (HIN.out.2.2.1.keep HB2.out) HIN.out.2.2.2).mono ?_
  rintro e w3 ⟨r, p, rfl, hM⟩
  have HM := Box.mk hM
  obtain ⟨SB, hSB⟩ : ∃ s, seeV r.st r.fs r.body [] = s := ⟨_, rfl⟩
  have HSB := Box.mk hSB
  have HBL := Box.mk (show LS SB.fs by rw [← hSB]; exact ls_fields (medF_small hM.2.1 (by have := hM.2.2.1; omega)))
  have HB3 := Box.mk (below_trans HB2.out hM.2.2.2.2)
  have HS3 := Box.mk (HS2.out.keep hM.2.2.2.2)
  clear hM hSB HS2 HB2 HIN
  obtain ⟨y1, y2, y3, y4, y5⟩ := r
  obtain ⟨o1, o2, o3, o4⟩ := p
  obtain ⟨b1, b2, b3, b4⟩ := SB
  unfold Rp.v
  simp only
  go_wp2_with fail
  refine (dSee_eq (r := ⟨y1, y2, y3, y4, y5⟩) (p := ⟨o1, o2, o3, o4⟩) (ig := []) (ia := none) (ic := 0) w3 mm (HDT.out.keep HB3.out) HM.out.1 (medF_small HM.out.2.1 (by have := HM.out.2.2.1; omega)) (StrsC.none _) (fun _ h => by cases h) (by decide) (by have := HM.out.2.2.2.1; omega) HSB.out).mono ?_
  rintro e w4 ⟨⟨r1, r2, r3, r4⟩, rfl, h1, h2⟩
  obtain ⟨W, hW⟩ : ∃ W, W = (w4.alloc (.cells #[.int .i64 a1, .slice q1 a2.length q2, .int .i64 a3, .slice q3 a4.length q4] 32)).alloc (.cells #[.int .i64 b1, .slice r1 b2.length r2, .int .i64 b3, .slice r3 b4.length r4] 32) := ⟨_, rfl⟩
  have hb : Below w4.heap.size w4 W := by rw [hW]; exact below_twoF (below_oneF w4 _) _
  have HB4 := Box.mk (below_trans HB3.out (below_trans h2 hb))
  have HS4 := Box.mk ((HS3.out.keep h2).keep hb)
  have HT4 := Box.mk (h1.keep hb)
  have HV4 := Box.mk (show VarA W w4.heap.size #[.int .i64 a1, .slice q1 a2.length q2, .int .i64 a3, .slice q3 a4.length q4] 32 by rw [hW]; exact (VarA.new _ _ _).below _)
  have HU4 := Box.mk (show VarA W (w4.heap.size + 1) #[.int .i64 b1, .slice r1 b2.length r2, .int .i64 b3, .slice r3 b4.length r4] 32 by rw [hW]; have := VarA.new (w4.alloc (.cells #[.int .i64 a1, .slice q1 a2.length q2, .int .i64 a3, .slice q3 a4.length q4] 32)) #[.int .i64 b1, .slice r1 b2.length r2, .int .i64 b3, .slice r3 b4.length r4] 32; rw [World.size_alloc] at this; exact this)
  clear h1 h2 hb HM HSB HB3 HS3
  unfold Sn.v
  simp only
  go_upto_region 2 with fail
  change Code.wp _ _ _ _ ((w4.alloc (.cells #[.int .i64 a1, .slice q1 a2.length q2, .int .i64 a3, .slice q3 a4.length q4] 32)).alloc (.cells #[.int .i64 b1, .slice r1 b2.length r2, .int .i64 b3, .slice r3 b4.length r4] 32))
  rw [← hW]
  clear hW
  generalize w4.heap.size = g at *
  obtain ⟨D, hD⟩ : ∃ d, cmpV ⟨a1, a2, a3, a4⟩ ⟨b1, b2, b3, b4⟩ = d := ⟨_, rfl⟩
  have HD1 := Box.mk hD
  have HD2 := Box.mk ((cmpV_symm _ _).trans hD)
  have HDL := Box.mk (show D.fs.length ≤ 1000000 by
    rw [← hD]
    have h1 := HAL.out.1
    have h2 := HBL.out.1
    unfold cmpV fsD
    simp only at h1 h2 ⊢
    refine Nat.le_trans (List.length_filter_le _ _) (Nat.le_trans (namesS_len _) ?_)
    rw [List.length_map, List.length_append]; omega)
  obtain ⟨E, hE⟩ : ∃ d, cmpV ⟨a1, a2, a3, a4⟩ ⟨a1, a2, a3, a4⟩ = d := ⟨_, rfl⟩
  have HE1 := Box.mk hE
  have HE2 := Box.mk (show sameD E = true by rw [← hE]; exact same_self _)
  obtain ⟨G, hG⟩ : ∃ d, cmpV ⟨b1, b2, b3, b4⟩ ⟨b1, b2, b3, b4⟩ = d := ⟨_, rfl⟩
  have HG1 := Box.mk hG
  have HG2 := Box.mk (show sameD G = true by rw [← hG]; exact same_self _)
  clear hD hE hG
  rename_i K hK
  refine wp_region_local (S := [.val (.agg #[.int .i64 a1, .slice q1 a2.length q2, .int .i64 a3, .slice q3 a4.length q4]), .val (.agg #[.int .i64 b1, .slice r1 b2.length r2, .int .i64 b3, .slice r3 b4.length r4]), .diffD D, .val (.agg #[.int .i64 b1, .slice r1 b2.length r2, .int .i64 b3, .slice r3 b4.length r4]), .val (.agg #[.int .i64 a1, .slice q1 a2.length q2, .int .i64 a3, .slice q3 a4.length q4]), .diffD D, .val (.bool true), .val (.bool true), .val (.agg #[.int .i64 a1, .slice q1 a2.length q2, .int .i64 a3, .slice q3 a4.length q4]), .val (.agg #[.int .i64 a1, .slice q1 a2.length q2, .int .i64 a3, .slice q3 a4.length q4]), .diffD E, .val (.bool true), .val (.bool true), .val (.bool true), .val (.agg #[.int .i64 b1, .slice r1 b2.length r2, .int .i64 b3, .slice r3 b4.length r4]), .val (.agg #[.int .i64 b1, .slice r1 b2.length r2, .int .i64 b3, .slice r3 b4.length r4]), .diffD G, .val (.bool true), .val (.bool true), .val (.bool true), .val (.bool true), .val (.bool true), .val (.bool true)])
    (by kernel_rfl) (by kernel_rfl) (by kernel_rfl) ?_ ?_
  · refine ⟨?_, ?_, ?_, ?_, ?_, ?_, ?_, ?_, ?_, ?_, ?_, ?_, ?_, ?_, ?_, ?_, ?_, ?_, ?_, ?_, ?_, ?_, ?_, trivial⟩ <;> intro a' w6 hb hf hd
    · exact ⟨wanted_none rfl, loc_load_rowG rfl (hf.base 5 rfl) (HV4.out.keep hb).row Tryz.underlying32 rfl (sizeSn ⟨a1, a2, a3, a4⟩ ⟨q1, q2, q3, q4⟩) rfl⟩
    · exact ⟨wanted_none rfl, loc_load_rowG rfl (hf.base 6 rfl) (HU4.out.keep hb).row Tryz.underlying32 rfl (sizeSn ⟨b1, b2, b3, b4⟩ ⟨r1, r2, r3, r4⟩) rfl⟩
    · exact ⟨wanted_none rfl, loc_call rfl (by kernel_rfl) (dCompare_v (a := ⟨a1, a2, a3, a4⟩) (p := ⟨q1, q2, q3, q4⟩) (b := ⟨b1, b2, b3, b4⟩) (q := ⟨r1, r2, r3, r4⟩) w6 (hd 0 rfl) (hd 1 rfl) (HS4.out.keep hb) (HT4.out.keep hb) HAL.out HBL.out HD1.out)⟩
    · exact ⟨wanted_none rfl, loc_load_rowG rfl (hf.base 6 rfl) (HU4.out.keep hb).row Tryz.underlying32 rfl (sizeSn ⟨b1, b2, b3, b4⟩ ⟨r1, r2, r3, r4⟩) rfl⟩
    · exact ⟨wanted_none rfl, loc_load_rowG rfl (hf.base 5 rfl) (HV4.out.keep hb).row Tryz.underlying32 rfl (sizeSn ⟨a1, a2, a3, a4⟩ ⟨q1, q2, q3, q4⟩) rfl⟩
    · exact ⟨wanted_none rfl, loc_call rfl (by kernel_rfl) (dCompare_v (a := ⟨b1, b2, b3, b4⟩) (p := ⟨r1, r2, r3, r4⟩) (b := ⟨a1, a2, a3, a4⟩) (q := ⟨q1, q2, q3, q4⟩) w6 (hd 3 rfl) (hd 4 rfl) (HT4.out.keep hb) (HS4.out.keep hb) HBL.out HAL.out HD2.out)⟩
    · exact ⟨wanted_none rfl, loc_call rfl (by kernel_rfl) (sameDiff_v w6 (hd 2 rfl) (hd 5 rfl) HDL.out)⟩
    · exact ⟨wanted_none rfl, loc_move rfl (hd 6 rfl)⟩
    · exact ⟨wanted_true rfl rfl (hd 7 rfl), loc_load_rowG rfl (hf.base 5 rfl) (HV4.out.keep hb).row Tryz.underlying32 rfl (sizeSn ⟨a1, a2, a3, a4⟩ ⟨q1, q2, q3, q4⟩) rfl⟩
    · exact ⟨wanted_true rfl rfl (hd 7 rfl), loc_load_rowG rfl (hf.base 5 rfl) (HV4.out.keep hb).row Tryz.underlying32 rfl (sizeSn ⟨a1, a2, a3, a4⟩ ⟨q1, q2, q3, q4⟩) rfl⟩
    · exact ⟨wanted_true rfl rfl (hd 7 rfl), loc_call rfl (by kernel_rfl) (dCompare_v (a := ⟨a1, a2, a3, a4⟩) (p := ⟨q1, q2, q3, q4⟩) (b := ⟨a1, a2, a3, a4⟩) (q := ⟨q1, q2, q3, q4⟩) w6 (hd 8 rfl) (hd 9 rfl) (HS4.out.keep hb) (HS4.out.keep hb) HAL.out HAL.out HE1.out)⟩
    · exact ⟨wanted_true rfl rfl (hd 7 rfl), loc_call rfl (by kernel_rfl) (dSame_v w6 (hd 10 rfl) HE2.out)⟩
    · exact ⟨wanted_none rfl, loc_pick rfl (hd 7 rfl) (hd 11 rfl)⟩
    · exact ⟨wanted_none rfl, loc_move rfl (hd 12 rfl)⟩
    · exact ⟨wanted_true rfl rfl (hd 13 rfl), loc_load_rowG rfl (hf.base 6 rfl) (HU4.out.keep hb).row Tryz.underlying32 rfl (sizeSn ⟨b1, b2, b3, b4⟩ ⟨r1, r2, r3, r4⟩) rfl⟩
    · exact ⟨wanted_true rfl rfl (hd 13 rfl), loc_load_rowG rfl (hf.base 6 rfl) (HU4.out.keep hb).row Tryz.underlying32 rfl (sizeSn ⟨b1, b2, b3, b4⟩ ⟨r1, r2, r3, r4⟩) rfl⟩
    · exact ⟨wanted_true rfl rfl (hd 13 rfl), loc_call rfl (by kernel_rfl) (dCompare_v (a := ⟨b1, b2, b3, b4⟩) (p := ⟨r1, r2, r3, r4⟩) (b := ⟨b1, b2, b3, b4⟩) (q := ⟨r1, r2, r3, r4⟩) w6 (hd 14 rfl) (hd 15 rfl) (HT4.out.keep hb) (HT4.out.keep hb) HBL.out HBL.out HG1.out)⟩
    · exact ⟨wanted_true rfl rfl (hd 13 rfl), loc_call rfl (by kernel_rfl) (dSame_v w6 (hd 16 rfl) HG2.out)⟩
    · exact ⟨wanted_none rfl, loc_pick rfl (hd 13 rfl) (hd 17 rfl)⟩
    · exact ⟨wanted_none rfl, loc_move rfl (hd 18 rfl)⟩
    · exact ⟨wanted_true rfl rfl (hd 19 rfl), loc_call rfl (by kernel_rfl) (dfAwake_v w6 mm (HDT.out.keep (below_trans HB4.out hb)))⟩
    · exact ⟨wanted_none rfl, loc_pick rfl (hd 19 rfl) (hd 20 rfl)⟩
    · exact ⟨wanted_none rfl, loc_assign rfl (hd 21 rfl)⟩
  · intro a' w6 hb hf hh
    refine hK a' w6 ?_
    go_wp2_with fail
    exact local_ret rfl hf.defers (show a'.eval (.tmp 4) = .bool true from hh 22 (by decide)) ⟨rfl, below_trans HB4.out hb⟩
end Go.Proofs.YtgmbfiikkogenaaGreatDoor
namespace Go.Proofs.YtgmbfiikkogenaaGreatDoor
open Go.RowKit
set_option linter.unusedSimpArgs false
set_option linter.unusedVariables false

theorem dSee_v {r : Rp} {p : SnP} {ig : List ByteArray} {ia : Option Addr} {ic : Nat} {s : Sn} {v u : Value} (w : World) (mm : Int) (hdt : DfT w mm) (hv : v = r.v p) (hu : u = .slice ia ig.length ic) (h : RpIn w r p) (hm : MedF r.fs) (hi : StrsC w ia ig ic) (hiz : ∀ x ∈ ig, x.size ≤ maxLen) (hil : ig.length ≤ 1000) (hbl : r.body.length ≤ 1000000000) (hs : seeV r.st r.fs r.body ig = s) :
    Calls Tryz.prog 11 #[v, u] w fun e w' => ∃ v', e = .returned v' ∧ Below w.heap.size w w' ∧ ∃ q, v' = s.v q ∧ SnIn w' s q := by
  subst hv hu
  refine (dSee_eq w mm hdt h hm hi hiz hil hbl hs).mono ?_
  rintro e w' ⟨q, rfl, h1, h2⟩
  exact ⟨_, rfl, h2, q, rfl, h1⟩
theorem refSee_v {r : Rp} {p : SnP} {ig : List ByteArray} {ia : Option Addr} {ic : Nat} {s : Sn} {v u : Value} (w : World) (hv : v = r.v p) (hu : u = .slice ia ig.length ic) (h : RpIn w r p) (hm : MedF r.fs) (hi : StrsC w ia ig ic) (hiz : ∀ x ∈ ig, x.size ≤ maxLen) (hil : ig.length ≤ 1000) (hbl : r.body.length ≤ 1000000000) (hs : seeV r.st r.fs r.body ig = s) :
    Calls Tryz.prog 12 #[v, u] w fun e w' => ∃ v', e = .returned v' ∧ Below w.heap.size w w' ∧ ∃ q, v' = s.v q ∧ SnIn w' s q := by
  subst hv hu hs
  refine (refSee_any r p ig ia ic w h hm hi hiz hil (by omega)).mono ?_
  rintro e w' ⟨q, rfl, h1, h2⟩
  exact ⟨_, rfl, h2, q, rfl, h1⟩
theorem sameSeen_v {s : Sn} {v u : Value} (w : World) (hv : ∃ q, v = s.v q ∧ SnIn w s q) (hu : ∃ q, u = s.v q ∧ SnIn w s q) (hl : s.fs.length ≤ 1000000) :
    Calls Tryz.prog 10 #[v, u] w fun e w' => ∃ v', e = .returned v' ∧ Below w.heap.size w w' ∧ v' = .bool true := by
  obtain ⟨p, rfl, h⟩ := hv
  obtain ⟨q, rfl, k⟩ := hu
  refine (sameSeen_self s p q w h k hl).mono ?_
  rintro e w' ⟨rfl, h2⟩
  exact ⟨_, rfl, h2, rfl⟩
def SeeOk (w : World) (g : Nat) (wx : World) : Prop := ∃ x1 x2 x3 x4 x5 q1 q2 q3 q4, VarA wx g #[.int .i64 x1, .string x2, .int .i64 x3, .slice q1 x4.length q2, .slice q3 x5.length q4] 26 ∧ RpIn wx ⟨x1, x2, x3, x4, x5⟩ ⟨q1, q2, q3, q4⟩ ∧ SmallF x4 ∧ x5.length ≤ 1048576 ∧ Below w.heap.size w wx ∧ x4.length ≤ maxLen

set_option maxRecDepth 100000 in
set_option maxHeartbeats 8000000 in
theorem differSee_any (la : Option Addr) (ln lc : Nat) (r : Rp) (p : SnP) (ig : List ByteArray) (b : Option Addr) (cb : Nat) (wild : Bool) (w : World) (hl : IntsF w la ln) (hn : ln ≤ maxLen) (h : RpIn w r p) (hs : SmallF r.fs) (hrm : r.fs.length ≤ maxLen) (hbl : r.body.length ≤ 1048576) (hcb : cb ≤ maxLen) (hi : StrsC w b ig cb) (hiz : ∀ x ∈ ig, x.size ≤ maxLen) (mm : Int) (hdt : DfT w mm) :
    Calls Tryz.prog 3 #[.slice la ln lc, r.v p, .slice b ig.length cb, .bool wild] w fun e w' => e = .returned (.bool true) ∧ Below w.heap.size w w' := by
  have HIN := Box.mk (And.intro hl (And.intro hn (And.intro h (And.intro hs (And.intro hbl hrm)))))
  have HIG := Box.mk (And.intro hi hiz)
  have hilen := hi.2.1
  have HDT := Box.mk hdt
  clear hl hn h hs hrm hbl hi hiz hdt
  obtain ⟨r1, r2, r3, r4, r5⟩ := r
  obtain ⟨p1, p2, p3, p4⟩ := p
  unfold Rp.v
  simp only
  obtain ⟨W0, hW0⟩ : ∃ W, W = w.alloc (.cells #[.int .i64 r1, .string r2, .int .i64 r3, .slice p1 r4.length p2, .slice p3 r5.length p4] 26) := ⟨_, rfl⟩
  have HB0 := Box.mk (show Below w.heap.size w W0 by rw [hW0]; exact below_oneF _ _)
  have HV0 := Box.mk (show VarA W0 w.heap.size #[.int .i64 r1, .string r2, .int .i64 r3, .slice p1 r4.length p2, .slice p3 r5.length p4] 26 by rw [hW0]; exact VarA.new _ _ _)
  go_enter Tryz.func3, Tryz.ntmps3
  go_upto_region 1 with fail
  change Code.wp _ _ _ _ (w.alloc (.cells #[.int .i64 r1, .string r2, .int .i64 r3, .slice p1 r4.length p2, .slice p3 r5.length p4] 26))
  rw [← hW0]
  clear hW0
  obtain ⟨gr, hgr⟩ : ∃ g, g = w.heap.size := ⟨_, rfl⟩
  rw [← hgr] at HB0 HV0 ⊢
  have HGR := Box.mk hgr
  clear hgr
  go_wp2_with fail
  refine (dfMade_any la ln lc W0 (HIN.out.1.keep (HGR.out ▸ HB0.out)) HIN.out.2.1).mono ?_
  rintro e w1 ⟨m, n, rfl, hM⟩
  obtain ⟨m1, m2, m3, m4, m5⟩ := m
  obtain ⟨n1, n2, n3, n4⟩ := n
  obtain ⟨W1, hW1⟩ : ∃ W, W = w1.alloc (.cells #[.int .i64 m1, .string m2, .int .i64 m3, .slice n1 m4.length n2, .slice n3 m5.length n4] 26) := ⟨_, rfl⟩
  have hb1 : Below w1.heap.size w1 W1 := by rw [hW1]; exact below_oneF _ _
  have HB1 := Box.mk (show Below w.heap.size w W1 from below_trans (HGR.out ▸ HB0.out) (below_trans hM.2.2.2.2 hb1))
  have HV1 := Box.mk (HV0.out.keep (below_trans hM.2.2.2.2 hb1))
  have HU1 := Box.mk (show VarA W1 w1.heap.size #[.int .i64 m1, .string m2, .int .i64 m3, .slice n1 m4.length n2, .slice n3 m5.length n4] 26 by rw [hW1]; exact VarA.new _ _ _)
  have HM := Box.mk (And.intro (hM.1.keep hb1) (And.intro hM.2.1 (show m5.length ≤ 1048576 ∧ m4.length ≤ maxLen by have h1 := hM.2.2.2.1; have h2 := hM.2.2.1; simp only at h1 h2; unfold maxLen; omega)))
  have HG := Box.mk (show w.heap.size ≤ w1.heap.size by have h1 := hM.2.2.2.2.size; have h2 := HB0.out.size; have h3 := HGR.out; omega)
  clear hM hb1 HV0
  unfold Rp.v
  simp only
  go_upto_region 2 with fail
  change Code.wp _ _ _ _ (w1.alloc (.cells #[.int .i64 m1, .string m2, .int .i64 m3, .slice n1 m4.length n2, .slice n3 m5.length n4] 26))
  rw [← hW1]
  clear hW1
  obtain ⟨g, hg⟩ : ∃ g, g = w1.heap.size := ⟨_, rfl⟩
  rw [← hg] at HU1 HG ⊢
  clear hg
  go_upto_if 12 with fail
  go_cut [] (fun wx => Box (SeeOk w g wx))
  case first =>
    cases wild
    · go_wp2_with fail
      go_meet
      exact ⟨m1, m2, m3, m4, m5, n1, n2, n3, n4, HU1.out, HM.out.1, HM.out.2.1, HM.out.2.2.1, HB1.out, HM.out.2.2.2⟩
    · have v0 := HV1.out.cell (i := 0) (v := .int .i64 r1) rfl
      have v1 := HV1.out.cell (i := 1) (v := .string r2) rfl
      have v2 := HV1.out.cell (i := 2) (v := .int .i64 r3) rfl
      have v3 := HV1.out.cell (i := 3) (v := .slice p1 r4.length p2) rfl
      have v4 := HV1.out.cell (i := 4) (v := .slice p3 r5.length p4) rfl
      have HB2 := Box.mk (show Below w.heap.size w (W1.setRow g #[.int .i64 r1, .string r2, .int .i64 r3, .slice p1 r4.length p2, .slice p3 r5.length p4]) from below_setRow HB1.out HG.out #[.int .i64 r1, .string r2, .int .i64 r3, .slice p1 r4.length p2, .slice p3 r5.length p4])
      go_wp2_with (refine wpList_store_row rfl 26 _ _ rfl g #[.int .i64 r1, .string r2, .int .i64 r3, .slice p1 r4.length p2, .slice p3 r5.length p4] rfl rfl 26 _ HU1.out (sizeRp ..) rfl (oneRp ..) ?_)
      go_meet
      exact ⟨r1, r2, r3, r4, r5, p1, p2, p3, p4, setRow_heap _ _ _ _ _ _ HU1.out, HIN.out.2.2.1.keep HB2.out, HIN.out.2.2.2.1, HIN.out.2.2.2.2.1, HB2.out, HIN.out.2.2.2.2.2⟩
  case rest =>
    clear HIN HM HU1 HV1 HB1 HB0 HG HGR
    obtain ⟨x1, x2, x3, x4, x5, q1, q2, q3, q4, hk⟩ := hcut.out
    have HK := Box.mk hk
    clear hk hcut
    have u3 := HK.out.1.cell (i := 3) (v := .slice q1 x4.length q2) rfl
    have hx4 : x4.length ≤ maxLen := HK.out.2.2.2.2.2
    unfold maxLen at hx4 hcb
    by_cases h30 : 30 < x4.length
    · go_wp2_with fail
      refine (dfAwake_any _ mm (HDT.out.keep HK.out.2.2.2.2.1)).mono ?_
      rintro e w5 ⟨rfl, hb⟩
      have HB5 := Box.mk (below_trans HK.out.2.2.2.2.1 hb)
      clear hb
      go_wp2_with fail
      go_ret
      exact ⟨rfl, HB5.out⟩
    by_cases h10 : 10 < ig.length
    · go_wp2_with fail
      refine (dfAwake_any _ mm (HDT.out.keep HK.out.2.2.2.2.1)).mono ?_
      rintro e w5 ⟨rfl, hb⟩
      have HB5 := Box.mk (below_trans HK.out.2.2.2.2.1 hb)
      clear hb
      go_wp2_with fail
      go_ret
      exact ⟨rfl, HB5.out⟩
    go_upto_region 6 with fail
    have HMED := Box.mk (medF_small HK.out.2.2.1 (by omega))
    obtain ⟨s, hS⟩ : ∃ s, seeV x1 x4 x5 ig = s := ⟨_, rfl⟩
    have HS := Box.mk hS
    have HSL := Box.mk (show s.fs.length ≤ 1000000 by rw [← hS]; have := fieldsN_len x4 ig; unfold seeV; simp only; omega)
    have HIL := Box.mk (show ig.length ≤ 1000 by omega)
    have HXL := Box.mk (show x5.length ≤ 1000000000 by have := HK.out.2.2.2.1; omega)
    clear hS u3
    rename_i wc K hK
    refine wp_region_local (S := [.val (.agg #[.int .i64 x1, .string x2, .int .i64 x3, .slice q1 x4.length q2, .slice q3 x5.length q4]), .val (.slice b ig.length cb), .seenD s, .val (.agg #[.int .i64 x1, .string x2, .int .i64 x3, .slice q1 x4.length q2, .slice q3 x5.length q4]), .val (.slice b ig.length cb), .seenD s, .val (.bool true), .val (.bool true), .val (.bool true), .val (.bool true), .val (.bool true)])
      (by kernel_rfl) (by kernel_rfl) (by kernel_rfl) ?_ ?_
    · refine ⟨?_, ?_, ?_, ?_, ?_, ?_, ?_, ?_, ?_, ?_, ?_, trivial⟩ <;> intro a' w6 hb hf hd
      · exact ⟨wanted_none rfl, loc_load_rowG rfl (hf.base 9 rfl) (HK.out.1.keep hb).row Tryz.underlying26 rfl (sizeRp ..) rfl⟩
      · exact ⟨wanted_none rfl, loc_move rfl (hf.base 2 rfl)⟩
      · exact ⟨wanted_none rfl, loc_call rfl (by kernel_rfl) (dSee_v (r := ⟨x1, x2, x3, x4, x5⟩) (p := ⟨q1, q2, q3, q4⟩) (ig := ig) w6 mm (HDT.out.keep (below_trans HK.out.2.2.2.2.1 hb)) (hd 0 rfl) (hd 1 rfl) (HK.out.2.1.keep hb) HMED.out (HIG.out.1.keep (below_trans HK.out.2.2.2.2.1 hb)) HIG.out.2 HIL.out HXL.out HS.out)⟩
      · exact ⟨wanted_none rfl, loc_load_rowG rfl (hf.base 9 rfl) (HK.out.1.keep hb).row Tryz.underlying26 rfl (sizeRp ..) rfl⟩
      · exact ⟨wanted_none rfl, loc_move rfl (hf.base 2 rfl)⟩
      · exact ⟨wanted_none rfl, loc_call rfl (by kernel_rfl) (refSee_v (r := ⟨x1, x2, x3, x4, x5⟩) (p := ⟨q1, q2, q3, q4⟩) (ig := ig) w6 (hd 3 rfl) (hd 4 rfl) (HK.out.2.1.keep hb) HMED.out (HIG.out.1.keep (below_trans HK.out.2.2.2.2.1 hb)) HIG.out.2 HIL.out HXL.out HS.out)⟩
      · exact ⟨wanted_none rfl, loc_call rfl (by kernel_rfl) (sameSeen_v w6 (hd 2 rfl) (hd 5 rfl) HSL.out)⟩
      · exact ⟨wanted_none rfl, loc_move rfl (hd 6 rfl)⟩
      · exact ⟨wanted_true rfl rfl (hd 7 rfl), loc_call rfl (by kernel_rfl) (dfAwake_v w6 mm (HDT.out.keep (below_trans HK.out.2.2.2.2.1 hb)))⟩
      · exact ⟨wanted_none rfl, loc_pick rfl (hd 7 rfl) (hd 8 rfl)⟩
      · exact ⟨wanted_none rfl, loc_assign rfl (hd 9 rfl)⟩
    · intro a' w6 hb hf hh
      refine hK a' w6 ?_
      go_wp2_with fail
      exact local_ret rfl hf.defers (show a'.eval (.tmp 8) = .bool true from hh 10 (by decide)) ⟨rfl, below_trans HK.out.2.2.2.2.1 hb⟩
end Go.Proofs.YtgmbfiikkogenaaGreatDoor
namespace Go.Proofs.YtgmbfiikkogenaaGreatDoor
open Go.ChangeShapes Go.WideShapes Go.ChangeAt Go.RowKit
set_option linter.unusedVariables false

theorem open_strsC {H : Type} {enc : TypeId × Value → H} {W : World} {a : Option Addr} {len cap : Nat} {d : DataW H} {ps : List MemPlace} {base : Nat}
    (h : DataW.Trod enc Tryz.prog W base (fun _ => true) true 27 (.slice a len cap) d ps) :
    ∃ l : List ByteArray, len = l.length ∧ StrsC W a l cap ∧ cap ≤ maxLen ∧ ∀ s ∈ l, s.size ≤ maxLen := by
  obtain ⟨l, rfl, h1, h2, h3, h4⟩ := open_strings_arg h
  refine ⟨l, rfl, ⟨h1, h2, fun e => ?_⟩, h3, h4⟩
  subst e
  obtain ⟨fuel, hf⟩ := h
  rcases open_strings Tryz.underlying27 Tryz.underlying9 (by kernel_rfl) hf with ⟨hcs, _⟩ | ⟨x, l', c, zs, hcs, _, hl, hm, hz, _, hcell, hwz⟩
  · simp [Value.cells] at hcs
    exact hcs.2
  · simp [Value.cells] at hcs
end Go.Proofs.YtgmbfiikkogenaaGreatDoor
namespace Go.Proofs.YtgmbfiikkogenaaGreatDoor
open Go.RowKit

theorem IsBytes.takeF {w : World} {a : Option Addr} {l : List UInt8} {c : Nat} (h : IsBytes w a l c) (n : Nat) : IsBytes w a (l.take n) c := by
  rcases h with ⟨h1, h2, h3⟩ | ⟨x, h1, h2, h3, h4⟩
  · exact .inl ⟨h1, by rw [h2]; exact List.take_nil, h3⟩
  · exact .inr ⟨x, h1, by rw [List.length_take]; omega, h3, fun j hj => by rw [List.getElem_take]; exact h4 j (by rw [List.length_take] at hj; omega)⟩
theorem shortF_any (l : List UInt8) (a : Option Addr) (cap n : Nat) (w : World) (h : IsBytes w a l cap) (hn : n ≤ 1000) :
    Calls Tryz.prog 18 #[.slice a l.length cap, .int .i64 n] w fun e w' => ∃ cap', e = .returned (.slice a (l.take n).length cap') ∧ IsBytes w a (l.take n) cap' ∧ w = w' := by
  have H0 := Box.mk h
  clear h
  by_cases hlt : n < l.length
  · have HB := Box.mk (H0.out.takeF n)
    have hle : l.length ≤ cap := by
      rcases H0.out with ⟨h1, h2, _⟩ | ⟨x, h1, h2, _⟩
      · rw [h2] at hlt; exact absurd hlt (by simp)
      · exact h2
    have hl : (l.take n).length = n := by rw [List.length_take]; omega
    rw [hl]
    go_enter Tryz.func18, Tryz.ntmps18
    go_wp2
    go_ret
    exact ⟨_, rfl, HB.out, rfl⟩
  · rw [List.take_of_length_le (by omega)]
    go_enter Tryz.func18, Tryz.ntmps18
    go_wp2
    go_ret
    exact ⟨_, rfl, H0.out, rfl⟩

section
variable (s : ByteArray) (lb : List UInt8) (ab : Option Addr) (cb : Nat) (b : Option Addr) (n c : Nat) (p : Int) (ch : UInt8) (wild : Int) (w : World)
end
end Go.Proofs.YtgmbfiikkogenaaGreatDoor
namespace Go.Proofs.YtgmbfiikkogenaaGreatDoor
open Go.ChangeShapes Go.WideShapes Go.ChangeAt Go.RowKit

theorem fields_none {H : Type} {enc : TypeId × Value → H} {W : World} {a : Option Addr} {len cap : Nat} {d : DataW H} {ps : List MemPlace} {base : Nat}
    (h : DataW.Trod enc Tryz.prog W base (fun _ => true) true 23 (.slice a len cap) d ps) : a = none → len = 0 ∧ cap = 0 := by
  obtain ⟨fuel, hf⟩ := h
  rcases Go.Deep.open_slice_pairs Tryz.underlying23 Tryz.underlying46 (by kernel_rfl) (by kernel_rfl) (by kernel_rfl) (by kernel_rfl) (by kernel_rfl) hf with ⟨hcs, _⟩ | ⟨x, n, c, m, k, V0, V1, D0, D1, P0, P1, hcs, _⟩
  · simp [Value.cells] at hcs
    obtain ⟨rfl, rfl, rfl⟩ := hcs
    exact fun _ => ⟨rfl, rfl⟩
  · simp [Value.cells] at hcs
    obtain ⟨rfl, rfl, rfl⟩ := hcs
    intro e; cases e
theorem open_fieldsC {H : Type} {enc : TypeId × Value → H} {W : World} {a : Option Addr} {len cap : Nat} {d : DataW H} {ps : List MemPlace} {base : Nat}
    (h : DataW.Trod enc Tryz.prog W base (fun _ => true) true 23 (.slice a len cap) d ps) :
    ∃ l : List Fld, len = l.length ∧ FldsC W a l cap ∧ l.length ≤ cap ∧ cap ≤ maxLen ∧ ShortF l ∧ (Rows.uptoBulk d ≤ 1048576 → SmallF l) := by
  obtain ⟨l, rfl, h1, h2, h3, h4, h5⟩ := open_fields h
  refine ⟨l, rfl, ⟨h1, fun e => ?_⟩, h2, h3, h4, fun hb f hf => ⟨Nat.le_trans (h5 f hf).1 hb, Nat.le_trans (h5 f hf).2 hb⟩⟩
  obtain ⟨e1, e2⟩ := fields_none h e
  exact ⟨List.eq_nil_of_length_eq_zero e1, e2⟩
theorem i64_ofF {x : Int} (h : (Lit.int .i64 x).wf = true) : -9223372036854775808 ≤ x ∧ x ≤ 9223372036854775807 := bounds_i64 h
theorem open_intsf {H : Type} {enc : TypeId × Value → H} {W : World} {a : Option Addr} {len cap : Nat} {d : DataW H} {ps : List MemPlace} {base : Nat}
    (h : DataW.Trod enc Tryz.prog W base (fun _ => true) true 22 (.slice a len cap) d ps) : IntsF W a len ∧ len ≤ maxLen := by
  obtain ⟨fuel, hf⟩ := h
  rcases open_ints Tryz.underlying22 Tryz.underlying3 (by kernel_rfl) hf with ⟨hcs, _⟩ | ⟨x, l, c, zs, hcs, _, hl, hm, hz, _, hcell, hwz⟩
  · simp [Value.cells] at hcs
    obtain ⟨rfl, rfl, rfl⟩ := hcs
    exact ⟨fun k hk => absurd hk (Nat.not_lt_zero _), Nat.zero_le _⟩
  · simp [Value.cells] at hcs
    obtain ⟨rfl, rfl, rfl⟩ := hcs
    have hz' : zs.length = cap := by simpa using hz
    refine ⟨fun k hk => ?_, Nat.le_trans hl hm⟩
    have hk' : k < zs.length := by omega
    have e : zs.getD k 0 = zs[k] := by rw [List.getD_eq_getElem?_getD, List.getElem?_eq_getElem hk']; rfl
    refine ⟨x, zs[k], rfl, by rw [hcell k hk', e], i64_ofF (hwz zs[k] (List.getElem_mem _))⟩
end Go.Proofs.YtgmbfiikkogenaaGreatDoor
namespace Go.Proofs.YtgmbfiikkogenaaGreatDoor
open Go.ChangeShapes Go.WideShapes Go.ChangeAt Go.RowKit
set_option linter.unusedVariables false

set_option maxRecDepth 100000 in
theorem open_seen4 {H : Type} {enc : TypeId × Value → H} {W : World} {r : Reach} {q0 : Nat} {v : Value} {d : DataW H} {ps : List MemPlace} {base : Nat} (hval : Value.okWide Tryz.prog W r q0 32 v)
    (h : DataW.Trod enc Tryz.prog W base (fun _ => true) true 32 v d ps) :
    ∃ (z0 : Int) (l1 : List Fld) (a1 : Option Addr) (c1 : Nat) (z2 : Int) (l3 : List UInt8) (a3 : Option Addr) (c3 : Nat), v = .agg #[.int .i64 z0, .slice a1 l1.length c1, .int .i64 z2, .slice a3 l3.length c3] ∧ (-9223372036854775808 ≤ z0 ∧ z0 ≤ 9223372036854775807) ∧ (FldsC W a1 l1 c1 ∧ l1.length ≤ c1 ∧ c1 ≤ maxLen ∧ ShortF l1 ∧ (Rows.uptoBulk d ≤ 1048576 → SmallF l1)) ∧ (-9223372036854775808 ≤ z2 ∧ z2 ≤ 9223372036854775807) ∧ (IsBytes W a3 l3 c3 ∧ l3.length ≤ Rows.uptoBulk d) := by
  obtain ⟨cs, rfl, hsz⟩ := okWide_struct Tryz.underlying32 hval
  obtain ⟨fuel, hf⟩ := h
  have hsz2 : cs.size = 4 := by rw [hsz]; kernel_rfl
  obtain ⟨x0, x1, x2, x3, rfl⟩ : ∃ x0 x1 x2 x3, cs = #[x0, x1, x2, x3] := by
    match cs, hsz2 with
    | ⟨[x0, x1, x2, x3]⟩, _ => exact ⟨x0, x1, x2, x3, rfl⟩
  obtain ⟨ys, n, _, hdp, _, hlen, hfs⟩ := DataW.trod_struct Tryz.underlying32 hf
  obtain ⟨y0, y1, y2, y3, rfl⟩ : ∃ y0 y1 y2 y3, ys = [y0, y1, y2, y3] := by
    match ys, hlen with
    | [y0, y1, y2, y3], _ => exact ⟨y0, y1, y2, y3, rfl⟩
  have h0 : DataW.trod enc Tryz.prog W base (fun _ => true) true n 3 [x0] = some y0 := by
    have e : ((Value.agg #[x0, x1, x2, x3]).cells.toList.drop 0).take (Tryz.prog.cellsOf 3) = [x0] := by rw [show Tryz.prog.cellsOf 3 = 1 by kernel_rfl]; rfl
    rw [← e]; exact hfs 0 _ rfl
  have h1 : DataW.trod enc Tryz.prog W base (fun _ => true) true n 23 [x1] = some y1 := by
    have e : ((Value.agg #[x0, x1, x2, x3]).cells.toList.drop 1).take (Tryz.prog.cellsOf 23) = [x1] := by rw [show Tryz.prog.cellsOf 23 = 1 by kernel_rfl]; rfl
    rw [← e]; exact hfs 1 _ rfl
  have h2 : DataW.trod enc Tryz.prog W base (fun _ => true) true n 3 [x2] = some y2 := by
    have e : ((Value.agg #[x0, x1, x2, x3]).cells.toList.drop 2).take (Tryz.prog.cellsOf 3) = [x2] := by rw [show Tryz.prog.cellsOf 3 = 1 by kernel_rfl]; rfl
    rw [← e]; exact hfs 2 _ rfl
  have h3 : DataW.trod enc Tryz.prog W base (fun _ => true) true n 24 [x3] = some y3 := by
    have e : ((Value.agg #[x0, x1, x2, x3]).cells.toList.drop 3).take (Tryz.prog.cellsOf 24) = [x3] := by rw [show Tryz.prog.cellsOf 24 = 1 by kernel_rfl]; rfl
    rw [← e]; exact hfs 3 _ rfl
  have hd : d = .agg [y0.1, y1.1, y2.1, y3.1] := by have := congrArg Prod.fst hdp; simpa using this
  obtain ⟨z0, ez0, fz0, wz0⟩ := DataW.trod_int Tryz.underlying3 h0
  injection ez0 with ez0
  subst ez0
  obtain ⟨a1, len1, c1, rfl⟩ : ∃ a len cap, x1 = .slice a len cap := by
    rcases Go.Deep.open_slice_pairs Tryz.underlying23 Tryz.underlying46 (by kernel_rfl) (by kernel_rfl) (by kernel_rfl) (by kernel_rfl) (by kernel_rfl) h1 with ⟨hcs, _⟩ | ⟨x, k, c, m, j, V0, V1, D0, D1, P0, P1, hcs, _⟩
    · injection hcs with hcs; exact ⟨_, _, _, hcs⟩
    · injection hcs with hcs; exact ⟨_, _, _, hcs⟩
  obtain ⟨l1, rfl, hF1, hc1, hm1, hS1, hu1⟩ := open_fieldsC (d := y1.1) (ps := y1.2) ⟨n, h1⟩
  obtain ⟨z2, ez2, fz2, wz2⟩ := DataW.trod_int Tryz.underlying3 h2
  injection ez2 with ez2
  subst ez2
  obtain ⟨a3, len3, c3, rfl⟩ : ∃ a len cap, x3 = .slice a len cap := by
    rcases open_ints Tryz.underlying24 Tryz.underlying5 (by kernel_rfl) h3 with ⟨hcs, _⟩ | ⟨x, k, c, zs, hcs, _⟩
    · injection hcs with hcs; exact ⟨_, _, _, hcs⟩
    · injection hcs with hcs; exact ⟨_, _, _, hcs⟩
  obtain ⟨l3, rfl, hb3, hl3⟩ := open_bytes_bulk (d := y3.1) (ps := y3.2) ⟨n, h3⟩
  subst hd
  subst fz0 fz2
  simp only [Rows.uptoBulk, Rows.uptoBulkAll, ]
  exact ⟨z0, l1, a1, c1, z2, l3, a3, c3, rfl, i64_ofF wz0, ⟨hF1, hc1, hm1, hS1, fun hb => hu1 (by omega)⟩, i64_ofF wz2, ⟨hb3, by omega⟩⟩
set_option maxRecDepth 100000 in
theorem open_diff3 {H : Type} {enc : TypeId × Value → H} {W : World} {r : Reach} {q0 : Nat} {v : Value} {d : DataW H} {ps : List MemPlace} {base : Nat} (hval : Value.okWide Tryz.prog W r q0 37 v)
    (h : DataW.Trod enc Tryz.prog W base (fun _ => true) true 37 v d ps) :
    ∃ (b0 : Bool) (b1 : Bool) (l2 : List ByteArray) (a2 : Option Addr) (c2 : Nat), v = .agg #[.bool b0, .bool b1, .slice a2 l2.length c2] ∧ StrsC W a2 l2 c2 := by
  obtain ⟨cs, rfl, hsz⟩ := okWide_struct Tryz.underlying37 hval
  obtain ⟨fuel, hf⟩ := h
  have hsz2 : cs.size = 3 := by rw [hsz]; kernel_rfl
  obtain ⟨x0, x1, x2, rfl⟩ : ∃ x0 x1 x2, cs = #[x0, x1, x2] := by
    match cs, hsz2 with
    | ⟨[x0, x1, x2]⟩, _ => exact ⟨x0, x1, x2, rfl⟩
  obtain ⟨ys, n, _, hdp, _, hlen, hfs⟩ := DataW.trod_struct Tryz.underlying37 hf
  obtain ⟨y0, y1, y2, rfl⟩ : ∃ y0 y1 y2, ys = [y0, y1, y2] := by
    match ys, hlen with
    | [y0, y1, y2], _ => exact ⟨y0, y1, y2, rfl⟩
  have h0 : DataW.trod enc Tryz.prog W base (fun _ => true) true n 4 [x0] = some y0 := by
    have e : ((Value.agg #[x0, x1, x2]).cells.toList.drop 0).take (Tryz.prog.cellsOf 4) = [x0] := by rw [show Tryz.prog.cellsOf 4 = 1 by kernel_rfl]; rfl
    rw [← e]; exact hfs 0 _ rfl
  have h1 : DataW.trod enc Tryz.prog W base (fun _ => true) true n 4 [x1] = some y1 := by
    have e : ((Value.agg #[x0, x1, x2]).cells.toList.drop 1).take (Tryz.prog.cellsOf 4) = [x1] := by rw [show Tryz.prog.cellsOf 4 = 1 by kernel_rfl]; rfl
    rw [← e]; exact hfs 1 _ rfl
  have h2 : DataW.trod enc Tryz.prog W base (fun _ => true) true n 27 [x2] = some y2 := by
    have e : ((Value.agg #[x0, x1, x2]).cells.toList.drop 2).take (Tryz.prog.cellsOf 27) = [x2] := by rw [show Tryz.prog.cellsOf 27 = 1 by kernel_rfl]; rfl
    rw [← e]; exact hfs 2 _ rfl
  have hd : d = .agg [y0.1, y1.1, y2.1] := by have := congrArg Prod.fst hdp; simpa using this
  obtain ⟨b0, eb0, fb0⟩ := DataW.trod_bool Tryz.underlying4 h0
  injection eb0 with eb0
  subst eb0
  obtain ⟨b1, eb1, fb1⟩ := DataW.trod_bool Tryz.underlying4 h1
  injection eb1 with eb1
  subst eb1
  obtain ⟨a2, len2, c2, rfl⟩ : ∃ a len cap, x2 = .slice a len cap := by
    rcases open_strings Tryz.underlying27 Tryz.underlying9 (by kernel_rfl) h2 with ⟨hcs, _⟩ | ⟨x, k, c, zs, hcs, _⟩
    · injection hcs with hcs; exact ⟨_, _, _, hcs⟩
    · injection hcs with hcs; exact ⟨_, _, _, hcs⟩
  obtain ⟨l2, rfl, hI2, _⟩ := open_strsC (d := y2.1) (ps := y2.2) ⟨n, h2⟩
  subst hd
  subst fb0 fb1
  exact ⟨b0, b1, l2, a2, c2, rfl, hI2⟩
set_option maxRecDepth 100000 in
theorem open_seen {H : Type} {enc : TypeId × Value → H} {W : World} {r : Reach} {q0 : Nat} {v : Value} {d : DataW H} {ps : List MemPlace} {base : Nat} (hval : Value.okWide Tryz.prog W r q0 32 v)
    (h : DataW.Trod enc Tryz.prog W base (fun _ => true) true 32 v d ps) : ∃ (s : Sn) (p : SnP), v = s.v p ∧ SnIn W s p ∧ (s.fs.length ≤ maxLen ∧ ShortF s.fs) := by
  obtain ⟨z0, l1, a1, c1, z2, l3, a3, c3, rfl, _, h1, _, h3⟩ := open_seen4 hval h
  exact ⟨⟨z0, l1, z2, l3⟩, ⟨a1, c1, a3, c3⟩, rfl, ⟨h1.1, h1.2.1, h3.1⟩, ⟨Nat.le_trans h1.2.1 h1.2.2.1, h1.2.2.2.1⟩⟩
set_option maxRecDepth 100000 in
theorem open_difference {H : Type} {enc : TypeId × Value → H} {W : World} {r : Reach} {q0 : Nat} {v : Value} {d : DataW H} {ps : List MemPlace} {base : Nat} (hval : Value.okWide Tryz.prog W r q0 37 v)
    (h : DataW.Trod enc Tryz.prog W base (fun _ => true) true 37 v d ps) : ∃ (s : Df) (a : Option Addr) (c : Nat), v = s.v a c ∧ StrsC W a s.fs c := by
  obtain ⟨b0, b1, l2, a2, c2, rfl, h2⟩ := open_diff3 hval h
  exact ⟨⟨b0, b1, l2⟩, a2, c2, rfl, h2⟩
end Go.Proofs.YtgmbfiikkogenaaGreatDoor
namespace Go.Proofs.YtgmbfiikkogenaaGreatDoor
open Go.ChangeShapes Go.WideShapes Go.ChangeAt Go.RowKit

set_option maxRecDepth 100000 in
theorem open_reply {H : Type} {enc : TypeId × Value → H} {W : World} {r : Reach} {q0 : Nat} {v : Value} {d : DataW H} {ps : List MemPlace} {base : Nat} (hval : Value.okWide Tryz.prog W r q0 26 v)
    (h : DataW.Trod enc Tryz.prog W base (fun _ => true) true 26 v d ps) :
    ∃ (z0 : Int) (s1 : ByteArray) (z2 : Int) (l3 : List Fld) (a3 : Option Addr) (c3 : Nat) (l4 : List UInt8) (a4 : Option Addr) (c4 : Nat), v = .agg #[.int .i64 z0, .string s1, .int .i64 z2, .slice a3 l3.length c3, .slice a4 l4.length c4] ∧ (-9223372036854775808 ≤ z0 ∧ z0 ≤ 9223372036854775807) ∧ s1.size ≤ maxLen ∧ s1.size ≤ Rows.uptoBulk d ∧ (-9223372036854775808 ≤ z2 ∧ z2 ≤ 9223372036854775807) ∧ (FldsC W a3 l3 c3 ∧ l3.length ≤ c3 ∧ c3 ≤ maxLen ∧ ShortF l3 ∧ (Rows.uptoBulk d ≤ 1048576 → SmallF l3)) ∧ (IsBytes W a4 l4 c4 ∧ l4.length ≤ Rows.uptoBulk d) := by
  obtain ⟨cs, rfl, hsz⟩ := okWide_struct Tryz.underlying26 hval
  obtain ⟨fuel, hf⟩ := h
  have hsz2 : cs.size = 5 := by rw [hsz]; kernel_rfl
  obtain ⟨x0, x1, x2, x3, x4, rfl⟩ : ∃ x0 x1 x2 x3 x4, cs = #[x0, x1, x2, x3, x4] := by
    match cs, hsz2 with
    | ⟨[x0, x1, x2, x3, x4]⟩, _ => exact ⟨x0, x1, x2, x3, x4, rfl⟩
  obtain ⟨ys, n, _, hdp, _, hlen, hfs⟩ := DataW.trod_struct Tryz.underlying26 hf
  obtain ⟨y0, y1, y2, y3, y4, rfl⟩ : ∃ y0 y1 y2 y3 y4, ys = [y0, y1, y2, y3, y4] := by
    match ys, hlen with
    | [y0, y1, y2, y3, y4], _ => exact ⟨y0, y1, y2, y3, y4, rfl⟩
  have h0 : DataW.trod enc Tryz.prog W base (fun _ => true) true n 3 [x0] = some y0 := by
    have e : ((Value.agg #[x0, x1, x2, x3, x4]).cells.toList.drop 0).take (Tryz.prog.cellsOf 3) = [x0] := by rw [show Tryz.prog.cellsOf 3 = 1 by kernel_rfl]; rfl
    rw [← e]; exact hfs 0 _ rfl
  have h1 : DataW.trod enc Tryz.prog W base (fun _ => true) true n 9 [x1] = some y1 := by
    have e : ((Value.agg #[x0, x1, x2, x3, x4]).cells.toList.drop 1).take (Tryz.prog.cellsOf 9) = [x1] := by rw [show Tryz.prog.cellsOf 9 = 1 by kernel_rfl]; rfl
    rw [← e]; exact hfs 1 _ rfl
  have h2 : DataW.trod enc Tryz.prog W base (fun _ => true) true n 3 [x2] = some y2 := by
    have e : ((Value.agg #[x0, x1, x2, x3, x4]).cells.toList.drop 2).take (Tryz.prog.cellsOf 3) = [x2] := by rw [show Tryz.prog.cellsOf 3 = 1 by kernel_rfl]; rfl
    rw [← e]; exact hfs 2 _ rfl
  have h3 : DataW.trod enc Tryz.prog W base (fun _ => true) true n 23 [x3] = some y3 := by
    have e : ((Value.agg #[x0, x1, x2, x3, x4]).cells.toList.drop 3).take (Tryz.prog.cellsOf 23) = [x3] := by rw [show Tryz.prog.cellsOf 23 = 1 by kernel_rfl]; rfl
    rw [← e]; exact hfs 3 _ rfl
  have h4 : DataW.trod enc Tryz.prog W base (fun _ => true) true n 24 [x4] = some y4 := by
    have e : ((Value.agg #[x0, x1, x2, x3, x4]).cells.toList.drop 4).take (Tryz.prog.cellsOf 24) = [x4] := by rw [show Tryz.prog.cellsOf 24 = 1 by kernel_rfl]; rfl
    rw [← e]; exact hfs 4 _ rfl
  have hd : d = .agg [y0.1, y1.1, y2.1, y3.1, y4.1] := by have := congrArg Prod.fst hdp; simpa using this
  obtain ⟨z0, ez0, fz0, wz0⟩ := DataW.trod_int Tryz.underlying3 h0
  injection ez0 with ez0
  subst ez0
  obtain ⟨s1, es1, fs1, zs1⟩ := DataW.trod_string Tryz.underlying9 h1
  injection es1 with es1
  subst es1
  have ls1 : s1.data.toList.length = s1.size := by rw [Array.length_toList]; rfl
  obtain ⟨z2, ez2, fz2, wz2⟩ := DataW.trod_int Tryz.underlying3 h2
  injection ez2 with ez2
  subst ez2
  obtain ⟨a3, len3, c3, rfl⟩ : ∃ a len cap, x3 = .slice a len cap := by
    rcases Go.Deep.open_slice_pairs Tryz.underlying23 Tryz.underlying46 (by kernel_rfl) (by kernel_rfl) (by kernel_rfl) (by kernel_rfl) (by kernel_rfl) h3 with ⟨hcs, _⟩ | ⟨x, k, c, m, j, V0, V1, D0, D1, P0, P1, hcs, _⟩
    · injection hcs with hcs; exact ⟨_, _, _, hcs⟩
    · injection hcs with hcs; exact ⟨_, _, _, hcs⟩
  obtain ⟨l3, rfl, hF3, hc3, hm3, hS3, hu3⟩ := open_fieldsC (d := y3.1) (ps := y3.2) ⟨n, h3⟩
  obtain ⟨a4, len4, c4, rfl⟩ : ∃ a len cap, x4 = .slice a len cap := by
    rcases open_ints Tryz.underlying24 Tryz.underlying5 (by kernel_rfl) h4 with ⟨hcs, _⟩ | ⟨x, k, c, zs, hcs, _⟩
    · injection hcs with hcs; exact ⟨_, _, _, hcs⟩
    · injection hcs with hcs; exact ⟨_, _, _, hcs⟩
  obtain ⟨l4, rfl, hb4, hl4⟩ := open_bytes_bulk (d := y4.1) (ps := y4.2) ⟨n, h4⟩
  subst hd
  subst fz0 fs1 fz2
  simp only [Rows.uptoBulk, Rows.uptoBulkAll, ls1]
  exact ⟨z0, s1, z2, l3, a3, c3, l4, a4, c4, rfl, i64_ofF wz0, zs1, by omega, i64_ofF wz2, ⟨hF3, hc3, hm3, hS3, fun hb => hu3 (by omega)⟩, ⟨hb4, by omega⟩⟩
end Go.Proofs.YtgmbfiikkogenaaGreatDoor
namespace Go.Proofs.YtgmbfiikkogenaaGreatDoor
open Go.ChangeShapes Go.WideShapes Go.ChangeAt Go.RowKit

def tabI : List Int := [1779033703, 3144134277, 1013904242, 2773480762, 1359893119, 2600822924, 528734635, 1541459225]
def tabK : List Int := [1116352408, 1899447441, 3049323471, 3921009573, 961987163, 1508970993, 2453635748, 2870763221, 3624381080, 310598401, 607225278, 1426881987, 1925078388, 2162078206, 2614888103, 3248222580, 3835390401, 4022224774, 264347078, 604807628, 770255983, 1249150122, 1555081692, 1996064986, 2554220882, 2821834349, 2952996808, 3210313671, 3336571891, 3584528711, 113926993, 338241895, 666307205, 773529912, 1294757372, 1396182291, 1695183700, 1986661051, 2177026350, 2456956037, 2730485921, 2820302411, 3259730800, 3345764771, 3516065817, 3600352804, 4094571909, 275423344, 430227734, 506948616, 659060556, 883997877, 958139571, 1322822218, 1537002063, 1747873779, 1955562222, 2024104815, 2227730452, 2361852424, 2428436474, 2756734187, 3204031479, 3329325298]
theorem tabI_eq : initS.cells.toList = tabI.map (Value.int .u32) := by kernel_rfl
theorem tabK_eq : kkV.toList = tabK.map (Value.int .u32) := by kernel_rfl
theorem rowAt_of_tab {W : World} {name : String} {g : Nat} {zs : List Int} {cs : Array Value} (h : Lib.TabIs Tryz.prog W name .u32 zs) (hg : Tryz.prog.globalNamed name = some g) (he : cs.toList = zs.map (Value.int .u32)) : RowAt W g cs := fun j v hj => by
  rw [he, List.getElem?_map] at hj
  obtain ⟨z, hz, rfl⟩ := Option.map_eq_some_iff.1 hj
  obtain ⟨hlt, rfl⟩ := List.getElem?_eq_some_iff.1 hz
  rw [h.cell hg j hlt, List.getD_eq_getElem?_getD, List.getElem?_eq_getElem hlt]; rfl
theorem dtabs_of_laid {W : World} {l : List (String × DataW Unit)} (h : laidMetH Tryz.prog l W)
    (e1 : l.filter (fun x => x.1 == "canary/digest.initial") = [("canary/digest.initial", Lib.tabData .u32 tabI)])
    (e2 : l.filter (fun x => x.1 == "canary/digest.rounds") = [("canary/digest.rounds", Lib.tabData .u32 tabK)]) : DTabs W := by
  have h1 := h.filter (fun x => x.1 == "canary/digest.initial")
  have h2 := h.filter (fun x => x.1 == "canary/digest.rounds")
  rw [e1] at h1
  rw [e2] at h2
  rw [MakeChecks.laidMetH_plain _ _ _ (by kernel_rfl)] at h1 h2
  have t1 := Lib.tabIs_of_head (g := 0) (t := 74) (e := 73) (n := 8) (by kernel_rfl) (by kernel_rfl) (by kernel_rfl) (by kernel_rfl) (by kernel_rfl) (by kernel_rfl) h1
  have t2 := Lib.tabIs_of_head (g := 1) (t := 109) (e := 73) (n := 64) (by kernel_rfl) (by kernel_rfl) (by kernel_rfl) (by kernel_rfl) (by kernel_rfl) (by kernel_rfl) h2
  exact ⟨rowAt_of_tab t2 (by kernel_rfl) tabK_eq, rowAt_of_tab t1 (by kernel_rfl) tabI_eq⟩
end Go.Proofs.YtgmbfiikkogenaaGreatDoor
namespace Go.Proofs.YtgmbfiikkogenaaGreatDoor
open Go.RowKit
set_option linter.unusedSimpArgs false
set_option linter.unusedVariables false

section
variable {Q : Exit → Act → World → Prop} {act : Act} {w : World} {o : Oper} {s : Spec}
theorem loc_eqlDf {x y : Operand} {t : TypeId} (ho : o.op = .binOp .eql 4 x y t) {b : Bool} (hx : act.eval x = .bool b) (hy : act.eval y = .bool b) (hs : s.p (.bool true) w) :
    o.wp Tryz.prog act w (fun a' w' => ∃ v, a' = act.put o.dst v ∧ Below w.heap.size w w' ∧ s.p v w') Q :=
  loc_run (v := .bool true) (by
    unfold execOp
    simp only [ho, hx, hy]
    have he : (Op.equalIn Op.maxDepth 4 (.bool b) (.bool b)).run Tryz.prog w = .ok true w := by
      rw [show Op.maxDepth = 9999 + 1 from rfl]
      unfold Op.equalIn
      rw [Sem.run_bind, run_underlying Tryz.underlying4]
      cases b <;> rfl
    simp [eqGuard, binOp, Op.equal, he]) (Below.refl _ _) hs
end
theorem refSee_eq {r : Rp} {p : SnP} {s : Sn} (w : World) (h : RpIn w r p) (hm : MedF r.fs) (hbl : r.body.length ≤ 1000000000) (hs : seeV r.st r.fs r.body [] = s) :
    Calls Tryz.prog 12 #[r.v p, .slice none 0 0] w fun e w' => ∃ q, e = .returned (s.v q) ∧ SnIn w' s q ∧ Below w.heap.size w w' := by
  subst hs
  exact refSee_any r p [] none 0 w h hm (StrsC.none _) (fun _ h => by cases h) (by decide) (by omega)
theorem refCompare_v {a b : Sn} {p q : SnP} {d : Df} {v u : Value} (w : World) (hv : v = a.v p) (hu : u = b.v q) (ha : SnIn w a p) (hb : SnIn w b q) (hal : a.fs.length ≤ 1000) (hbl : b.fs.length ≤ 1000) (hd : cmpV a b = d) :
    Calls Tryz.prog 15 #[v, u] w fun e w' => ∃ v', e = .returned v' ∧ Below w.heap.size w w' ∧ ∃ a c, v' = d.v a c ∧ StrsC w' a d.fs c := by
  subst hv hu hd
  refine (refCompare_any a b p q w ha hb hal hbl).mono ?_
  rintro e w' ⟨da, dc, rfl, h1, h2⟩
  exact ⟨_, rfl, h2, da, dc, rfl, h1⟩
theorem refSame_v {d : Df} {a : Option Addr} {c : Nat} {v : Value} {z : Bool} (w : World) (hv : v = d.v a c) (hz : sameD d = z) :
    Calls Tryz.prog 17 #[v] w fun e w' => ∃ v', e = .returned v' ∧ Below w.heap.size w w' ∧ v' = .bool z := by
  subst hv hz
  refine (refSame_any d a c w).mono ?_
  rintro e w' ⟨rfl, h2⟩
  exact ⟨_, rfl, h2, rfl⟩
def ML (l : List Fld) : Prop := l.length ≤ maxLen ∧ ShortF l
def CmpOk (w : World) (d1 d2 : Bool) (d3 : List ByteArray) (da : Option Addr) (dc gd ga : Nat) (wx : World) : Prop := ∃ x1 x2 x3 x4 k1 k2 k3 k4 y1 y2 y3 y4 l1 l2 l3 l4, VarA wx ga #[.int .i64 x1, .slice k1 x2.length k2, .int .i64 x3, .slice k3 x4.length k4] 32 ∧ VarA wx (ga + 1) #[.int .i64 y1, .slice l1 y2.length l2, .int .i64 y3, .slice l3 y4.length l4] 32 ∧ SnIn wx ⟨x1, x2, x3, x4⟩ ⟨k1, k2, k3, k4⟩ ∧ SnIn wx ⟨y1, y2, y3, y4⟩ ⟨l1, l2, l3, l4⟩ ∧ ML x2 ∧ ML y2 ∧ VarA wx gd #[.bool d1, .bool d2, .slice da d3.length dc] 37 ∧ Below w.heap.size w wx

set_option maxRecDepth 100000 in
set_option maxHeartbeats 8000000 in
theorem differCompare_any (la : Option Addr) (ln lc : Nat) (ma : Option Addr) (mn mc : Nat) (a : Sn) (p : SnP) (b : Sn) (q : SnP) (d : Df) (da : Option Addr) (dc : Nat) (wild : Bool) (w : World) (hl : IntsF w la ln) (hn : ln ≤ maxLen) (hm : IntsF w ma mn) (hmn : mn ≤ maxLen) (ha : SnIn w a p) (ham : ML a.fs) (hb : SnIn w b q) (hbm : ML b.fs) (hd : StrsC w da d.fs dc) (mm : Int) (hdt : DfT w mm) :
    Calls Tryz.prog 4 #[.slice la ln lc, .slice ma mn mc, a.v p, b.v q, d.v da dc, .bool wild] w fun e w' => e = .returned (.bool true) ∧ Below w.heap.size w w' := by
  have HIN := Box.mk (And.intro hl (And.intro hn (And.intro hm hmn)))
  have HAB := Box.mk (And.intro ha (And.intro hb (And.intro ham hbm)))
  have HDD := Box.mk hd
  have HDT := Box.mk hdt
  clear hl hn hm hmn ha ham hb hbm hd hdt
  obtain ⟨a1, a2, a3, a4⟩ := a
  obtain ⟨p1, p2, p3, p4⟩ := p
  obtain ⟨b1, b2, b3, b4⟩ := b
  obtain ⟨q1, q2, q3, q4⟩ := q
  obtain ⟨d1, d2, d3⟩ := d
  obtain ⟨z, hz⟩ : ∃ z, sameD ⟨d1, d2, d3⟩ = z := ⟨_, rfl⟩
  have HZ := Box.mk hz
  clear hz
  unfold Sn.v Df.v
  simp only
  obtain ⟨W0, hW0⟩ : ∃ W, W = ((w.alloc (.cells #[.int .i64 a1, .slice p1 a2.length p2, .int .i64 a3, .slice p3 a4.length p4] 32)).alloc (.cells #[.int .i64 b1, .slice q1 b2.length q2, .int .i64 b3, .slice q3 b4.length q4] 32)).alloc (.cells #[.bool d1, .bool d2, .slice da d3.length dc] 37) := ⟨_, rfl⟩
  have HB0 := Box.mk (show Below w.heap.size w W0 by rw [hW0]; exact below_twoF (below_twoF (below_oneF _ _) _) _)
  have HVA0 := Box.mk (show VarA W0 w.heap.size #[.int .i64 a1, .slice p1 a2.length p2, .int .i64 a3, .slice p3 a4.length p4] 32 by rw [hW0]; exact ((VarA.new _ _ _).below _).below _)
  have HVB0 := Box.mk (show VarA W0 (w.heap.size + 1) #[.int .i64 b1, .slice q1 b2.length q2, .int .i64 b3, .slice q3 b4.length q4] 32 by rw [hW0]; have := (VarA.new (w.alloc (.cells #[.int .i64 a1, .slice p1 a2.length p2, .int .i64 a3, .slice p3 a4.length p4] 32)) #[.int .i64 b1, .slice q1 b2.length q2, .int .i64 b3, .slice q3 b4.length q4] 32).below (.cells #[.bool d1, .bool d2, .slice da d3.length dc] 37); rw [World.size_alloc] at this; exact this)
  have HVD0 := Box.mk (show VarA W0 (w.heap.size + 2) #[.bool d1, .bool d2, .slice da d3.length dc] 37 by rw [hW0]; have := VarA.new ((w.alloc (.cells #[.int .i64 a1, .slice p1 a2.length p2, .int .i64 a3, .slice p3 a4.length p4] 32)).alloc (.cells #[.int .i64 b1, .slice q1 b2.length q2, .int .i64 b3, .slice q3 b4.length q4] 32)) #[.bool d1, .bool d2, .slice da d3.length dc] 37; rw [World.size_alloc, World.size_alloc] at this; exact this)
  go_enter Tryz.func4, Tryz.ntmps4
  go_upto_region 1 with fail
  change Code.wp _ _ _ _ (((w.alloc (.cells #[.int .i64 a1, .slice p1 a2.length p2, .int .i64 a3, .slice p3 a4.length p4] 32)).alloc (.cells #[.int .i64 b1, .slice q1 b2.length q2, .int .i64 b3, .slice q3 b4.length q4] 32)).alloc (.cells #[.bool d1, .bool d2, .slice da d3.length dc] 37))
  rw [← hW0]
  clear hW0
  obtain ⟨gr, hgr⟩ : ∃ g, g = w.heap.size := ⟨_, rfl⟩
  rw [← hgr] at HB0 HVA0 HVB0 HVD0 ⊢
  have HGR := Box.mk hgr
  have HBW := Box.mk (show Below w.heap.size w W0 from hgr ▸ HB0.out)
  clear hgr HB0
  go_wp2_with fail
  refine (dfMade_any la ln lc W0 (HIN.out.1.keep HBW.out) HIN.out.2.1).mono ?_
  rintro e w1 ⟨r, m, rfl, hM⟩
  have HM := Box.mk hM
  obtain ⟨SA, hSA⟩ : ∃ s, seeV r.st r.fs r.body [] = s := ⟨_, rfl⟩
  have HSA := Box.mk hSA
  have HAL := Box.mk (show ML SA.fs by rw [← hSA]; have h1 := ls_fields (ig := []) (medF_small hM.2.1 (by have := hM.2.2.1; omega)); exact ⟨Nat.le_trans h1.1 (by unfold maxLen; decide), h1.2⟩)
  have HB1 := Box.mk hM.2.2.2.2
  clear hM hSA
  obtain ⟨r1, r2, r3, r4, r5⟩ := r
  obtain ⟨m1, m2, m3, m4⟩ := m
  obtain ⟨s1, s2, s3, s4⟩ := SA
  unfold Rp.v
  simp only
  go_wp2_with fail
  refine (refSee_eq (r := ⟨r1, r2, r3, r4, r5⟩) (p := ⟨m1, m2, m3, m4⟩) w1 HM.out.1 (medF_small HM.out.2.1 (by have := HM.out.2.2.1; omega)) (by have := HM.out.2.2.2.1; omega) HSA.out).mono ?_
  rintro e w2 ⟨⟨i1, i2, i3, i4⟩, rfl, h1, h2⟩
  have HS2 := Box.mk h1
  have HB2 := Box.mk (below_trans HB1.out h2)
  clear h1 h2 HM HSA HB1
  unfold Sn.v
  simp only
  go_wp2_with fail
  refine (dfMade_any ma mn mc w2 (HIN.out.2.2.1.keep (below_trans HBW.out HB2.out)) HIN.out.2.2.2).mono ?_
  rintro e w3 ⟨r, m, rfl, hM⟩
  have HM := Box.mk hM
  obtain ⟨SB, hSB⟩ : ∃ s, seeV r.st r.fs r.body [] = s := ⟨_, rfl⟩
  have HSB := Box.mk hSB
  have HBL := Box.mk (show ML SB.fs by rw [← hSB]; have h1 := ls_fields (ig := []) (medF_small hM.2.1 (by have := hM.2.2.1; omega)); exact ⟨Nat.le_trans h1.1 (by unfold maxLen; decide), h1.2⟩)
  have HB3 := Box.mk (below_trans HB2.out hM.2.2.2.2)
  have HS3 := Box.mk (HS2.out.keep hM.2.2.2.2)
  clear hM hSB HS2 HB2 HIN
  obtain ⟨r1, r2, r3, r4, r5⟩ := r
  obtain ⟨m1, m2, m3, m4⟩ := m
  obtain ⟨t1, t2, t3, t4⟩ := SB
  unfold Rp.v
  simp only
  go_wp2_with fail
  refine (refSee_eq (r := ⟨r1, r2, r3, r4, r5⟩) (p := ⟨m1, m2, m3, m4⟩) w3 HM.out.1 (medF_small HM.out.2.1 (by have := HM.out.2.2.1; omega)) (by have := HM.out.2.2.2.1; omega) HSB.out).mono ?_
  rintro e w4 ⟨⟨j1, j2, j3, j4⟩, rfl, h1, h2⟩
  obtain ⟨W4, hW4⟩ : ∃ W, W = (w4.alloc (.cells #[.int .i64 s1, .slice i1 s2.length i2, .int .i64 s3, .slice i3 s4.length i4] 32)).alloc (.cells #[.int .i64 t1, .slice j1 t2.length j2, .int .i64 t3, .slice j3 t4.length j4] 32) := ⟨_, rfl⟩
  have hb : Below w4.heap.size w4 W4 := by rw [hW4]; exact below_twoF (below_oneF w4 _) _
  have HB4 := Box.mk (below_trans HB3.out (below_trans h2 hb))
  have HS4 := Box.mk ((HS3.out.keep h2).keep hb)
  have HT4 := Box.mk (h1.keep hb)
  have HU4 := Box.mk (show VarA W4 w4.heap.size #[.int .i64 s1, .slice i1 s2.length i2, .int .i64 s3, .slice i3 s4.length i4] 32 by rw [hW4]; exact (VarA.new _ _ _).below _)
  have HV4 := Box.mk (show VarA W4 (w4.heap.size + 1) #[.int .i64 t1, .slice j1 t2.length j2, .int .i64 t3, .slice j3 t4.length j4] 32 by rw [hW4]; have := VarA.new (w4.alloc (.cells #[.int .i64 s1, .slice i1 s2.length i2, .int .i64 s3, .slice i3 s4.length i4] 32)) #[.int .i64 t1, .slice j1 t2.length j2, .int .i64 t3, .slice j3 t4.length j4] 32; rw [World.size_alloc] at this; exact this)
  have HG := Box.mk (show gr + 3 ≤ w4.heap.size by have h3 := HVD0.out.lt; have h4 := (below_trans HB3.out h2).size; omega)
  clear h1 h2 hb HM HSB HB3 HS3
  unfold Sn.v
  simp only
  go_upto_region 2 with fail
  change Code.wp _ _ _ _ ((w4.alloc (.cells #[.int .i64 s1, .slice i1 s2.length i2, .int .i64 s3, .slice i3 s4.length i4] 32)).alloc (.cells #[.int .i64 t1, .slice j1 t2.length j2, .int .i64 t3, .slice j3 t4.length j4] 32))
  rw [← hW4]
  clear hW4
  obtain ⟨ga, hga⟩ : ∃ g, g = w4.heap.size := ⟨_, rfl⟩
  rw [← hga] at HU4 HV4 HG ⊢
  clear hga
  have HVA := Box.mk (HVA0.out.keep HB4.out)
  have HVB := Box.mk (HVB0.out.keep HB4.out)
  have HVD := Box.mk (HVD0.out.keep HB4.out)
  have HBB := Box.mk (below_trans HBW.out HB4.out)
  clear HVA0 HVB0 HVD0 HB4 HBW
  cases wild
  · go_upto_region 4 with fail
    have HC := Box.mk (show CmpOk w d1 d2 d3 da dc (gr + 2) ga W4 from ⟨s1, s2, s3, s4, i1, i2, i3, i4, t1, t2, t3, t4, j1, j2, j3, j4, HU4.out, HV4.out, HS4.out, HT4.out, HAL.out, HBL.out, HVD.out, HBB.out⟩)
    clear HU4 HV4 HS4 HT4 HAL HBL HVA HVB HVD HBB HAB HG HGR
    obtain ⟨x1, x2, x3, x4, k1, k2, k3, k4, y1, y2, y3, y4, l1, l2, l3, l4, hk⟩ := HC.out
    have HK := Box.mk hk
    clear hk HC
    have u1 := HK.out.1.cell (i := 1) (v := .slice k1 x2.length k2) rfl
    have v1 := HK.out.2.1.cell (i := 1) (v := .slice l1 y2.length l2) rfl
    have hx2 : x2.length ≤ 9223372036854775807 := by have := HK.out.2.2.2.2.1.1; unfold maxLen at this; omega
    have hy2 : y2.length ≤ 9223372036854775807 := by have := HK.out.2.2.2.2.2.1.1; unfold maxLen at this; omega
    by_cases h30 : 30 < x2.length
    · go_wp2_with fail
      refine (dfAwake_any _ mm (HDT.out.keep HK.out.2.2.2.2.2.2.2)).mono ?_
      rintro e w5 ⟨rfl, hb⟩
      have HB5 := Box.mk (below_trans HK.out.2.2.2.2.2.2.2 hb)
      clear hb
      go_wp2_with fail
      go_ret
      exact ⟨rfl, HB5.out⟩
    by_cases h31 : 30 < y2.length
    · go_wp2_with fail
      refine (dfAwake_any _ mm (HDT.out.keep HK.out.2.2.2.2.2.2.2)).mono ?_
      rintro e w5 ⟨rfl, hb⟩
      have HB5 := Box.mk (below_trans HK.out.2.2.2.2.2.2.2 hb)
      clear hb
      go_wp2_with fail
      go_ret
      exact ⟨rfl, HB5.out⟩
    go_upto_region 6 with fail
    obtain ⟨D, hD⟩ : ∃ D, cmpV ⟨x1, x2, x3, x4⟩ ⟨y1, y2, y3, y4⟩ = D := ⟨_, rfl⟩
    have HD := Box.mk hD
    have HXL := Box.mk (show LS x2 from ⟨by omega, HK.out.2.2.2.2.1.2⟩)
    have HYL := Box.mk (show LS y2 from ⟨by omega, HK.out.2.2.2.2.2.1.2⟩)
    have HDL := Box.mk (show D.fs.length ≤ 1000000 by
      rw [← hD]
      unfold cmpV fsD
      simp only
      refine Nat.le_trans (List.length_filter_le _ _) (Nat.le_trans (namesS_len _) ?_)
      rw [List.length_map, List.length_append]; omega)
    clear hD u1 v1
    rename_i K hK
    refine wp_region_local (S := [.val (.agg #[.int .i64 x1, .slice k1 x2.length k2, .int .i64 x3, .slice k3 x4.length k4]), .val (.agg #[.int .i64 y1, .slice l1 y2.length l2, .int .i64 y3, .slice l3 y4.length l4]), .diffD D, .val (.agg #[.int .i64 x1, .slice k1 x2.length k2, .int .i64 x3, .slice k3 x4.length k4]), .val (.agg #[.int .i64 y1, .slice l1 y2.length l2, .int .i64 y3, .slice l3 y4.length l4]), .diffD D, .val (.bool true), .val (.bool true), .val (.agg #[.bool d1, .bool d2, .slice da d3.length dc]), .val (.bool z), .val (.agg #[.bool d1, .bool d2, .slice da d3.length dc]), .val (.bool z), .val (.bool true), .val (.bool true), .val (.bool true), .val (.bool true), .val (.bool true), .val (.bool true)])
      (by kernel_rfl) (by kernel_rfl) (by kernel_rfl) ?_ ?_
    · refine ⟨?_, ?_, ?_, ?_, ?_, ?_, ?_, ?_, ?_, ?_, ?_, ?_, ?_, ?_, ?_, ?_, ?_, ?_, trivial⟩ <;> intro a' w6 hb hf hd
      · exact ⟨wanted_none rfl, loc_load_rowG rfl (hf.base 13 rfl) (HK.out.1.keep hb).row Tryz.underlying32 rfl (sizeSn ⟨x1, x2, x3, x4⟩ ⟨k1, k2, k3, k4⟩) rfl⟩
      · exact ⟨wanted_none rfl, loc_load_rowG rfl (hf.base 14 rfl) (HK.out.2.1.keep hb).row Tryz.underlying32 rfl (sizeSn ⟨y1, y2, y3, y4⟩ ⟨l1, l2, l3, l4⟩) rfl⟩
      · exact ⟨wanted_none rfl, loc_call rfl (by kernel_rfl) (dCompare_v (a := ⟨x1, x2, x3, x4⟩) (p := ⟨k1, k2, k3, k4⟩) (b := ⟨y1, y2, y3, y4⟩) (q := ⟨l1, l2, l3, l4⟩) w6 (hd 0 rfl) (hd 1 rfl) (HK.out.2.2.1.keep hb) (HK.out.2.2.2.1.keep hb) HXL.out HYL.out HD.out)⟩
      · exact ⟨wanted_none rfl, loc_load_rowG rfl (hf.base 13 rfl) (HK.out.1.keep hb).row Tryz.underlying32 rfl (sizeSn ⟨x1, x2, x3, x4⟩ ⟨k1, k2, k3, k4⟩) rfl⟩
      · exact ⟨wanted_none rfl, loc_load_rowG rfl (hf.base 14 rfl) (HK.out.2.1.keep hb).row Tryz.underlying32 rfl (sizeSn ⟨y1, y2, y3, y4⟩ ⟨l1, l2, l3, l4⟩) rfl⟩
      · exact ⟨wanted_none rfl, loc_call rfl (by kernel_rfl) (refCompare_v (a := ⟨x1, x2, x3, x4⟩) (p := ⟨k1, k2, k3, k4⟩) (b := ⟨y1, y2, y3, y4⟩) (q := ⟨l1, l2, l3, l4⟩) w6 (hd 3 rfl) (hd 4 rfl) (HK.out.2.2.1.keep hb) (HK.out.2.2.2.1.keep hb) HXL.out.1 HYL.out.1 HD.out)⟩
      · exact ⟨wanted_none rfl, loc_call rfl (by kernel_rfl) (sameDiff_v w6 (hd 2 rfl) (hd 5 rfl) HDL.out)⟩
      · exact ⟨wanted_none rfl, loc_move rfl (hd 6 rfl)⟩
      · exact ⟨wanted_true rfl rfl (hd 7 rfl), loc_load_rowG rfl (hf.base 10 rfl) (HK.out.2.2.2.2.2.2.1.keep hb).row Tryz.underlying37 rfl (sizeDf ..) rfl⟩
      · exact ⟨wanted_true rfl rfl (hd 7 rfl), loc_call rfl (by kernel_rfl) (dSame_v (d := ⟨d1, d2, d3⟩) w6 ⟨da, dc, hd 8 rfl, HDD.out.keep (below_trans HK.out.2.2.2.2.2.2.2 hb)⟩ HZ.out)⟩
      · exact ⟨wanted_true rfl rfl (hd 7 rfl), loc_load_rowG rfl (hf.base 10 rfl) (HK.out.2.2.2.2.2.2.1.keep hb).row Tryz.underlying37 rfl (sizeDf ..) rfl⟩
      · exact ⟨wanted_true rfl rfl (hd 7 rfl), loc_call rfl (by kernel_rfl) (refSame_v (d := ⟨d1, d2, d3⟩) (a := da) (c := dc) w6 (hd 10 rfl) HZ.out)⟩
      · exact ⟨wanted_true rfl rfl (hd 7 rfl), loc_eqlDf rfl (hd 9 rfl) (hd 11 rfl) rfl⟩
      · exact ⟨wanted_none rfl, loc_pick rfl (hd 7 rfl) (hd 12 rfl)⟩
      · exact ⟨wanted_none rfl, loc_move rfl (hd 13 rfl)⟩
      · exact ⟨wanted_true rfl rfl (hd 14 rfl), loc_call rfl (by kernel_rfl) (dfAwake_v w6 mm (HDT.out.keep (below_trans HK.out.2.2.2.2.2.2.2 hb)))⟩
      · exact ⟨wanted_none rfl, loc_pick rfl (hd 14 rfl) (hd 15 rfl)⟩
      · exact ⟨wanted_none rfl, loc_assign rfl (hd 16 rfl)⟩
    · intro a' w6 hb hf hh
      refine hK a' w6 ?_
      go_wp2_with fail
      exact local_ret rfl hf.defers (show a'.eval (.tmp 12) = .bool true from hh 17 (by decide)) ⟨rfl, below_trans HK.out.2.2.2.2.2.2.2 hb⟩
  · go_upto_region 3 with fail
    rename_i K hK
    refine wp_region_phases [2, 3] (fun ph => match ph with | 0 => [0, 1] | 1 => [1] | _ => [])
      (fun ph => match ph with
        | 0 => [.val (.agg #[.int .i64 a1, .slice p1 a2.length p2, .int .i64 a3, .slice p3 a4.length p4]), .val (.agg #[.int .i64 b1, .slice q1 b2.length q2, .int .i64 b3, .slice q3 b4.length q4]), .any, .any]
        | 1 => [.any, .val (.agg #[.int .i64 b1, .slice q1 b2.length q2, .int .i64 b3, .slice q3 b4.length q4]), .any, .any]
        | _ => [.any, .any, .any, .any])
      (fun ph => match ph with
        | 0 => fun wx => Below W4.heap.size W4 wx
        | 1 => fun wx => VarA wx ga #[.int .i64 a1, .slice p1 a2.length p2, .int .i64 a3, .slice p3 a4.length p4] 32 ∧ VarA wx (ga + 1) #[.int .i64 t1, .slice j1 t2.length j2, .int .i64 t3, .slice j3 t4.length j4] 32 ∧ VarA wx (gr + 1) #[.int .i64 b1, .slice q1 b2.length q2, .int .i64 b3, .slice q3 b4.length q4] 32 ∧ VarA wx (gr + 2) #[.bool d1, .bool d2, .slice da d3.length dc] 37 ∧ Below w.heap.size w wx
        | _ => fun wx => VarA wx ga #[.int .i64 a1, .slice p1 a2.length p2, .int .i64 a3, .slice p3 a4.length p4] 32 ∧ VarA wx (ga + 1) #[.int .i64 b1, .slice q1 b2.length q2, .int .i64 b3, .slice q3 b4.length q4] 32 ∧ VarA wx (gr + 2) #[.bool d1, .bool d2, .slice da d3.length dc] 37 ∧ Below w.heap.size w wx)
      (by kernel_rfl) (by kernel_rfl) (by kernel_rfl) (by kernel_rfl) (by kernel_rfl) (by kernel_rfl) ?_ (Below.refl _ _) ?_ ?_ ?_
    · intro ph w6 w7 h hb
      match ph, h with
      | 0, h => exact below_trans h hb
      | 1, h => exact ⟨h.1.keep hb, h.2.1.keep hb, h.2.2.1.keep hb, h.2.2.2.1.keep hb, below_trans h.2.2.2.2 hb⟩
      | (_ + 2), h => exact ⟨h.1.keep hb, h.2.1.keep hb, h.2.2.1.keep hb, below_trans h.2.2.2 hb⟩
    · intro ph hp
      match ph, hp with
      | 0, _ =>
        refine ⟨?_, ?_, trivial⟩ <;> intro a' w6 hb hf hd
        · exact ⟨wanted_none rfl, loc_load_rowG rfl (hf.base 8 rfl) (HVA.out.keep hb).row Tryz.underlying32 rfl (sizeSn ⟨a1, a2, a3, a4⟩ ⟨p1, p2, p3, p4⟩) rfl⟩
        · exact ⟨wanted_none rfl, loc_load_rowG rfl (hf.base 9 rfl) (HVB.out.keep hb).row Tryz.underlying32 rfl (sizeSn ⟨b1, b2, b3, b4⟩ ⟨q1, q2, q3, q4⟩) rfl⟩
      | 1, _ =>
        refine ⟨?_, trivial⟩
        intro a' w6 hb hf hd
        exact ⟨wanted_none rfl, loc_load_rowG rfl (hf.base 9 rfl) hb.2.2.1.row Tryz.underlying32 rfl (sizeSn ⟨b1, b2, b3, b4⟩ ⟨q1, q2, q3, q4⟩) rfl⟩
      | 2, _ => exact trivial
    · intro ph hp
      match ph, hp with
      | 0, _ =>
        intro a' w6 hv hf hd
        refine ⟨wanted_none rfl, wp_store_row 32 _ _ rfl ga #[.int .i64 a1, .slice p1 a2.length p2, .int .i64 a3, .slice p3 a4.length p4] (hf.base 13 rfl) (hd 0 rfl) 32 _ (HU4.out.keep hv) (sizeSn ⟨a1, a2, a3, a4⟩ ⟨p1, p2, p3, p4⟩) rfl (oneSn ⟨a1, a2, a3, a4⟩ ⟨p1, p2, p3, p4⟩) ⟨undef, rfl, ?_, trivial, ?_⟩⟩
        · exact ⟨setRow_heap _ _ _ _ _ _ (HU4.out.keep hv), (HV4.out.keep hv).row_other (by omega), (HVB.out.keep hv).row_other (by have := HG.out; omega), (HVD.out.keep hv).row_other (by have := HG.out; omega), below_setRow (below_trans HBB.out hv) (by have := HG.out; have := HGR.out; omega) _⟩
        · exact ⟨.inr fun _ _ _ => trivial, .inr fun _ _ h => h, .inl rfl, .inr fun _ _ _ => trivial, trivial⟩
      | 1, _ =>
        intro a' w6 hv hf hd
        obtain ⟨h1, h2, h3, h4, h5⟩ := hv
        refine ⟨wanted_none rfl, wp_store_row 32 _ _ rfl (ga + 1) #[.int .i64 b1, .slice q1 b2.length q2, .int .i64 b3, .slice q3 b4.length q4] (hf.base 14 rfl) (hd 1 rfl) 32 _ h2 (sizeSn ⟨b1, b2, b3, b4⟩ ⟨q1, q2, q3, q4⟩) rfl (oneSn ⟨b1, b2, b3, b4⟩ ⟨q1, q2, q3, q4⟩) ⟨undef, rfl, ?_, trivial, ?_⟩⟩
        · exact ⟨h1.row_other (by omega), setRow_heap _ _ _ _ _ _ h2, h4.row_other (by have := HG.out; omega), below_setRow h5 (by have := HG.out; have := HGR.out; omega) _⟩
        · exact ⟨.inr fun _ _ _ => trivial, .inr fun _ _ _ => trivial, .inr fun _ _ _ => trivial, .inl rfl, trivial⟩
    · intro ax w10 hv hf hh
      have HC := Box.mk (show CmpOk w d1 d2 d3 da dc (gr + 2) ga w10 from ⟨a1, a2, a3, a4, p1, p2, p3, p4, b1, b2, b3, b4, q1, q2, q3, q4, hv.1, hv.2.1, HAB.out.1.keep hv.2.2.2, HAB.out.2.1.keep hv.2.2.2, HAB.out.2.2.1, HAB.out.2.2.2, hv.2.2.1, hv.2.2.2⟩)
      (try simp only [Exit.inBlock, Exit.then])
      refine hK _ _ ?_
      rw [fr_putAll hf]
      simp only [putAll]
      clear hf hh hv
      generalize ax.eval (.tmp 22) = t22
      generalize ax.eval (.tmp 23) = t23
      clear ax
      simp only [Act.put, List.setIfInBounds_toArray, List.set_cons_succ, List.set_cons_zero]
      clear HU4 HV4 HS4 HT4 HAL HBL HVA HVB HVD HBB HAB HG HGR hK K
      obtain ⟨x1, x2, x3, x4, k1, k2, k3, k4, y1, y2, y3, y4, l1, l2, l3, l4, hk⟩ := HC.out
      have HK := Box.mk hk
      clear hk HC
      have u1 := HK.out.1.cell (i := 1) (v := .slice k1 x2.length k2) rfl
      have v1 := HK.out.2.1.cell (i := 1) (v := .slice l1 y2.length l2) rfl
      have hx2 : x2.length ≤ 9223372036854775807 := by have := HK.out.2.2.2.2.1.1; unfold maxLen at this; omega
      have hy2 : y2.length ≤ 9223372036854775807 := by have := HK.out.2.2.2.2.2.1.1; unfold maxLen at this; omega
      by_cases h30 : 30 < x2.length
      · go_wp2_with fail
        refine (dfAwake_any _ mm (HDT.out.keep HK.out.2.2.2.2.2.2.2)).mono ?_
        rintro e w5 ⟨rfl, hb⟩
        have HB5 := Box.mk (below_trans HK.out.2.2.2.2.2.2.2 hb)
        clear hb
        go_wp2_with fail
        go_ret
        exact ⟨rfl, HB5.out⟩
      by_cases h31 : 30 < y2.length
      · go_wp2_with fail
        refine (dfAwake_any _ mm (HDT.out.keep HK.out.2.2.2.2.2.2.2)).mono ?_
        rintro e w5 ⟨rfl, hb⟩
        have HB5 := Box.mk (below_trans HK.out.2.2.2.2.2.2.2 hb)
        clear hb
        go_wp2_with fail
        go_ret
        exact ⟨rfl, HB5.out⟩
      go_upto_region 6 with fail
      obtain ⟨D, hD⟩ : ∃ D, cmpV ⟨x1, x2, x3, x4⟩ ⟨y1, y2, y3, y4⟩ = D := ⟨_, rfl⟩
      have HD := Box.mk hD
      have HXL := Box.mk (show LS x2 from ⟨by omega, HK.out.2.2.2.2.1.2⟩)
      have HYL := Box.mk (show LS y2 from ⟨by omega, HK.out.2.2.2.2.2.1.2⟩)
      have HDL := Box.mk (show D.fs.length ≤ 1000000 by
        rw [← hD]
        unfold cmpV fsD
        simp only
        refine Nat.le_trans (List.length_filter_le _ _) (Nat.le_trans (namesS_len _) ?_)
        rw [List.length_map, List.length_append]; omega)
      clear hD u1 v1
      rename_i K hK
      refine wp_region_local (S := [.val (.agg #[.int .i64 x1, .slice k1 x2.length k2, .int .i64 x3, .slice k3 x4.length k4]), .val (.agg #[.int .i64 y1, .slice l1 y2.length l2, .int .i64 y3, .slice l3 y4.length l4]), .diffD D, .val (.agg #[.int .i64 x1, .slice k1 x2.length k2, .int .i64 x3, .slice k3 x4.length k4]), .val (.agg #[.int .i64 y1, .slice l1 y2.length l2, .int .i64 y3, .slice l3 y4.length l4]), .diffD D, .val (.bool true), .val (.bool true), .val (.agg #[.bool d1, .bool d2, .slice da d3.length dc]), .val (.bool z), .val (.agg #[.bool d1, .bool d2, .slice da d3.length dc]), .val (.bool z), .val (.bool true), .val (.bool true), .val (.bool true), .val (.bool true), .val (.bool true), .val (.bool true)])
        (by kernel_rfl) (by kernel_rfl) (by kernel_rfl) ?_ ?_
      · refine ⟨?_, ?_, ?_, ?_, ?_, ?_, ?_, ?_, ?_, ?_, ?_, ?_, ?_, ?_, ?_, ?_, ?_, ?_, trivial⟩ <;> intro a' w6 hb hf hd
        · exact ⟨wanted_none rfl, loc_load_rowG rfl (hf.base 13 rfl) (HK.out.1.keep hb).row Tryz.underlying32 rfl (sizeSn ⟨x1, x2, x3, x4⟩ ⟨k1, k2, k3, k4⟩) rfl⟩
        · exact ⟨wanted_none rfl, loc_load_rowG rfl (hf.base 14 rfl) (HK.out.2.1.keep hb).row Tryz.underlying32 rfl (sizeSn ⟨y1, y2, y3, y4⟩ ⟨l1, l2, l3, l4⟩) rfl⟩
        · exact ⟨wanted_none rfl, loc_call rfl (by kernel_rfl) (dCompare_v (a := ⟨x1, x2, x3, x4⟩) (p := ⟨k1, k2, k3, k4⟩) (b := ⟨y1, y2, y3, y4⟩) (q := ⟨l1, l2, l3, l4⟩) w6 (hd 0 rfl) (hd 1 rfl) (HK.out.2.2.1.keep hb) (HK.out.2.2.2.1.keep hb) HXL.out HYL.out HD.out)⟩
        · exact ⟨wanted_none rfl, loc_load_rowG rfl (hf.base 13 rfl) (HK.out.1.keep hb).row Tryz.underlying32 rfl (sizeSn ⟨x1, x2, x3, x4⟩ ⟨k1, k2, k3, k4⟩) rfl⟩
        · exact ⟨wanted_none rfl, loc_load_rowG rfl (hf.base 14 rfl) (HK.out.2.1.keep hb).row Tryz.underlying32 rfl (sizeSn ⟨y1, y2, y3, y4⟩ ⟨l1, l2, l3, l4⟩) rfl⟩
        · exact ⟨wanted_none rfl, loc_call rfl (by kernel_rfl) (refCompare_v (a := ⟨x1, x2, x3, x4⟩) (p := ⟨k1, k2, k3, k4⟩) (b := ⟨y1, y2, y3, y4⟩) (q := ⟨l1, l2, l3, l4⟩) w6 (hd 3 rfl) (hd 4 rfl) (HK.out.2.2.1.keep hb) (HK.out.2.2.2.1.keep hb) HXL.out.1 HYL.out.1 HD.out)⟩
        · exact ⟨wanted_none rfl, loc_call rfl (by kernel_rfl) (sameDiff_v w6 (hd 2 rfl) (hd 5 rfl) HDL.out)⟩
        · exact ⟨wanted_none rfl, loc_move rfl (hd 6 rfl)⟩
        · exact ⟨wanted_true rfl rfl (hd 7 rfl), loc_load_rowG rfl (hf.base 10 rfl) (HK.out.2.2.2.2.2.2.1.keep hb).row Tryz.underlying37 rfl (sizeDf ..) rfl⟩
        · exact ⟨wanted_true rfl rfl (hd 7 rfl), loc_call rfl (by kernel_rfl) (dSame_v (d := ⟨d1, d2, d3⟩) w6 ⟨da, dc, hd 8 rfl, HDD.out.keep (below_trans HK.out.2.2.2.2.2.2.2 hb)⟩ HZ.out)⟩
        · exact ⟨wanted_true rfl rfl (hd 7 rfl), loc_load_rowG rfl (hf.base 10 rfl) (HK.out.2.2.2.2.2.2.1.keep hb).row Tryz.underlying37 rfl (sizeDf ..) rfl⟩
        · exact ⟨wanted_true rfl rfl (hd 7 rfl), loc_call rfl (by kernel_rfl) (refSame_v (d := ⟨d1, d2, d3⟩) (a := da) (c := dc) w6 (hd 10 rfl) HZ.out)⟩
        · exact ⟨wanted_true rfl rfl (hd 7 rfl), loc_eqlDf rfl (hd 9 rfl) (hd 11 rfl) rfl⟩
        · exact ⟨wanted_none rfl, loc_pick rfl (hd 7 rfl) (hd 12 rfl)⟩
        · exact ⟨wanted_none rfl, loc_move rfl (hd 13 rfl)⟩
        · exact ⟨wanted_true rfl rfl (hd 14 rfl), loc_call rfl (by kernel_rfl) (dfAwake_v w6 mm (HDT.out.keep (below_trans HK.out.2.2.2.2.2.2.2 hb)))⟩
        · exact ⟨wanted_none rfl, loc_pick rfl (hd 14 rfl) (hd 15 rfl)⟩
        · exact ⟨wanted_none rfl, loc_assign rfl (hd 16 rfl)⟩
      · intro a' w6 hb hf hh
        refine hK a' w6 ?_
        go_wp2_with fail
        exact local_ret rfl hf.defers (show a'.eval (.tmp 12) = .bool true from hh 17 (by decide)) ⟨rfl, below_trans HK.out.2.2.2.2.2.2.2 hb⟩
end Go.Proofs.YtgmbfiikkogenaaGreatDoor
namespace Go.Proofs.YtgmbfiikkogenaaGreatDoor
open Go.RowKit
set_option linter.unusedSimpArgs false
set_option linter.unusedVariables false

theorem isBytes_takeD {w W : World} {a : Option Addr} {l : List UInt8} {c c' n : Nat} (h : IsBytes w a l c) (k : IsBytes W a (l.take n) c') : IsBytes w a (l.take n) c' := by
  rcases k with ⟨h1, h2, h3⟩ | ⟨x, h1, h2, h3, h4⟩
  · exact .inl ⟨h1, h2, h3⟩
  · refine .inr ⟨x, h1, h2, h3, fun j hj => ?_⟩
    rcases h with ⟨k1, _, _⟩ | ⟨y, k1, _, _, k4⟩
    · rw [k1] at h1; cases h1
    · rw [k1] at h1
      obtain rfl := Option.some.inj h1
      rw [List.getElem_take]
      exact k4 j (by rw [List.length_take] at hj; omega)

set_option maxRecDepth 100000 in
set_option maxHeartbeats 8000000 in
theorem differBody_any (la : Option Addr) (ln lc : Nat) (b : List UInt8) (ba : Option Addr) (bc : Nat) (c : List UInt8) (ca : Option Addr) (cc : Nat) (w : World) (hl : IntsF w la ln) (hn : ln ≤ maxLen) (hb : IsBytes w ba b bc) (hc : IsBytes w ca c cc) (mm : Int) (hdt : DfT w mm) :
    Calls Tryz.prog 6 #[.slice la ln lc, .slice ba b.length bc, .slice ca c.length cc] w fun e w' => e = .returned (.bool true) ∧ Below w.heap.size w w' := by
  have HIN := Box.mk (And.intro hl hn)
  have HBB := Box.mk (And.intro hb hc)
  have HDT := Box.mk hdt
  clear hl hn hb hc hdt
  go_enter Tryz.func6, Tryz.ntmps6
  go_wp2_with fail
  refine (dfMade_any la ln lc w HIN.out.1 HIN.out.2).mono ?_
  rintro e w1 ⟨r, m, rfl, hM⟩
  obtain ⟨r1, r2, r3, r4, r5⟩ := r
  obtain ⟨m1, m2, m3, m4⟩ := m
  obtain ⟨W1, hW1⟩ : ∃ W, W = w1.alloc (.cells #[.int .i64 r1, .string r2, .int .i64 r3, .slice m1 r4.length m2, .slice m3 r5.length m4] 26) := ⟨_, rfl⟩
  obtain ⟨W2, hW2⟩ : ∃ W, W = W1.alloc (.cells #[.int .i64 r1, .string r2, .int .i64 r3, .slice m1 r4.length m2, .slice m3 r5.length m4] 26) := ⟨_, rfl⟩
  have hsz : W1.heap.size = w1.heap.size + 1 := by rw [hW1, World.size_alloc]
  have h11 : Below w1.heap.size w1 W1 := by rw [hW1]; exact below_oneF _ _
  have h12 : Below W1.heap.size W1 W2 := by rw [hW2]; exact below_oneF _ _
  have HX1 := Box.mk (show VarA W1 w1.heap.size #[.int .i64 r1, .string r2, .int .i64 r3, .slice m1 r4.length m2, .slice m3 r5.length m4] 26 by rw [hW1]; exact VarA.new _ _ _)
  have HX2 := Box.mk (HX1.out.keep h12)
  have HY2 := Box.mk (show VarA W2 W1.heap.size #[.int .i64 r1, .string r2, .int .i64 r3, .slice m1 r4.length m2, .slice m3 r5.length m4] 26 by rw [hW2]; exact VarA.new _ _ _)
  have HB2 := Box.mk (below_trans hM.2.2.2.2 (below_trans h11 h12))
  have HM := Box.mk (And.intro hM.1 (And.intro hM.2.1 hM.2.2.1))
  have HM2 := Box.mk (below_trans h11 h12)
  have hgw : w.heap.size ≤ w1.heap.size := hM.2.2.2.2.size
  have HSZ := Box.mk (And.intro hsz hgw)
  clear hM h11 h12 hsz hgw
  unfold Rp.v
  simp only
  go_upto_region 2 with fail
  change Code.wp _ _ _ _ (w1.alloc (.cells #[.int .i64 r1, .string r2, .int .i64 r3, .slice m1 r4.length m2, .slice m3 r5.length m4] 26))
  rw [← hW1]
  clear hW1
  have v0 := HX1.out.cell (i := 0) (v := .int .i64 r1) rfl
  have v1 := HX1.out.cell (i := 1) (v := .string r2) rfl
  have v2 := HX1.out.cell (i := 2) (v := .int .i64 r3) rfl
  have v3 := HX1.out.cell (i := 3) (v := .slice m1 r4.length m2) rfl
  have v4 := HX1.out.cell (i := 4) (v := .slice m3 r5.length m4) rfl
  go_upto_region 3 with fail
  change Code.wp _ _ _ _ (W1.alloc (.cells #[.int .i64 r1, .string r2, .int .i64 r3, .slice m1 r4.length m2, .slice m3 r5.length m4] 26))
  rw [← hW2]
  clear hW2 v0 v1 v2 v3 v4 HX1
  obtain ⟨gx, hgx⟩ : ∃ g, g = w1.heap.size := ⟨_, rfl⟩
  obtain ⟨gy, hgy⟩ : ∃ g, g = W1.heap.size := ⟨_, rfl⟩
  rw [← hgx] at HX2
  rw [← hgy] at HY2
  have HG := Box.mk (show w.heap.size ≤ gx ∧ gx < gy by have h1 := HSZ.out.1; have h2 := HSZ.out.2; omega)
  (try rw [← hgx])
  (try rw [← hgy])
  have HGX := Box.mk hgx
  clear hgx hgy HSZ
  go_wp2_with fail
  refine (shortF_any b ba bc 100 W2 (HBB.out.1.keep HB2.out) (by decide)).mono ?_
  rintro e w' ⟨bx, rfl, hbx, rfl⟩
  obtain ⟨B, hB⟩ : ∃ B, b.take 100 = B := ⟨_, rfl⟩
  have HB := Box.mk (show IsBytes w ba B bx by rw [← hB]; exact isBytes_takeD HBB.out.1 hbx)
  have hBl : B.length ≤ 100 := by rw [← hB, List.length_take]; omega
  rw [hB]
  clear hB hbx
  go_wp2_with fail
  refine (shortF_any c ca cc 100 W2 (HBB.out.2.keep HB2.out) (by decide)).mono ?_
  rintro e w' ⟨cx, rfl, hcx, rfl⟩
  obtain ⟨C, hC⟩ : ∃ C, c.take 100 = C := ⟨_, rfl⟩
  have HC := Box.mk (show IsBytes w ca C cx by rw [← hC]; exact isBytes_takeD HBB.out.2 hcx)
  have hCl : C.length ≤ 100 := by rw [← hC, List.length_take]; omega
  rw [hC]
  clear hC hcx HBB
  have y4 := HX2.out.cell (i := 4) (v := .slice m3 r5.length m4) rfl
  have yf := HX2.out.frozen (i := 4)
  have z4 := HY2.out.cell (i := 4) (v := .slice m3 r5.length m4) rfl
  have zf := HY2.out.frozen (i := 4)
  have hne : gx ≠ gy := by have := HG.out.2; omega
  have hne' : gy ≠ gx := by have := HG.out.2; omega
  go_upto_region 4 with fail
  obtain ⟨W3, hW3⟩ : ∃ W, W = (W2.setCell ⟨gx, 4, none⟩ (.slice ba B.length bx)).setCell ⟨gy, 4, none⟩ (.slice ca C.length cx) := ⟨_, rfl⟩
  have HX3 := Box.mk (show VarA W3 gx #[.int .i64 r1, .string r2, .int .i64 r3, .slice m1 r4.length m2, .slice ba B.length bx] 26 by rw [hW3]; exact (HX2.out.set (i := 4) (v := .slice ba B.length bx)).other hne)
  have HY3 := Box.mk (show VarA W3 gy #[.int .i64 r1, .string r2, .int .i64 r3, .slice m1 r4.length m2, .slice ca C.length cx] 26 by rw [hW3]; exact (HY2.out.other (x := ⟨gx, 4, none⟩) (v := .slice ba B.length bx) hne').set (i := 4) (v := .slice ca C.length cx))
  have HB3 := Box.mk (show Below w.heap.size w W3 by rw [hW3]; exact (HB2.out.setCell (p := ⟨gx, 4, none⟩) HG.out.1 _).setCell (p := ⟨gy, 4, none⟩) (Nat.le_trans HG.out.1 (Nat.le_of_lt HG.out.2)) _)
  have HF3 := Box.mk (show Below gx w1 W3 by
    have h1 : Below w1.heap.size w1 W2 := HM2.out
    rw [← HGX.out] at h1
    rw [hW3]; exact (h1.setCell (p := ⟨gx, 4, none⟩) (Nat.le_refl _) _).setCell (p := ⟨gy, 4, none⟩) (Nat.le_of_lt HG.out.2) _)
  change Code.wp _ _ _ _ ((W2.setCell ⟨gx, 4, none⟩ (.slice ba B.length bx)).setCell ⟨gy, 4, none⟩ (.slice ca C.length cx))
  rw [← hW3]
  clear hW3 y4 yf z4 zf HX2 HY2 HB2 HM2
  have HRB := Box.mk (show RpIn W3 ⟨r1, r2, r3, r4, B⟩ ⟨m1, m2, ba, bx⟩ from ⟨(HM.out.1.keep (HGX.out ▸ HF3.out)).1, HM.out.1.2.1, HB.out.keep HB3.out⟩)
  have HRC := Box.mk (show RpIn W3 ⟨r1, r2, r3, r4, C⟩ ⟨m1, m2, ca, cx⟩ from ⟨(HM.out.1.keep (HGX.out ▸ HF3.out)).1, HM.out.1.2.1, HC.out.keep HB3.out⟩)
  have HMED := Box.mk (medF_small HM.out.2.1 (by have h1 := HM.out.2.2; omega))
  obtain ⟨SA, hSA⟩ : ∃ s, seeV r1 r4 B [] = s := ⟨_, rfl⟩
  obtain ⟨SB, hSB⟩ : ∃ s, seeV r1 r4 C [] = s := ⟨_, rfl⟩
  obtain ⟨e, he⟩ : ∃ e, decide (SA.size ≠ SB.size ∨ SA.sum ≠ SB.sum) = e := ⟨_, rfl⟩
  have HE1 := Box.mk (show B.length ≠ C.length → e = true from fun h => by
    rw [← he, ← hSA, ← hSB]
    refine decide_eq_true (.inl ?_)
    show (B.length : Int) ≠ (C.length : Int)
    omega)
  have HE2 := Box.mk (show B = C → e = false from fun h => by
    rw [← he, ← hSA, ← hSB, h]; simp)
  have HD := Box.mk (show cmpV SA SB = ⟨false, e, []⟩ by
    have h1 : SB.fs = SA.fs := by rw [← hSA, ← hSB]; rfl
    have h2 : SB.st = SA.st := by rw [← hSA, ← hSB]; rfl
    unfold cmpV
    rw [he, h1, h2, fsD_self]
    simp)
  have HAL := Box.mk (show LS SA.fs by rw [← hSA]; exact ls_fields HMED.out)
  have HBL := Box.mk (show LS SB.fs by rw [← hSB]; exact ls_fields HMED.out)
  have HSA := Box.mk hSA
  have HSB := Box.mk hSB
  clear he hSA hSB
  rename_i K hK
  refine wp_region_last (S := [some (.val (.agg #[.int .i64 r1, .string r2, .int .i64 r3, .slice m1 r4.length m2, .slice ba B.length bx])), some (.of (.seenD SA)), some (.val (.agg #[.int .i64 r1, .string r2, .int .i64 r3, .slice m1 r4.length m2, .slice ca C.length cx])), some (.of (.seenD SB)), some (.of (.diffD ⟨false, e, []⟩)), some (.of (.rowNew W3.heap.size #[.bool false, .bool false, .slice none 0 0] 37)), none]) 6
    (by kernel_rfl) (by kernel_rfl) (by kernel_rfl) (by kernel_rfl) rfl rfl rfl ?_ ?_
  · refine ⟨?_, ?_, ?_, ?_, ?_, ?_, trivial⟩ <;> intro a' w2 hb hf hd
    · exact ⟨wanted_none rfl, loc_load_rowG rfl (hf.base 7 rfl) (HX3.out.keep hb).row Tryz.underlying26 rfl (sizeRp ..) rfl⟩
    · exact ⟨wanted_none rfl, loc_call rfl (by kernel_rfl) (dSee_v (r := ⟨r1, r2, r3, r4, B⟩) (p := ⟨m1, m2, ba, bx⟩) (ig := []) (ia := none) (ic := 0) w2 mm (HDT.out.keep (below_trans HB3.out hb)) (hd 0 rfl) rfl (HRB.out.keep hb) HMED.out (StrsC.none _) (fun _ h => by cases h) (by decide) (by show B.length ≤ 1000000000; omega) HSA.out)⟩
    · exact ⟨wanted_none rfl, loc_load_rowG rfl (hf.base 8 rfl) (HY3.out.keep hb).row Tryz.underlying26 rfl (sizeRp ..) rfl⟩
    · exact ⟨wanted_none rfl, loc_call rfl (by kernel_rfl) (dSee_v (r := ⟨r1, r2, r3, r4, C⟩) (p := ⟨m1, m2, ca, cx⟩) (ig := []) (ia := none) (ic := 0) w2 mm (HDT.out.keep (below_trans HB3.out hb)) (hd 2 rfl) rfl (HRC.out.keep hb) HMED.out (StrsC.none _) (fun _ h => by cases h) (by decide) (by show C.length ≤ 1000000000; omega) HSB.out)⟩
    · obtain ⟨q1, e1, k1⟩ := hd 1 rfl
      obtain ⟨q2, e2, k2⟩ := hd 3 rfl
      exact ⟨wanted_none rfl, loc_call rfl (by kernel_rfl) (dCompare_v (p := q1) (q := q2) w2 e1 e2 k1 k2 HAL.out HBL.out HD.out)⟩
    · exact ⟨wanted_none rfl, loc_alloc_G rfl hb.size (by kernel_rfl) fun v w' h => h⟩
  · intro a' w2 hb hf hd
    refine ⟨wanted_none rfl, ?_⟩
    obtain ⟨q, e6, hqB, hq⟩ := hd 5 (by decide) (by decide)
    obtain ⟨da, dc, ev, hS⟩ := hd 4 (by decide) (by decide)
    have eq' : a'.eval (.tmp 9) = .pointer (some ⟨q, 0, none⟩) := e6
    have ev' : a'.eval (.tmp 23) = .agg #[.bool false, .bool e, .slice da 0 dc] := ev
    refine wp_store_row 37 _ _ rfl q #[.bool false, .bool e, .slice da 0 dc] e6 ev 37 _ hq (sizeDf ..) rfl (oneDf ..) ?_
    have hqg : gy < q := Nat.lt_of_lt_of_le HY3.out.lt hqB
    have HX4 := Box.mk ((HX3.out.keep hb).row_other (j := q) (u := #[.bool false, .bool e, .slice da 0 dc]) (by have := HG.out.2; omega))
    have HY4 := Box.mk ((HY3.out.keep hb).row_other (j := q) (u := #[.bool false, .bool e, .slice da 0 dc]) (by omega))
    have HD4 := Box.mk (show VarA (w2.setRow q #[.bool false, .bool e, .slice da 0 dc]) q #[.bool false, .bool e, .slice da 0 dc] 37 from setRow_heap _ _ _ _ _ _ hq)
    have HB4 := Box.mk (show Below w.heap.size w (w2.setRow q #[.bool false, .bool e, .slice da 0 dc]) from below_setRow (below_trans HB3.out hb) (by have := HG.out; omega) _)
    have HS4 := Box.mk (show StrsC (w2.setRow q #[.bool false, .bool e, .slice da 0 dc]) da ([] : List ByteArray) dc from ⟨fun j hj => absurd hj (Nat.not_lt_zero _), hS.2⟩)
    refine hK _ _ ?_
    rw [fr_putAll hf]
    simp only [putAll, eq', ev']
    clear hf hd hb hK e6 ev eq' ev' hq hS hqB HX3 HY3 HB3 HF3 HRB HRC HSA HSB HAL HBL HD HMED HM
    generalize a'.eval (.tmp 19) = u19
    generalize a'.eval (.tmp 20) = u20
    generalize a'.eval (.tmp 21) = u21
    generalize a'.eval (.tmp 22) = u22
    simp only [Act.put, List.setIfInBounds_toArray, List.set_cons_succ, List.set_cons_zero]
    change Code.wp _ _ _ (Act.mk _ _) _
    generalize (w2.setRow q #[.bool false, .bool e, .slice da 0 dc]) = w4 at *
    clear K a'
    have x4 := HX4.out.cell (i := 4) (v := .slice ba B.length bx) rfl
    have y4 := HY4.out.cell (i := 4) (v := .slice ca C.length cx) rfl
    have d0 := HD4.out.cell (i := 0) (v := .bool false) rfl
    have d1 := HD4.out.cell (i := 1) (v := .bool e) rfl
    have d2 := HD4.out.cell (i := 2) (v := .slice da 0 dc) rfl
    have kb := conv_bytes (HB.out.keep HB4.out)
    have kc := conv_bytes (HC.out.keep HB4.out)
    have fin : ∀ w5, Below w4.heap.size w4 w5 → Below w.heap.size w w5 := fun w5 h => below_trans HB4.out h
    by_cases hBC : B = C
    · obtain rfl := hBC
      obtain rfl := HE2.out rfl
      have hs : ((⟨B.toArray⟩ : ByteArray).toList == (⟨B.toArray⟩ : ByteArray).toList) = true := beq_same _
      go_wp2_with fail
      change Calls _ _ #[Df.v ⟨false, false, []⟩ da dc] w4 _
      refine (dSame_eq (d := ⟨false, false, []⟩) (z := true) w4 HS4.out rfl).mono ?_
      rintro e w5 ⟨rfl, h5⟩
      have H5 := Box.mk (fin w5 h5)
      clear h5
      go_wp2_with fail
      refine (dfAwake_any w5 mm (HDT.out.keep H5.out)).mono ?_
      rintro e w6 ⟨rfl, h6⟩
      have H6 := Box.mk (below_trans H5.out h6)
      clear h6
      go_wp2_with fail
      go_ret
      exact ⟨rfl, H6.out⟩
    · have hs : (B == C) = false := by rw [beq_eq_false_iff_ne]; exact hBC
      by_cases hlen : B.length = C.length
      · have e1 : ((B.length : Int) == (C.length : Int)) = true := by rw [beq_iff_eq]; omega
        clear hlen
        go_wp2_with fail
        refine (dfAwake_any w4 mm (HDT.out.keep (fin w4 (Below.refl _ _)))).mono ?_
        rintro e' w6 ⟨rfl, h6⟩
        have H6 := Box.mk (fin w6 h6)
        clear h6
        go_wp2_with fail
        go_ret
        exact ⟨rfl, H6.out⟩
      · have e1 : ((B.length : Int) == (C.length : Int)) = false := by rw [beq_eq_false_iff_ne]; omega
        obtain rfl := HE1.out hlen
        clear hlen
        go_wp2_with fail
        refine (dfAwake_any w4 mm (HDT.out.keep (fin w4 (Below.refl _ _)))).mono ?_
        rintro e' w6 ⟨rfl, h6⟩
        have H6 := Box.mk (fin w6 h6)
        clear h6
        go_wp2_with fail
        go_ret
        exact ⟨rfl, H6.out⟩
end Go.Proofs.YtgmbfiikkogenaaGreatDoor
namespace Go.Proofs.YtgmbfiikkogenaaGreatDoor
open Go.RowKit
set_option linter.unusedSimpArgs false
set_option linter.unusedVariables false

def newP : ByteArray := ⟨#[88, 45, 78, 101, 119]⟩
def newN : ByteArray := ⟨#[120, 45, 110, 101, 119]⟩
def newI : ByteArray := ⟨#[120, 45, 78, 69, 87]⟩
theorem new_vals : (valsF.all fun v => (elemL (trimBA v)).all fun s => !foldS s newP) = true := by decide +kernel
theorem new_names : (namesF.all fun s => !foldS s newP) = true := by decide +kernel
theorem new_nine : inFoldL nineN newP = false := by decide +kernel
theorem new_via : inFoldL viaDate newP = false := by decide +kernel
theorem new_ign : inFoldL [newI] newP = true := by decide +kernel
theorem new_conn : foldS newP cnN = false := by decide +kernel
theorem new_low : lowS newP = newN := by decide +kernel
theorem src_name {f : Fld} (h : SrcF f) : foldS f.1 newP = false := by
  obtain ⟨s, hs, v, hv, rfl⟩ := h
  have := List.all_eq_true.1 new_names s hs
  simpa using this
theorem src_elem {f : Fld} (h : SrcF f) {s : ByteArray} (hs : s ∈ elemL f.2) : foldS s newP = false := by
  obtain ⟨t, ht, v, hv, rfl⟩ := h
  have := List.all_eq_true.1 (List.all_eq_true.1 new_vals v hv) s hs
  simpa using this
theorem stripNs_new (F : List Fld) (v : ByteArray) : stripNs (F ++ [(newP, v)]) = stripNs F := by
  unfold stripNs valuesL
  rw [List.filter_append]
  simp [new_conn]
theorem strip_new {F : List Fld} (h : ∀ f ∈ F, SrcF f) : inFoldL (stripNs F) newP = false := by
  unfold stripNs
  have h1 := new_nine
  unfold inFoldL at h1 ⊢
  rw [List.any_append, h1, Bool.false_or, List.any_eq_false]
  intro s hs
  unfold namedL listL at hs
  have h2 := (List.mem_filter.1 hs).1
  rw [List.mem_flatMap] at h2
  obtain ⟨y, hy, hsy⟩ := h2
  unfold valuesL at hy
  rw [List.mem_map] at hy
  obtain ⟨f, hf, rfl⟩ := hy
  rw [src_elem (h f (List.mem_filter.1 hf).1) hsy]
  decide
theorem kept_new {F : List Fld} (h : ∀ f ∈ F, SrcF f) (v : ByteArray) (ig : List ByteArray) : keptN (F ++ [(newP, v)]) ig = keptN F ig ++ (if inFoldL ig newP = true then [] else [(newP, v)]) := by
  unfold keptN stripL withoutL
  rw [stripNs_new, List.filter_append, List.filter_append, List.filter_append]
  congr 1
  simp only [List.filter_cons, List.filter_nil, strip_new h, new_via, Bool.not_false, if_true]
  cases inFoldL ig newP <;> simp [new_via]
theorem fields_skip {F : List Fld} (h : ∀ f ∈ F, SrcF f) (v : ByteArray) : fieldsN (F ++ [(newP, v)]) [newI] = fieldsN F [newI] := by
  unfold fieldsN
  rw [kept_new h, new_ign, if_pos rfl, List.append_nil]
theorem find_yes (h : ByteArray → ByteArray) (n : ByteArray) : ∀ ns : List ByteArray, n ∈ ns → ((ns.map fun m => (m, h m)).find? fun f => decide (f.1 = n)).map (·.2) = some (h n)
  | [], hm => (nomatch hm)
  | m :: r, hm => by
    by_cases e : m = n
    · subst e; simp
    · rw [List.map_cons, List.find?_cons_of_neg (by simpa using e)]
      exact find_yes h n r ((List.mem_cons.1 hm).elim (fun x => absurd x.symm e) id)
theorem find_no (h : ByteArray → ByteArray) (n : ByteArray) : ∀ ns : List ByteArray, n ∉ ns → ((ns.map fun m => (m, h m)).find? fun f => decide (f.1 = n)).map (·.2) = none
  | [], _ => rfl
  | m :: r, hm => by
    have e : ¬ m = n := fun e => hm (List.mem_cons.2 (.inl e.symm))
    rw [List.map_cons, List.find?_cons_of_neg (by simpa using e)]
    exact find_no h n r (fun x => hm (List.mem_cons.2 (.inr x)))
theorem value_yes {k : List Fld} {n : ByteArray} (h : n ∈ namesS (k.map fun f => lowS f.1)) : valueO (outN k) n = some (joinS (valuesL k n)) := find_yes _ n _ h
theorem value_no {k : List Fld} {n : ByteArray} (h : n ∉ namesS (k.map fun f => lowS f.1)) : valueO (outN k) n = none := find_no _ n _ h
theorem sorted_filterD (p : ByteArray → Bool) : ∀ l : List ByteArray, SortedS l → SortedS (l.filter p)
  | [], _ => trivial
  | x :: r, h => by
    have h1 := sorted_filterD p r h.2
    rw [List.filter_cons]
    split
    · exact ⟨fun y hy => h.1 y ((List.mem_filter.1 hy).1), h1⟩
    · exact h1
theorem fsD_new {K : List Fld} (h : ∀ f ∈ K, foldS f.1 newP = false) (v : ByteArray) : fsD (outN K) (outN (K ++ [(newP, v)])) = [newN] := by
  have hK : newN ∉ namesS (K.map fun f => lowS f.1) := fun hm => by
    rw [namesS_mem, List.mem_map] at hm
    obtain ⟨f, hf, e⟩ := hm
    have h1 := h f hf
    rw [← Bool.not_eq_true, foldS_iff] at h1
    exact h1 (by rw [new_low]; exact e)
  have hX : newN ∈ namesS ((K ++ [(newP, v)]).map fun f => lowS f.1) := by
    rw [namesS_mem, List.map_append, List.mem_append]
    exact .inr (by simp [new_low])
  unfold fsD
  refine sorted_ext (sorted_filterD _ _ (namesS_sorted _)) ⟨fun _ hm => (nomatch hm), trivial⟩ fun n => ?_
  rw [List.mem_filter, namesS_mem, List.map_append, outN_names, outN_names, List.mem_append, List.mem_singleton, decide_eq_true_eq]
  constructor
  · rintro ⟨_, hne⟩
    apply Classical.byContradiction
    intro hn
    apply hne
    have hi : n ∈ namesS ((K ++ [(newP, v)]).map fun f => lowS f.1) ↔ n ∈ namesS (K.map fun f => lowS f.1) := by
      rw [namesS_mem, namesS_mem, List.map_append, List.mem_append]
      simp only [List.map_cons, List.map_nil, List.mem_singleton, new_low]
      exact ⟨fun x => x.elim id (fun x => absurd x hn), .inl⟩
    by_cases hm : n ∈ namesS (K.map fun f => lowS f.1)
    · rw [value_yes hm, value_yes (hi.2 hm)]
      have hlow : lowS n = n := names_low K n hm
      have hf : foldS newP n = false := by
        rw [← Bool.not_eq_true, foldS_iff, new_low, hlow]
        exact fun e => hn e.symm
      unfold valuesL
      rw [List.filter_append]
      simp [hf]
    · rw [value_no hm, value_no (fun x => hm (hi.1 x))]
  · rintro rfl
    exact ⟨.inr hX, by rw [value_no hK, value_yes hX]; exact fun e => (nomatch e)⟩
theorem fieldsD_new {F : List Fld} (h : ∀ f ∈ F, SrcF f) (v : ByteArray) : fsD (fieldsN F []) (fieldsN (F ++ [(newP, v)]) []) = [newN] := by
  unfold fieldsN
  rw [kept_new h, show inFoldL [] newP = false from rfl]
  exact fsD_new (fun f hf => src_name (h f (keptN_mem hf).1)) v
end Go.Proofs.YtgmbfiikkogenaaGreatDoor
