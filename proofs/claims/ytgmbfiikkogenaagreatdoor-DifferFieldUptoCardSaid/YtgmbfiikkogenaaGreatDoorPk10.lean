/- The law DifferField. -/
import Derived.Test.YtgmbfiikkogenaaGreatDoorPk1
import Derived.Test.YtgmbfiikkogenaaGreatDoorPk2
import Derived.Test.YtgmbfiikkogenaaGreatDoorPk3
import Derived.Test.YtgmbfiikkogenaaGreatDoorPk4
import Derived.Test.YtgmbfiikkogenaaGreatDoorPk5
import Derived.Test.YtgmbfiikkogenaaGreatDoorPk6
import Derived.Test.YtgmbfiikkogenaaGreatDoorPk7
import Derived.Test.YtgmbfiikkogenaaGreatDoorPk8
import Derived.Test.YtgmbfiikkogenaaGreatDoorPk9
import Derived.Test.YtgmbfiikkogenaaGreatDoorRows
import Derived.WalkKit
import Derived.WalkSpells
import Derived.WalkLawsBesides
import Derived.BigQuiet
import Derived.Deep.QuietTactic
import Derived.Lib.Bytealg
import Derived.Lib.IndexLaws
import Derived.Lib.Hide
import Derived.Laws.IdiomStrings
import Derived.Lib.SlTrimSet
import Derived.Lib.IndexBytes
import Derived.Lib.Split
import Derived.Deep.AppendLies
import Derived.Shelf.SlGeneric
import Derived.Shelf.Strings.SlTrimAscii
import Derived.Shelf.Strings.SplitShaped
import Derived.Shelf.LaysM
import Derived.Shelf.Strings.BuilderK
import Derived.Shelf.Strconv.Itoa4
import Derived.Shelf.Strings.Builder2
import Derived.Shelf.SlLaysF0
import Derived.Shelf.SlLaysM
import Derived.Shelf.SlLaysN
import Derived.Ground.SlsfProg
import Derived.Ground.SlgmProg
import Derived.Ground.SlgnProg
import Derived.Test.YtgmbfiikkogenaaGreatDoorProg
import Derived.Lib.SplitLaws
import Derived.WalkSmall
import Derived.ProofKit
import Derived.OpenShut
import Derived.Lib.Strings
import Derived.SliceStrings
import Derived.Deep.Quiet
import Derived.Tactics
import Derived.KernelRfl
import Derived.Below
import Derived.Laws.Bits64
import Derived.Lib.SlBytesConst
import Derived.Maps.AppendAt
import Derived.Laws.AppendOwnNone
import Derived.Great.BuildSlice
import Derived.Laws.Rows
import Derived.Laws.BitsAllLaws
import Derived.Laws.Shifts
import Derived.Maps.OwnOps
import Derived.Maps.OwnSet
import Derived.Deep.SlicePairs
import Derived.Lib.AppendZerosOnto
import Derived.Lib.AppendStr
import Derived.Laws.CopyOwn
import Derived.OwnWalk
import Derived.Laws.Strings3
import Derived.Laws.Concat
import Derived.Lib.ItoaMem
import Derived.Deep.RegionHeld3
import Derived.IntWalk
import Derived.Sort.Grow
import Derived.Lib.LaidTab
import Derived.LaidSub
import Derived.Sort.Walk0
import Derived.Laws.OwnMore
import Derived.ArgAppend
import Derived.Shelf.Strings.OnBuilder
import Derived.Laws.Tables
import Derived.Maps.RangeWalk
import Derived.Lib.SlicesCompact
import Derived.Shelf.SlSortCmp.Insertion
import Derived.Sort.Statements
import Derived.Shelf.SlSortCmp.WholeK
import Derived.Shelf.SlSortCmp.NoneTotal
import Derived.Shelf.SortM.Plain
import Derived.Shelf.SlicesG.CompactS
import Derived.Shelf.Small.Strs
import Derived.Sort.OwnSorted
import Derived.Deep.DeepCutAuto
import Derived.Deep.CutBlock
import Derived.Deep.WholeRow
import Derived.StillTailTactics
import Derived.Deep.Matrix
import Derived.Stop.BytesEq
namespace Go.Proofs.YtgmbfiikkogenaaGreatDoor
open Go.RowKit
set_option linter.unusedSimpArgs false
set_option linter.unusedVariables false

set_option maxRecDepth 100000 in
set_option maxHeartbeats 8000000 in
theorem differField_any (la : Option Addr) (ln lc : Nat) (val : ByteArray) (skip : Bool) (w : World) (hl : IntsF w la ln) (hn : ln ≤ maxLen) (hv : val.size ≤ 1048576) (mm : Int) (hdt : DfT w mm) :
    Calls Tryz.prog 7 #[.slice la ln lc, .string val, .bool skip] w fun e w' => e = .returned (.bool true) ∧ Below w.heap.size w w' := by
  have HIN := Box.mk (And.intro hl (And.intro hn hv))
  have HDT := Box.mk hdt
  clear hl hn hv hdt
  go_enter Tryz.func7, Tryz.ntmps7
  go_wp2_with fail
  refine (dfMadeS_any la ln lc w HIN.out.1 HIN.out.2.1).mono ?_
  rintro e w1 ⟨r, m, rfl, hM, hSRC⟩
  obtain ⟨r1, r2, r3, r4, r5⟩ := r
  obtain ⟨m1, m2, m3, m4⟩ := m
  have HSRC := Box.mk (show ∀ f ∈ r4, SrcF f from hSRC)
  clear hSRC
  obtain ⟨W1, hW1⟩ : ∃ W, W = w1.alloc (.cells #[.int .i64 r1, .string r2, .int .i64 r3, .slice m1 r4.length m2, .slice m3 r5.length m4] 26) := ⟨_, rfl⟩
  obtain ⟨W2, hW2⟩ : ∃ W, W = W1.alloc (.cells #[.int .i64 r1, .string r2, .int .i64 r3, .slice m1 r4.length m2, .slice m3 r5.length m4] 26) := ⟨_, rfl⟩
  have hsz : W1.heap.size = w1.heap.size + 1 := by rw [hW1, World.size_alloc]
  have h11 : Below w1.heap.size w1 W1 := by rw [hW1]; exact below_oneF _ _
  have h12 : Below W1.heap.size W1 W2 := by rw [hW2]; exact below_oneF _ _
  have HX1 := Box.mk (show VarA W1 w1.heap.size #[.int .i64 r1, .string r2, .int .i64 r3, .slice m1 r4.length m2, .slice m3 r5.length m4] 26 by rw [hW1]; exact VarA.new _ _ _)
  have HX2 := Box.mk (HX1.out.keep h12)
  have HY2 := Box.mk (show VarA W2 W1.heap.size #[.int .i64 r1, .string r2, .int .i64 r3, .slice m1 r4.length m2, .slice m3 r5.length m4] 26 by rw [hW2]; exact VarA.new _ _ _)
  have HB2 := Box.mk (below_trans hM.2.2.2.2 (below_trans h11 h12))
  have HM := Box.mk (And.intro hM.1 (And.intro hM.2.1 (And.intro (show r4.length ≤ 5 from hM.2.2.1) (show r5.length ≤ 3 from hM.2.2.2.1))))
  have HM2 := Box.mk (below_trans h11 h12)
  have hgw : w.heap.size ≤ w1.heap.size := hM.2.2.2.2.size
  have HSZ := Box.mk (And.intro hsz hgw)
  clear hM h11 h12 hsz hgw
  unfold Rp.v
  simp only
  go_upto_region 2 with fail
  change Code.wp _ _ _ _ (w1.alloc (.cells #[.int .i64 r1, .string r2, .int .i64 r3, .slice m1 r4.length m2, .slice m3 r5.length m4] 26))
  rw [← hW1]
  clear hW1
  have v0 := HX1.out.cell (i := 0) (v := .int .i64 r1) rfl
  have v1 := HX1.out.cell (i := 1) (v := .string r2) rfl
  have v2 := HX1.out.cell (i := 2) (v := .int .i64 r3) rfl
  have v3 := HX1.out.cell (i := 3) (v := .slice m1 r4.length m2) rfl
  have v4 := HX1.out.cell (i := 4) (v := .slice m3 r5.length m4) rfl
  go_upto_region 3 with fail
  change Code.wp _ _ _ _ (W1.alloc (.cells #[.int .i64 r1, .string r2, .int .i64 r3, .slice m1 r4.length m2, .slice m3 r5.length m4] 26))
  rw [← hW2]
  clear hW2 v0 v1 v2 v3 v4 HX1
  obtain ⟨gx, hgx⟩ : ∃ g, g = w1.heap.size := ⟨_, rfl⟩
  obtain ⟨gy, hgy⟩ : ∃ g, g = W1.heap.size := ⟨_, rfl⟩
  rw [← hgx] at HX2
  rw [← hgy] at HY2
  have HG := Box.mk (show w.heap.size ≤ gx ∧ gx < gy by have h1 := HSZ.out.1; have h2 := HSZ.out.2; omega)
  (try rw [← hgx])
  (try rw [← hgy])
  have HGX := Box.mk hgx
  clear hgx hgy HSZ
  have HE := Box.mk (AccF.empty W2)
  have y3 := (HX2.out.keep HE.out.2).cell (i := 3) (v := .slice m1 r4.length m2) rfl
  have hr4 : r4.length ≤ 5 := HM.out.2.2.1
  go_wp2_with (at_builtin; refine wpList_append_accfs _ rfl _ _ rfl rfl HE.out rfl ((HM.out.1.1.keep HM2.out).keep HE.out.2) (by simp; omega) ?c1)
  case c1 =>
  intro v1 w2 hacc
  have H1 := Box.mk (show AccF W2 w2 v1 r4 from hacc)
  clear hacc HE y3
  go_wp2_with (at_builtin; refine wpList_append_accf _ rfl _ _ rfl rfl (H1.out.keep ((Below.refl _ _).alloc (Nat.le_refl _) _)) rfl (y := ((⟨#[88, 45, 78, 101, 119]⟩ : ByteArray), val)) (by simp) (by simp) (by omega) ?c2)
  case c2 =>
  intro g5 c5 w5 hacc
  obtain ⟨F2, hF2⟩ : ∃ F2, r4 ++ [(newP, val)] = F2 := ⟨_, rfl⟩
  have hlen : r4.length + 1 = F2.length := by rw [← hF2]; simp
  have hacc2 : AccF W2 w5 (.slice (some ⟨g5, 0, none⟩) F2.length c5) F2 := by rw [← hlen, ← hF2]; exact hacc
  rw [hlen]
  have H2 := Box.mk hacc2
  have HF2 := Box.mk hF2
  have HLEN := Box.mk hlen
  clear hacc hacc2 hF2 hlen H1
  have HY5 := Box.mk (HY2.out.keep H2.out.2)
  have z3 := HY5.out.cell (i := 3) (v := .slice m1 r4.length m2) rfl
  have zf := HY5.out.frozen (i := 3)
  have hne : gx ≠ gy := by have := HG.out.2; omega
  go_upto_region 4 with fail
  obtain ⟨W3, hW3⟩ : ∃ W, W = w5.setCell ⟨gy, 3, none⟩ (.slice (some ⟨g5, 0, none⟩) F2.length c5) := ⟨_, rfl⟩
  have HX3 := Box.mk (show VarA W3 gx #[.int .i64 r1, .string r2, .int .i64 r3, .slice m1 r4.length m2, .slice m3 r5.length m4] 26 by rw [hW3]; exact (HX2.out.keep H2.out.2).other hne)
  have HY3 := Box.mk (show VarA W3 gy #[.int .i64 r1, .string r2, .int .i64 r3, .slice (some ⟨g5, 0, none⟩) F2.length c5, .slice m3 r5.length m4] 26 by rw [hW3]; exact HY5.out.set (i := 3) (v := .slice (some ⟨g5, 0, none⟩) F2.length c5))
  have HB3 := Box.mk (show Below w.heap.size w W3 by rw [hW3]; exact (below_trans HB2.out H2.out.2).setCell (p := ⟨gy, 3, none⟩) (Nat.le_trans HG.out.1 (Nat.le_of_lt HG.out.2)) _)
  have HF3 := Box.mk (show Below gx w1 W3 by
    have h1 : Below w1.heap.size w1 w5 := below_trans HM2.out H2.out.2
    rw [← HGX.out] at h1
    rw [hW3]; exact h1.setCell (p := ⟨gy, 3, none⟩) (Nat.le_of_lt HG.out.2) _)
  have HFL := Box.mk (show FldsC W3 (some ⟨g5, 0, none⟩) F2 c5 ∧ F2.length ≤ c5 by
    have h1 : OwnF W2.heap.size w5 (.slice (some ⟨g5, 0, none⟩) F2.length c5) F2 := H2.out.1
    have h2 : OwnF W2.heap.size W3 (.slice (some ⟨g5, 0, none⟩) F2.length c5) F2 := h1.same fun k hk => by
      rw [hW3]
      refine heap_setCell_other _ _ _ _ ?_
      have h3 := (h1.lt hk).1
      have h4 := HY2.out.lt
      show k ≠ gy
      omega
    obtain ⟨x, y, he, hs, hcp⟩ := h2.shape
    injection he with e1 e2 e3
    subst e1 e3
    exact ⟨hs, hcp⟩)
  change Code.wp _ _ _ _ (w5.setCell ⟨gy, 3, none⟩ (.slice (some ⟨g5, 0, none⟩) F2.length c5))
  rw [← hW3]
  clear hW3 z3 zf HX2 HY2 HY5 HB2 HM2 H2
  have HRA := Box.mk (show RpIn W3 ⟨r1, r2, r3, r4, r5⟩ ⟨m1, m2, m3, m4⟩ from HM.out.1.keep (HGX.out ▸ HF3.out))
  have HRB := Box.mk (show RpIn W3 ⟨r1, r2, r3, F2, r5⟩ ⟨some ⟨g5, 0, none⟩, c5, m3, m4⟩ from ⟨HFL.out.1, HFL.out.2, HRA.out.2.2⟩)
  have HMA := Box.mk (medF_small (show SmallF r4 from HM.out.2.1) (by omega))
  have HMB := Box.mk (medF_small (l := F2) (fun f hf => by
    rw [← HF2.out, List.mem_append, List.mem_singleton] at hf
    rcases hf with hf | rfl
    · exact HM.out.2.1 f hf
    · exact ⟨(by show newP.size ≤ _; decide), HIN.out.2.2⟩) (by have := HLEN.out; omega))
  have hr5 : r5.length ≤ 3 := HM.out.2.2.2
  have HL2 := Box.mk (show F2.length ≤ 6 by have := HLEN.out; omega)
  clear HIN HF3 HGX HFL HLEN HM
  cases skip
  · go_upto_region 7 with fail
    have HIG := Box.mk (show StrsC W3 none ([] : List ByteArray) 0 from StrsC.none _)
    obtain ⟨SA, hSA⟩ : ∃ s, seeV r1 r4 r5 ([] : List ByteArray) = s := ⟨_, rfl⟩
    obtain ⟨SB, hSB⟩ : ∃ s, seeV r1 F2 r5 ([] : List ByteArray) = s := ⟨_, rfl⟩
    have HD := Box.mk (show cmpV SA SB = ⟨false, false, [(⟨#[120, 45, 110, 101, 119]⟩ : ByteArray)]⟩ by
      rw [← hSA, ← hSB]
      unfold cmpV seeV
      simp only
      rw [show fsD (fieldsN r4 []) (fieldsN F2 []) = [newN] by rw [← HF2.out]; exact fieldsD_new HSRC.out val, show newN = (⟨#[120, 45, 110, 101, 119]⟩ : ByteArray) from rfl]
      simp)
    have HAL := Box.mk (show LS SA.fs by rw [← hSA]; exact ls_fields HMA.out)
    have HBL := Box.mk (show LS SB.fs by rw [← hSB]; exact ls_fields HMB.out)
    have HSA := Box.mk hSA
    have HSB := Box.mk hSB
    clear hSA hSB
    rename_i K hK
    refine wp_region_last (S := [some (.val (.agg #[.int .i64 r1, .string r2, .int .i64 r3, .slice m1 r4.length m2, .slice m3 r5.length m4])), some (.val (.slice none ([] : List ByteArray).length 0)), some (.of (.seenD SA)), some (.val (.agg #[.int .i64 r1, .string r2, .int .i64 r3, .slice (some ⟨g5, 0, none⟩) F2.length c5, .slice m3 r5.length m4])), some (.val (.slice none ([] : List ByteArray).length 0)), some (.of (.seenD SB)), some (.of (.diffD ⟨false, false, [(⟨#[120, 45, 110, 101, 119]⟩ : ByteArray)]⟩)), some (.of (.rowNew W3.heap.size #[.bool false, .bool false, .slice none 0 0] 37)), none]) 8
      (by kernel_rfl) (by kernel_rfl) (by kernel_rfl) (by kernel_rfl) rfl rfl rfl ?_ ?_
    · refine ⟨?_, ?_, ?_, ?_, ?_, ?_, ?_, ?_, trivial⟩ <;> intro a' w2 hb hf hd
      · exact ⟨wanted_none rfl, loc_load_rowG rfl (hf.base 7 rfl) (HX3.out.keep hb).row Tryz.underlying26 rfl (sizeRp ..) rfl⟩
      · exact ⟨wanted_none rfl, loc_move rfl (hf.base 9 rfl)⟩
      · exact ⟨wanted_none rfl, loc_call rfl (by kernel_rfl) (dSee_v (r := ⟨r1, r2, r3, r4, r5⟩) (p := ⟨m1, m2, m3, m4⟩) (ig := ([] : List ByteArray)) (ia := none) (ic := 0) w2 mm (HDT.out.keep (below_trans HB3.out hb)) (hd 0 rfl) (hd 1 rfl) (HRA.out.keep hb) HMA.out (HIG.out.keep hb) (fun x h => by simp at h; try (subst h; decide)) (by decide) (by show r5.length ≤ 1000000000; omega) HSA.out)⟩
      · exact ⟨wanted_none rfl, loc_load_rowG rfl (hf.base 8 rfl) (HY3.out.keep hb).row Tryz.underlying26 rfl (sizeRp ..) rfl⟩
      · exact ⟨wanted_none rfl, loc_move rfl (hf.base 9 rfl)⟩
      · exact ⟨wanted_none rfl, loc_call rfl (by kernel_rfl) (dSee_v (r := ⟨r1, r2, r3, F2, r5⟩) (p := ⟨some ⟨g5, 0, none⟩, c5, m3, m4⟩) (ig := ([] : List ByteArray)) (ia := none) (ic := 0) w2 mm (HDT.out.keep (below_trans HB3.out hb)) (hd 3 rfl) (hd 4 rfl) (HRB.out.keep hb) HMB.out (HIG.out.keep hb) (fun x h => by simp at h; try (subst h; decide)) (by decide) (by show r5.length ≤ 1000000000; omega) HSB.out)⟩
      · obtain ⟨q1, e1, k1⟩ := hd 2 rfl
        obtain ⟨q2, e2, k2⟩ := hd 5 rfl
        exact ⟨wanted_none rfl, loc_call rfl (by kernel_rfl) (dCompare_v (p := q1) (q := q2) w2 e1 e2 k1 k2 HAL.out HBL.out HD.out)⟩
      · exact ⟨wanted_none rfl, loc_alloc_G rfl hb.size (by kernel_rfl) fun v w' h => h⟩
    · intro a' w2 hb hf hd
      refine ⟨wanted_none rfl, ?_⟩
      obtain ⟨q, e6, hqB, hq⟩ := hd 7 (by decide) (by decide)
      obtain ⟨da, dc, ev, hS⟩ := hd 6 (by decide) (by decide)
      have eq' : a'.eval (.tmp 10) = .pointer (some ⟨q, 0, none⟩) := e6
      have ev' : a'.eval (.tmp 31) = .agg #[.bool false, .bool false, .slice da [(⟨#[120, 45, 110, 101, 119]⟩ : ByteArray)].length dc] := ev
      refine wp_store_row 37 _ _ rfl q #[.bool false, .bool false, .slice da [(⟨#[120, 45, 110, 101, 119]⟩ : ByteArray)].length dc] e6 ev 37 _ hq (sizeDf ..) rfl (oneDf ..) ?_
      have hqg : gy < q := Nat.lt_of_lt_of_le HY3.out.lt hqB
      have HD4 := Box.mk (show VarA (w2.setRow q #[.bool false, .bool false, .slice da [(⟨#[120, 45, 110, 101, 119]⟩ : ByteArray)].length dc]) q #[.bool false, .bool false, .slice da [(⟨#[120, 45, 110, 101, 119]⟩ : ByteArray)].length dc] 37 from setRow_heap _ _ _ _ _ _ hq)
      have HB4 := Box.mk (show Below w.heap.size w (w2.setRow q #[.bool false, .bool false, .slice da [(⟨#[120, 45, 110, 101, 119]⟩ : ByteArray)].length dc]) from below_setRow (below_trans HB3.out hb) (by have := HG.out; omega) _)
      have HS4 := Box.mk (show StrsC (w2.setRow q #[.bool false, .bool false, .slice da [(⟨#[120, 45, 110, 101, 119]⟩ : ByteArray)].length dc]) da [(⟨#[120, 45, 110, 101, 119]⟩ : ByteArray)] dc from ⟨fun j hj => by
        obtain ⟨x, e, hc⟩ := hS.1 j hj
        exact ⟨x, e, by rw [cell_rowD _ _ _ (cell_apartD hq (fun u hu => by simp at hu; rcases hu with rfl | rfl | rfl <;> intro e <;> cases e) hc)]; exact hc⟩, hS.2⟩)
      refine hK _ _ ?_
      rw [fr_putAll hf]
      simp only [putAll, eq', ev']
      clear hf hd hb hK e6 ev eq' ev' hq hS hqB HX3 HY3 HB3 HRA HRB HSA HSB HAL HBL HD HMA HMB HIG HL2
      generalize a'.eval (.tmp 25) = u25
      generalize a'.eval (.tmp 26) = u26
      generalize a'.eval (.tmp 27) = u27
      generalize a'.eval (.tmp 28) = u28
      generalize a'.eval (.tmp 29) = u29
      generalize a'.eval (.tmp 30) = u30
      simp only [Act.put, List.setIfInBounds_toArray, List.set_cons_succ, List.set_cons_zero]
      change Code.wp _ _ _ (Act.mk _ _) _
      generalize (w2.setRow q #[.bool false, .bool false, .slice da [(⟨#[120, 45, 110, 101, 119]⟩ : ByteArray)].length dc]) = w4 at *
      clear K a'
      have d0 := HD4.out.cell (i := 0) (v := .bool false) rfl
      have d1 := HD4.out.cell (i := 1) (v := .bool false) rfl
      have d2 := HD4.out.cell (i := 2) (v := .slice da [(⟨#[120, 45, 110, 101, 119]⟩ : ByteArray)].length dc) rfl
      obtain ⟨xd, hxd, hcd⟩ := HS4.out.1 0 (by decide)
      subst hxd
      have hcd' : w4.cell? (xd.add 0) = some (.string (⟨#[120, 45, 110, 101, 119]⟩ : ByteArray)) := hcd
      have hcd2 : w4.cell? xd = some (.string (⟨#[120, 45, 110, 101, 119]⟩ : ByteArray)) := by rw [← hcd']; simp [Addr.add]
      go_wp2_with fail
      refine (dfAwake_any w4 mm (HDT.out.keep HB4.out)).mono ?_
      rintro e w6 ⟨rfl, h6⟩
      have H6 := Box.mk (below_trans HB4.out h6)
      clear h6
      go_wp2_with fail
      go_ret
      exact ⟨rfl, H6.out⟩
  · go_upto_region 7 with fail
    obtain ⟨W4, hW4⟩ : ∃ W, W = (W3.alloc (.cells #[.string (⟨#[120, 45, 78, 69, 87]⟩ : ByteArray)] 9)) := ⟨_, rfl⟩
    have h34 : Below W3.heap.size W3 W4 := by rw [hW4]; exact below_oneF _ _
    have HIG := Box.mk (show StrsC W4 (some ⟨W3.heap.size, 0, none⟩) [(⟨#[120, 45, 78, 69, 87]⟩ : ByteArray)] 1 from ⟨by rw [hW4]; exact strsIn_newF W3 [(⟨#[120, 45, 78, 69, 87]⟩ : ByteArray)] 9, by decide, fun e => by cases e⟩)
    change Code.wp _ _ _ _ (W3.alloc (.cells #[.string (⟨#[120, 45, 78, 69, 87]⟩ : ByteArray)] 9))
    rw [← hW4]
    clear hW4
    have HX3 := Box.mk (HX3.out.keep h34)
    have HY3 := Box.mk (HY3.out.keep h34)
    have HB3 := Box.mk (below_trans HB3.out h34)
    have HRA := Box.mk (HRA.out.keep h34)
    have HRB := Box.mk (HRB.out.keep h34)
    clear h34
    obtain ⟨SA, hSA⟩ : ∃ s, seeV r1 r4 r5 [(⟨#[120, 45, 78, 69, 87]⟩ : ByteArray)] = s := ⟨_, rfl⟩
    obtain ⟨SB, hSB⟩ : ∃ s, seeV r1 F2 r5 [(⟨#[120, 45, 78, 69, 87]⟩ : ByteArray)] = s := ⟨_, rfl⟩
    have HD := Box.mk (show cmpV SA SB = ⟨false, false, ([] : List ByteArray)⟩ by
      rw [← hSA, ← hSB]
      unfold cmpV seeV
      simp only
      rw [show fieldsN F2 [(⟨#[120, 45, 78, 69, 87]⟩ : ByteArray)] = fieldsN r4 [(⟨#[120, 45, 78, 69, 87]⟩ : ByteArray)] by rw [← HF2.out]; exact fields_skip HSRC.out val, fsD_self]
      simp)
    have HAL := Box.mk (show LS SA.fs by rw [← hSA]; exact ls_fields HMA.out)
    have HBL := Box.mk (show LS SB.fs by rw [← hSB]; exact ls_fields HMB.out)
    have HSA := Box.mk hSA
    have HSB := Box.mk hSB
    clear hSA hSB
    rename_i K hK
    refine wp_region_last (S := [some (.val (.agg #[.int .i64 r1, .string r2, .int .i64 r3, .slice m1 r4.length m2, .slice m3 r5.length m4])), some (.val (.slice (some ⟨W3.heap.size, 0, none⟩) 1 1)), some (.of (.seenD SA)), some (.val (.agg #[.int .i64 r1, .string r2, .int .i64 r3, .slice (some ⟨g5, 0, none⟩) F2.length c5, .slice m3 r5.length m4])), some (.val (.slice (some ⟨W3.heap.size, 0, none⟩) 1 1)), some (.of (.seenD SB)), some (.of (.diffD ⟨false, false, ([] : List ByteArray)⟩)), some (.of (.rowNew W4.heap.size #[.bool false, .bool false, .slice none 0 0] 37)), none]) 8
      (by kernel_rfl) (by kernel_rfl) (by kernel_rfl) (by kernel_rfl) rfl rfl rfl ?_ ?_
    · refine ⟨?_, ?_, ?_, ?_, ?_, ?_, ?_, ?_, trivial⟩ <;> intro a' w2 hb hf hd
      · exact ⟨wanted_none rfl, loc_load_rowG rfl (hf.base 7 rfl) (HX3.out.keep hb).row Tryz.underlying26 rfl (sizeRp ..) rfl⟩
      · exact ⟨wanted_none rfl, loc_move rfl (hf.base 9 rfl)⟩
      · exact ⟨wanted_none rfl, loc_call rfl (by kernel_rfl) (dSee_v (r := ⟨r1, r2, r3, r4, r5⟩) (p := ⟨m1, m2, m3, m4⟩) (ig := [(⟨#[120, 45, 78, 69, 87]⟩ : ByteArray)]) (ia := (some ⟨W3.heap.size, 0, none⟩)) (ic := 1) w2 mm (HDT.out.keep (below_trans HB3.out hb)) (hd 0 rfl) (hd 1 rfl) (HRA.out.keep hb) HMA.out (HIG.out.keep hb) (fun x h => by simp at h; try (subst h; decide)) (by decide) (by show r5.length ≤ 1000000000; omega) HSA.out)⟩
      · exact ⟨wanted_none rfl, loc_load_rowG rfl (hf.base 8 rfl) (HY3.out.keep hb).row Tryz.underlying26 rfl (sizeRp ..) rfl⟩
      · exact ⟨wanted_none rfl, loc_move rfl (hf.base 9 rfl)⟩
      · exact ⟨wanted_none rfl, loc_call rfl (by kernel_rfl) (dSee_v (r := ⟨r1, r2, r3, F2, r5⟩) (p := ⟨some ⟨g5, 0, none⟩, c5, m3, m4⟩) (ig := [(⟨#[120, 45, 78, 69, 87]⟩ : ByteArray)]) (ia := (some ⟨W3.heap.size, 0, none⟩)) (ic := 1) w2 mm (HDT.out.keep (below_trans HB3.out hb)) (hd 3 rfl) (hd 4 rfl) (HRB.out.keep hb) HMB.out (HIG.out.keep hb) (fun x h => by simp at h; try (subst h; decide)) (by decide) (by show r5.length ≤ 1000000000; omega) HSB.out)⟩
      · obtain ⟨q1, e1, k1⟩ := hd 2 rfl
        obtain ⟨q2, e2, k2⟩ := hd 5 rfl
        exact ⟨wanted_none rfl, loc_call rfl (by kernel_rfl) (dCompare_v (p := q1) (q := q2) w2 e1 e2 k1 k2 HAL.out HBL.out HD.out)⟩
      · exact ⟨wanted_none rfl, loc_alloc_G rfl hb.size (by kernel_rfl) fun v w' h => h⟩
    · intro a' w2 hb hf hd
      refine ⟨wanted_none rfl, ?_⟩
      obtain ⟨q, e6, hqB, hq⟩ := hd 7 (by decide) (by decide)
      obtain ⟨da, dc, ev, hS⟩ := hd 6 (by decide) (by decide)
      have eq' : a'.eval (.tmp 10) = .pointer (some ⟨q, 0, none⟩) := e6
      have ev' : a'.eval (.tmp 31) = .agg #[.bool false, .bool false, .slice da ([] : List ByteArray).length dc] := ev
      refine wp_store_row 37 _ _ rfl q #[.bool false, .bool false, .slice da ([] : List ByteArray).length dc] e6 ev 37 _ hq (sizeDf ..) rfl (oneDf ..) ?_
      have hqg : gy < q := Nat.lt_of_lt_of_le HY3.out.lt hqB
      have HD4 := Box.mk (show VarA (w2.setRow q #[.bool false, .bool false, .slice da ([] : List ByteArray).length dc]) q #[.bool false, .bool false, .slice da ([] : List ByteArray).length dc] 37 from setRow_heap _ _ _ _ _ _ hq)
      have HB4 := Box.mk (show Below w.heap.size w (w2.setRow q #[.bool false, .bool false, .slice da ([] : List ByteArray).length dc]) from below_setRow (below_trans HB3.out hb) (by have := HG.out; omega) _)
      have HS4 := Box.mk (show StrsC (w2.setRow q #[.bool false, .bool false, .slice da ([] : List ByteArray).length dc]) da ([] : List ByteArray) dc from ⟨fun j hj => by
        obtain ⟨x, e, hc⟩ := hS.1 j hj
        exact ⟨x, e, by rw [cell_rowD _ _ _ (cell_apartD hq (fun u hu => by simp at hu; rcases hu with rfl | rfl | rfl <;> intro e <;> cases e) hc)]; exact hc⟩, hS.2⟩)
      refine hK _ _ ?_
      rw [fr_putAll hf]
      simp only [putAll, eq', ev']
      clear hf hd hb hK e6 ev eq' ev' hq hS hqB HX3 HY3 HB3 HRA HRB HSA HSB HAL HBL HD HMA HMB HIG HL2
      generalize a'.eval (.tmp 25) = u25
      generalize a'.eval (.tmp 26) = u26
      generalize a'.eval (.tmp 27) = u27
      generalize a'.eval (.tmp 28) = u28
      generalize a'.eval (.tmp 29) = u29
      generalize a'.eval (.tmp 30) = u30
      simp only [Act.put, List.setIfInBounds_toArray, List.set_cons_succ, List.set_cons_zero]
      change Code.wp _ _ _ (Act.mk _ _) _
      generalize (w2.setRow q #[.bool false, .bool false, .slice da ([] : List ByteArray).length dc]) = w4 at *
      clear K a'
      have d0 := HD4.out.cell (i := 0) (v := .bool false) rfl
      have d1 := HD4.out.cell (i := 1) (v := .bool false) rfl
      have d2 := HD4.out.cell (i := 2) (v := .slice da ([] : List ByteArray).length dc) rfl
      go_wp2_with fail
      change Calls _ _ #[Df.v ⟨false, false, []⟩ da dc] w4 _
      refine (dSame_eq (d := ⟨false, false, []⟩) (z := true) w4 HS4.out rfl).mono ?_
      rintro e w5 ⟨rfl, h5⟩
      have H5 := Box.mk (below_trans HB4.out h5)
      clear h5
      go_wp2_with fail
      refine (dfAwake_any w5 mm (HDT.out.keep H5.out)).mono ?_
      rintro e w6 ⟨rfl, h6⟩
      have H6 := Box.mk (below_trans H5.out h6)
      clear h6
      go_wp2_with fail
      go_ret
      exact ⟨rfl, H6.out⟩
end Go.Proofs.YtgmbfiikkogenaaGreatDoor
