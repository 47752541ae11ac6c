/- The landed differ: the first values of each name; the names that differ. A slice of bytes of the call's own, beside other memory: what an append leaves alone. Queues: clone, Peek, SameQueue. Queues: single operations on a queue's variable; Peek and SameQueue. Comparing replies: the reference's See. Queues: Take. Queues: Take. Queues: the reference's Put. Queues: Put. The landed differ: sums are compared in pieces of 32 bytes. A region that draws its order, whose one store comes behind all else, and where operations may be left out by their guards. The contracts over values that nobody looks into; the law of the states. The landed differ: See, Compare and Same. Bytes of the source. The laws of package differ: made, awake. -/
import Derived.Test.YtgmbfiikkogenaaGreatDoorPk1
import Derived.Test.YtgmbfiikkogenaaGreatDoorPk2
import Derived.Test.YtgmbfiikkogenaaGreatDoorPk3
import Derived.Test.YtgmbfiikkogenaaGreatDoorPk4
import Derived.Test.YtgmbfiikkogenaaGreatDoorPk5
import Derived.Test.YtgmbfiikkogenaaGreatDoorPk6
import Derived.Test.YtgmbfiikkogenaaGreatDoorPk7
import Derived.Test.YtgmbfiikkogenaaGreatDoorRows
import Derived.WalkKit
import Derived.WalkSpells
import Derived.WalkLawsBesides
import Derived.BigQuiet
import Derived.Deep.QuietTactic
import Derived.Lib.Bytealg
import Derived.Lib.IndexLaws
import Derived.Lib.Hide
import Derived.Laws.IdiomStrings
import Derived.Lib.SlTrimSet
import Derived.Lib.IndexBytes
import Derived.Lib.Split
import Derived.Deep.AppendLies
import Derived.Shelf.SlGeneric
import Derived.Shelf.Strings.SlTrimAscii
import Derived.Shelf.Strings.SplitShaped
import Derived.Shelf.LaysM
import Derived.Shelf.Strings.BuilderK
import Derived.Shelf.Strconv.Itoa4
import Derived.Shelf.Strings.Builder2
import Derived.Shelf.SlLaysF0
import Derived.Shelf.SlLaysM
import Derived.Shelf.SlLaysN
import Derived.Ground.SlsfProg
import Derived.Ground.SlgmProg
import Derived.Ground.SlgnProg
import Derived.Test.YtgmbfiikkogenaaGreatDoorProg
import Derived.Lib.SplitLaws
import Derived.WalkSmall
import Derived.ProofKit
import Derived.OpenShut
import Derived.Lib.Strings
import Derived.SliceStrings
import Derived.Deep.Quiet
import Derived.Tactics
import Derived.KernelRfl
import Derived.Below
import Derived.Laws.Bits64
import Derived.Lib.SlBytesConst
import Derived.Maps.AppendAt
import Derived.Laws.AppendOwnNone
import Derived.Great.BuildSlice
import Derived.Laws.Rows
import Derived.Laws.BitsAllLaws
import Derived.Laws.Shifts
import Derived.Maps.OwnOps
import Derived.Maps.OwnSet
import Derived.Deep.SlicePairs
import Derived.Lib.AppendZerosOnto
import Derived.Lib.AppendStr
import Derived.Laws.CopyOwn
import Derived.OwnWalk
import Derived.Laws.Strings3
import Derived.Laws.Concat
import Derived.Lib.ItoaMem
import Derived.Deep.RegionHeld3
import Derived.IntWalk
import Derived.Sort.Grow
import Derived.Lib.LaidTab
import Derived.LaidSub
import Derived.Sort.Walk0
import Derived.Laws.OwnMore
import Derived.ArgAppend
import Derived.Shelf.Strings.OnBuilder
import Derived.Laws.Tables
import Derived.Maps.RangeWalk
import Derived.Lib.SlicesCompact
import Derived.Shelf.SlSortCmp.Insertion
import Derived.Sort.Statements
import Derived.Shelf.SlSortCmp.WholeK
import Derived.Shelf.SlSortCmp.NoneTotal
import Derived.Shelf.SortM.Plain
import Derived.Shelf.SlicesG.CompactS
import Derived.Shelf.Small.Strs
import Derived.Sort.OwnSorted
import Derived.Deep.DeepCutAuto
import Derived.Deep.CutBlock
import Derived.Deep.WholeRow
import Derived.StillTailTactics
import Derived.Deep.Matrix
import Derived.Stop.BytesEq
namespace Go.Proofs.YtgmbfiikkogenaaGreatDoor
open Go.RowKit
set_option linter.unusedSimpArgs false
set_option linter.unusedVariables false

def RetMv (w : World) (l : List Fld) (e : Ending) (w' : World) : Prop := ∃ b n, e = .returned (.map (some b)) ∧ MapVIn w' b n l ∧ Below w.heap.size w w'
set_option maxRecDepth 100000 in
set_option maxHeartbeats 2000000 in
theorem dFirst_any (l : List Fld) (a : Option Addr) (cap : Nat) (w : World) (h : FldsIn w a l) (hz : ShortF l) (hl : l.length ≤ 1000000) :
    Calls Tryz.prog 50 #[.slice a l.length cap] w (RetMv w l) := by
  have H0 := Box.mk h
  have HZ := Box.mk hz
  clear h hz
  have hmm := @run_makeMap Tryz.prog
  go_enter Tryz.func50, Tryz.ntmps50
  go_wp2_with fail
  obtain ⟨W, hW⟩ : ∃ W, W = w.alloc (.map #[] 0) := ⟨_, rfl⟩
  have HS := Box.mk (show MapVIn W w.heap.size 0 (l.take 0) by rw [hW]; exact ⟨_, MapV.made w⟩)
  have HB := Box.mk (show Below w.heap.size w W by rw [hW]; exact below_oneF w (.map #[] 0))
  rw [← hW]
  clear hW
  generalize hb : w.heap.size = b at HS ⊢
  have HBS := Box.mk hb
  clear hb
  go_loopw [11] (fun iv wr => ∃ k : Nat, k ≤ l.length ∧ iv = .int .i64 k ∧ Box (MapVIn wr b k (l.take k) ∧ Below w.heap.size w wr)) (fun iv _ => l.length - (intOf iv).toNat)
  case atStart => exact ⟨0, Nat.zero_le _, rfl, ⟨HS.out, HB.out⟩⟩
  case round =>
    clear HS HB
    obtain ⟨k, hk, rfl, HM⟩ := hrel
    by_cases hlt : k < l.length
    · obtain ⟨x, rfl, hx1, hx2⟩ := (H0.out.keep HM.out.2) k hlt
      have hx2 := cell_next hx2
      have HSZ := Box.mk (HZ.out _ (List.getElem_mem hlt))
      have HT := Box.mk (List.take_succ_eq_append_getElem hlt)
      generalize l[k] = f at *
      have HB1 := Box.mk (below_trans HM.out.2 (below_oneF wr (.cells #[.string f.1, .string f.2] 46)))
      have HM1 := Box.mk (HM.out.1.keep (below_oneF wr (.cells #[.string f.1, .string f.2] 46)))
      obtain ⟨v, hv⟩ : ∃ v, optV (valueO (l.take k) f.1) = v := ⟨_, rfl⟩
      have HV := Box.mk hv
      clear hv
      obtain ⟨s, hs⟩ : ∃ s, (valueO (l.take k) f.1).isSome = s := ⟨_, rfl⟩
      have HK := Box.mk hs
      clear hs
      cases s
      · go_wp2_with (first | (at_lookup; refine wpList_look_mv _ rfl _ _ rfl rfl HM1.out rfl HSZ.out.1 HV.out HK.out ?_) | (at_mapUpdate; refine wpList_update_mv _ rfl _ _ _ rfl rfl HM1.out (by unfold maxLen; omega) rfl HSZ.out.1 rfl HK.out ?c4))
        case c4 =>
          intro w5 hs5 hg5
          have HM5 := Box.mk (show MapVIn w5 b (k + 1) (l.take (k + 1)) ∧ Below w.heap.size w w5 by
            refine ⟨by rw [HT.out]; exact hs5, ?_⟩
            exact HB1.out.grown hg5 HB1.out.size (fun j hj => by injection hj with hj; have := HBS.out; omega))
          clear hs5 hg5 HM1 HB1 HV HK
          go_wp2_with fail
          go_roundw
          case rel => exact ⟨k + 1, by omega, by go_num, HM5⟩
          case measure => simp [intOf]; omega
      · have HM5 := Box.mk (show MapVIn (wr.alloc (.cells #[.string f.1, .string f.2] 46)) b (k + 1) (l.take (k + 1)) ∧ Below w.heap.size w (wr.alloc (.cells #[.string f.1, .string f.2] 46)) from ⟨by rw [HT.out]; exact HM1.out.skip HK.out, HB1.out⟩)
        go_wp2_with (at_lookup; refine wpList_look_mv _ rfl _ _ rfl rfl HM1.out rfl HSZ.out.1 HV.out HK.out ?_)
        clear HM1 HB1 HV HK
        go_roundw
        case rel => exact ⟨k + 1, by omega, by go_num, HM5⟩
        case measure => simp [intOf]; omega
    · have HE := Box.mk (show MapVIn wr b k l by have := HM.out.1; rw [List.take_of_length_le (by omega)] at this; exact this)
      go_wp2_with fail
      go_ret
      exact ⟨b, k, rfl, HE.out, HM.out.2⟩

set_option maxRecDepth 100000 in
set_option maxHeartbeats 4000000 in
theorem dNames_any (x y : List Fld) (a b : Option Addr) (ca cb : Nat) (w : World) (hx : FldsC w a x ca) (hy : FldsC w b y cb) (hxz : ShortF x) (hyz : ShortF y) (hxl : x.length ≤ 1000) (hyl : y.length ≤ 1000) :
    Calls Tryz.prog 29 #[.slice a x.length ca, .slice b y.length cb] w (RetStrC w (fsD x y)) := by
  have HX := Box.mk hx
  have HY := Box.mk hy
  have HXZ := Box.mk hxz
  have HYZ := Box.mk hyz
  have HRES := Box.mk (difF_names x y)
  clear hx hy hxz hyz
  go_enter Tryz.func29, Tryz.ntmps29
  go_wp2_with fail
  refine (dFirst_any x a ca w HX.out.1 HXZ.out (by omega)).mono ?_
  rintro e w1 ⟨p, n, rfl, hm, hb⟩
  have HP := Box.mk hm
  have HB1 := Box.mk hb
  clear hm hb
  go_wp2_with fail
  refine (dFirst_any y b cb w1 (HY.out.keep HB1.out).1 HYZ.out (by omega)).mono ?_
  rintro e w2 ⟨q, m, rfl, hm, hb⟩
  have HP2 := Box.mk (HP.out.keep hb)
  have HQ2 := Box.mk hm
  have HB2 := Box.mk (below_trans HB1.out hb)
  clear hm hb HP HB1
  go_wp2_with fail
  obtain ⟨W, hW⟩ : ∃ W, W = w2.alloc (.cells #[.slice a x.length ca, .slice b y.length cb] 23) := ⟨_, rfl⟩
  have HBW := Box.mk (show Below w2.heap.size w2 W by rw [hW]; exact below_oneF w2 _)
  have HTW := Box.mk (show TwoF W w2.heap.size x y by rw [hW]; exact twoF_new w2 x y a b ca cb 23 (HX.out.keep HB2.out) (HY.out.keep HB2.out))
  rw [← hW]
  clear hW
  obtain ⟨L, hL⟩ : ∃ L, x ++ y = L := ⟨_, rfl⟩
  have HL := Box.mk hL
  have HLZ := Box.mk (show ShortF L by rw [← hL]; intro f hf; rcases List.mem_append.1 hf with h | h; exact HXZ.out f h; exact HYZ.out f h)
  have hLl : L.length ≤ 2000 := by rw [← hL, List.length_append]; omega
  clear hL
  refine (concatF_any x y _ W HTW.out (by omega) (by omega)).mono ?_
  rintro e w3 ⟨h1, d, dc, rfl, h2⟩
  rw [HL.out] at h1 h2 ⊢
  have HD := Box.mk h2
  have HB3 := Box.mk (show Below w.heap.size w w3 ∧ Below w2.heap.size w2 w3 by
    obtain ⟨_, _, _, _, h3⟩ := h1
    have h4 := below_trans HBW.out h3
    exact ⟨below_trans HB2.out h4, h4⟩)
  have HPQ := Box.mk (And.intro (HP2.out.keep HB3.out.2) (HQ2.out.keep HB3.out.2))
  have HA0 := Box.mk (show AccF w3 w3 (.slice none 0 0) (difF x y (L.take 0)) from AccF.start w3)
  clear h1 h2 HP2 HQ2 HB2 HBW HTW
  go_wp2_with fail
  go_loopw [7, 23] (fun v iv wr => ∃ k : Nat, k ≤ L.length ∧ iv = .int .i64 k ∧ Box (AccF w3 wr v (difF x y (L.take k)))) (fun _ iv _ => L.length - (intOf iv).toNat)
  case atStart => exact ⟨0, Nat.zero_le _, rfl, HA0⟩
  case round =>
    clear HA0
    obtain ⟨k, hk, rfl, HM⟩ := hrel
    by_cases hlt : k < L.length
    · obtain ⟨ad, rfl, hx1, hx2⟩ := (HD.out.1.keep HM.out.2) k hlt
      have hx2 := cell_next hx2
      have HSZ := Box.mk (HLZ.out _ (List.getElem_mem hlt))
      have HT := Box.mk (List.take_succ_eq_append_getElem hlt)
      have HLN := Box.mk (Nat.le_trans (difF_len x y (L.take k)) (List.length_take_le k L))
      generalize L[k] = f at *
      have HBF := Box.mk (below_oneF wr (.cells #[.string f.1, .string f.2] 46))
      have HPQ1 := Box.mk (show MapVIn (wr.alloc (.cells #[.string f.1, .string f.2] 46)) p n x ∧ MapVIn (wr.alloc (.cells #[.string f.1, .string f.2] 46)) q m y from ⟨(HPQ.out.1.keep HM.out.2).keep HBF.out, (HPQ.out.2.keep HM.out.2).keep HBF.out⟩)
      have HM1 := Box.mk (HM.out.keep HBF.out)
      have HS := Box.mk (difF_snoc x y (L.take k) f)
      have HNE := Box.mk (@optV_ne (valueO x f.1) (valueO y f.1))
      obtain ⟨v1, hv1⟩ : ∃ v, optV (valueO x f.1) = v := ⟨_, rfl⟩
      obtain ⟨k1, hk1⟩ : ∃ s, (valueO x f.1).isSome = s := ⟨_, rfl⟩
      obtain ⟨v2, hv2⟩ : ∃ v, optV (valueO y f.1) = v := ⟨_, rfl⟩
      obtain ⟨k2, hk2⟩ : ∃ s, (valueO y f.1).isSome = s := ⟨_, rfl⟩
      have HV := Box.mk (And.intro (And.intro hv1 hk1) (And.intro hv2 hk2))
      rw [hv1, hk1, hv2, hk2] at HNE
      clear hv1 hk1 hv2 hk2
      cases k1 <;> cases k2
      · by_cases he : v1 = v2
        · have he' := beqS_t he
          have HQ := Box.mk he
          clear he
          have HE := Box.mk (show difF x y (L.take (k + 1)) = difF x y (L.take k) by rw [HT.out, HS.out, if_neg (fun h => (HNE.out.1 h).elim (fun h => h rfl) (fun h => h HQ.out))])
          have HACC := Box.mk (show AccF w3 (wr.alloc (.cells #[.string f.1, .string f.2] 46)) _ (difF x y (L.take (k + 1))) by rw [HE.out]; exact HM1.out)
          go_wp2_with (first | (at_lookup; refine wpList_look_mv _ rfl _ _ rfl rfl HPQ1.out.1 rfl HSZ.out.1 HV.out.1.1 HV.out.1.2 ?_) | (at_lookup; refine wpList_look_mv _ rfl _ _ rfl rfl HPQ1.out.2 rfl HSZ.out.1 HV.out.2.1 HV.out.2.2 ?_))
          clear HE HM1 HPQ1 HM HS HNE HV HBF
          go_roundw
          case rel => exact ⟨k + 1, by omega, by go_num, HACC⟩
          case measure => simp [intOf]; omega
        · have he' := beqS_f he
          have HQ := Box.mk he
          clear he
          have HE := Box.mk (show difF x y (L.take (k + 1)) = difF x y (L.take k) ++ [f] by rw [HT.out, HS.out, if_pos (HNE.out.2 (.inr HQ.out))])
          go_wp2_with (first | (at_lookup; refine wpList_look_mv _ rfl _ _ rfl rfl HPQ1.out.1 rfl HSZ.out.1 HV.out.1.1 HV.out.1.2 ?_) | (at_lookup; refine wpList_look_mv _ rfl _ _ rfl rfl HPQ1.out.2 rfl HSZ.out.1 HV.out.2.1 HV.out.2.2 ?_) | (at_builtin; refine wpList_append_accf _ rfl _ _ rfl rfl (HM1.out.keep ((Below.refl _ _).alloc (Nat.le_refl _) _)) rfl (y := f) ?c1 ?c2 ?c3 ?c4))
          case c1 => simp
          case c2 => simp
          case c3 => have := HLN.out; omega
          case c4 =>
            intro g cap w4 hacc
            have HACC := Box.mk (show AccF w3 w4 _ (difF x y (L.take (k + 1))) by rw [HE.out]; exact hacc)
            clear hacc HE HM1 HPQ1 HM HS HNE HV HBF
            go_wp2_with fail
            go_roundw
            case rel => exact ⟨k + 1, by omega, by go_num, HACC⟩
            case measure => simp [intOf]; omega
      · have HE := Box.mk (show difF x y (L.take (k + 1)) = difF x y (L.take k) ++ [f] by rw [HT.out, HS.out, if_pos (HNE.out.2 (.inl (by decide)))])
        go_wp2_with (first | (at_lookup; refine wpList_look_mv _ rfl _ _ rfl rfl HPQ1.out.1 rfl HSZ.out.1 HV.out.1.1 HV.out.1.2 ?_) | (at_lookup; refine wpList_look_mv _ rfl _ _ rfl rfl HPQ1.out.2 rfl HSZ.out.1 HV.out.2.1 HV.out.2.2 ?_) | (at_builtin; refine wpList_append_accf _ rfl _ _ rfl rfl (HM1.out.keep ((Below.refl _ _).alloc (Nat.le_refl _) _)) rfl (y := f) ?c1 ?c2 ?c3 ?c4))
        case c1 => simp
        case c2 => simp
        case c3 => have := HLN.out; omega
        case c4 =>
          intro g cap w4 hacc
          have HACC := Box.mk (show AccF w3 w4 _ (difF x y (L.take (k + 1))) by rw [HE.out]; exact hacc)
          clear hacc HE HM1 HPQ1 HM HS HNE HV HBF
          go_wp2_with fail
          go_roundw
          case rel => exact ⟨k + 1, by omega, by go_num, HACC⟩
          case measure => simp [intOf]; omega
      · have HE := Box.mk (show difF x y (L.take (k + 1)) = difF x y (L.take k) ++ [f] by rw [HT.out, HS.out, if_pos (HNE.out.2 (.inl (by decide)))])
        go_wp2_with (first | (at_lookup; refine wpList_look_mv _ rfl _ _ rfl rfl HPQ1.out.1 rfl HSZ.out.1 HV.out.1.1 HV.out.1.2 ?_) | (at_lookup; refine wpList_look_mv _ rfl _ _ rfl rfl HPQ1.out.2 rfl HSZ.out.1 HV.out.2.1 HV.out.2.2 ?_) | (at_builtin; refine wpList_append_accf _ rfl _ _ rfl rfl (HM1.out.keep ((Below.refl _ _).alloc (Nat.le_refl _) _)) rfl (y := f) ?c1 ?c2 ?c3 ?c4))
        case c1 => simp
        case c2 => simp
        case c3 => have := HLN.out; omega
        case c4 =>
          intro g cap w4 hacc
          have HACC := Box.mk (show AccF w3 w4 _ (difF x y (L.take (k + 1))) by rw [HE.out]; exact hacc)
          clear hacc HE HM1 HPQ1 HM HS HNE HV HBF
          go_wp2_with fail
          go_roundw
          case rel => exact ⟨k + 1, by omega, by go_num, HACC⟩
          case measure => simp [intOf]; omega
      · by_cases he : v1 = v2
        · have he' := beqS_t he
          have HQ := Box.mk he
          clear he
          have HE := Box.mk (show difF x y (L.take (k + 1)) = difF x y (L.take k) by rw [HT.out, HS.out, if_neg (fun h => (HNE.out.1 h).elim (fun h => h rfl) (fun h => h HQ.out))])
          have HACC := Box.mk (show AccF w3 (wr.alloc (.cells #[.string f.1, .string f.2] 46)) _ (difF x y (L.take (k + 1))) by rw [HE.out]; exact HM1.out)
          go_wp2_with (first | (at_lookup; refine wpList_look_mv _ rfl _ _ rfl rfl HPQ1.out.1 rfl HSZ.out.1 HV.out.1.1 HV.out.1.2 ?_) | (at_lookup; refine wpList_look_mv _ rfl _ _ rfl rfl HPQ1.out.2 rfl HSZ.out.1 HV.out.2.1 HV.out.2.2 ?_))
          clear HE HM1 HPQ1 HM HS HNE HV HBF
          go_roundw
          case rel => exact ⟨k + 1, by omega, by go_num, HACC⟩
          case measure => simp [intOf]; omega
        · have he' := beqS_f he
          have HQ := Box.mk he
          clear he
          have HE := Box.mk (show difF x y (L.take (k + 1)) = difF x y (L.take k) ++ [f] by rw [HT.out, HS.out, if_pos (HNE.out.2 (.inr HQ.out))])
          go_wp2_with (first | (at_lookup; refine wpList_look_mv _ rfl _ _ rfl rfl HPQ1.out.1 rfl HSZ.out.1 HV.out.1.1 HV.out.1.2 ?_) | (at_lookup; refine wpList_look_mv _ rfl _ _ rfl rfl HPQ1.out.2 rfl HSZ.out.1 HV.out.2.1 HV.out.2.2 ?_) | (at_builtin; refine wpList_append_accf _ rfl _ _ rfl rfl (HM1.out.keep ((Below.refl _ _).alloc (Nat.le_refl _) _)) rfl (y := f) ?c1 ?c2 ?c3 ?c4))
          case c1 => simp
          case c2 => simp
          case c3 => have := HLN.out; omega
          case c4 =>
            intro g cap w4 hacc
            have HACC := Box.mk (show AccF w3 w4 _ (difF x y (L.take (k + 1))) by rw [HE.out]; exact hacc)
            clear hacc HE HM1 HPQ1 HM HS HNE HV HBF
            go_wp2_with fail
            go_roundw
            case rel => exact ⟨k + 1, by omega, by go_num, HACC⟩
            case measure => simp [intOf]; omega
    · obtain ⟨g, gc, hgv, hg⟩ := HM.out.shape
      have HE := Box.mk (show difF x y (L.take k) = difF x y L by rw [List.take_of_length_le (by omega)])
      have HG := Box.mk hg
      have HBR := Box.mk (below_trans HB3.out.1 HM.out.2)
      have HLN := Box.mk (Nat.le_trans (difF_len x y L) hLl)
      have HRES2 := Box.mk (show namesS ((difF x y L).map (·.1)) = fsD x y by rw [← HL.out]; exact HRES.out)
      rw [HE.out] at HG hgv
      subst hgv
      clear hg HE HM HB3 HPQ HRES
      generalize difF x y L = Z at *
      go_wp2_with fail
      refine (nmNames_any nmSortS_ok Z g gc wr HG.out (by have := HLN.out; omega)).mono ?_
      rintro e w4 ⟨ra, rc, rfl, h1, h2⟩
      rw [HRES2.out] at h1 ⊢
      have HF := Box.mk (And.intro h1 (below_trans HBR.out h2))
      clear h1 h2
      go_wp2_with fail
      go_ret
      exact ⟨ra, rc, rfl, HF.out.1, HF.out.2⟩
end Go.Proofs.YtgmbfiikkogenaaGreatDoor
namespace Go.Proofs.YtgmbfiikkogenaaGreatDoor
open Go.RowKit

/-- v is a slice with the bytes l in a block of its own, at B or beyond. -/
def Own (B : Nat) (w : World) (v : Value) (l : List UInt8) : Prop := w.ownsRow B 5 1 v l.length (bytesV l)
theorem Own.start (B : Nat) (w : World) : Own B w (.slice none 0 0) [] := World.ownsRow_nil _ _ _ _
theorem Own.same {B : Nat} {w w' : World} {v : Value} {l : List UInt8} (h : Own B w v l) (hs : ∀ k, v.ownBlock = some k → w'.heap[k]? = w.heap[k]?) : Own B w' v l := by
  obtain ⟨h1, h2⟩ := h
  refine ⟨h1, ?_⟩
  rcases h2 with h2 | ⟨g, cap, cur, hv, hg, hc, r⟩
  · exact .inl h2
  · exact .inr ⟨g, cap, cur, hv, hg, by rw [hs g (by rw [hv]; rfl)]; exact hc, r⟩
theorem Own.lt {B : Nat} {w : World} {v : Value} {l : List UInt8} (h : Own B w v l) {k : Nat} (hk : v.ownBlock = some k) : B ≤ k ∧ k < w.heap.size := World.ownsRow.lt h k hk
theorem Own.keep {B : Nat} {w w' : World} {v : Value} {l : List UInt8} (h : Own B w v l) (hb : Below w.heap.size w w') : Own B w' v l :=
  h.same fun k hk => hb.block k (h.lt hk).2
theorem Own.val {B : Nat} {w : World} {v : Value} {l : List UInt8} (h : Own B w v l) : BytesV w v l := by
  obtain ⟨h1, h2⟩ := h
  rcases h2 with ⟨rfl, h2⟩ | ⟨g, cap, cur, rfl, hg, hc, hcap, hm, hsz, ht⟩
  · have : l = [] := List.eq_nil_of_length_eq_zero h2
    subst this
    exact ⟨none, 0, rfl, .inl ⟨rfl, rfl, rfl⟩⟩
  · refine ⟨_, cap, rfl, .inr ⟨_, rfl, hcap, hm, fun j hj => ?_⟩⟩
    have e : cur.toList[j]? = some (Value.int .u8 (l[j].toNat : Int)) := by
      have := congrArg (fun x => x[j]?) ht
      simp only [Nat.mul_one, bytesV] at this
      rw [List.getElem?_take_of_lt hj, List.getElem?_map, List.getElem?_eq_getElem hj] at this
      exact this
    rw [Addr.add_lit]
    simp only [World.cell?, hc, Nat.zero_add]
    simpa using e
theorem cell_same {w w' : World} {p : Addr} (h : w'.heap[p.block]? = w.heap[p.block]?) : w'.cell? p = w.cell? p := by
  unfold World.cell?
  rw [h]
theorem add_block (x : Addr) (j : Nat) : (x.add j).block = x.block := by unfold Addr.add; split <;> rfl
theorem IsBytes.same {w w' : World} {a : Option Addr} {l : List UInt8} {c : Nat} (h : IsBytes w a l c) (hs : ∀ x, a = some x → l ≠ [] → w'.heap[x.block]? = w.heap[x.block]?) : IsBytes w' a l c := by
  rcases h with h | ⟨x, h1, h2, h3, h4⟩
  · exact .inl h
  · refine .inr ⟨x, h1, h2, h3, fun j hj => ?_⟩
    have e : w'.heap[(x.add j).block]? = w.heap[(x.add j).block]? := by
      rw [add_block]
      exact hs x h1 (fun e => by rw [e] at hj; exact absurd hj (Nat.not_lt_zero _))
    rw [cell_same e]
    exact h4 j hj
theorem IsBytes.lt {w : World} {x : Addr} {l : List UInt8} {c : Nat} (h : IsBytes w (some x) l c) (hl : l ≠ []) : x.block < w.heap.size := by
  rcases h with ⟨h, _⟩ | ⟨y, h1, h2, h3, h4⟩
  · cases h
  · obtain rfl := Option.some.inj h1
    have h0 : 0 < l.length := List.length_pos_iff.2 hl
    have := h4 0 h0
    have h5 := World.block_lt_of_cell? w _ this
    rw [add_block] at h5; exact h5
section
variable {ops : Array Oper} {rest : List Oper} {o : Oper} {act : Act} {Q : Exit → Act → World → Prop}
/-- APPEND of a slice of bytes that is read; all other blocks stay as they are. -/
theorem wpList_append_ownb (w : World) (hgd : o.guard = none) (s x : Operand) (ho : o.op = .call { callee := .builtin .append, args := #[s, x], argTypes := #[24, 24] })
    {B : Nat} {v : Value} {l : List UInt8} (hs : act.eval s = v) (h : Own B w v l) {a : Option Addr} {r : List UInt8} {c : Nat} (hx : act.eval x = .slice a r.length c) (hr : IsBytes w a r c)
    (hn : l.length + r.length ≤ 140737488355328) (hB : B ≤ w.heap.size)
    (K : ∀ v' w', Own B w' v' (l ++ r) → w.grownBy w' v.ownBlock → (v'.ownBlock = v.ownBlock ∨ v'.ownBlock = some w.heap.size) → wpList Tryz.prog ops Q rest (act.put o.dst v') w') : wpList Tryz.prog ops Q (o :: rest) act w := by
  obtain ⟨i0, hi, hz0, hz1, hz2⟩ := info_parts Tryz.info5
  rcases hr with ⟨rfl, rfl, rfl⟩ | ⟨ad, rfl, hr1, hr2, hr3⟩
  · refine wpList_append_own_none hgd s x 24 ho B 5 i0 1 Tryz.underlying24 hi v l.length (bytesV l) hs h hx (K _ _ ?_ (World.grownBy.refl _ _) (.inl rfl))
    rw [List.append_nil]; exact h
  · refine wpList_append_own_at w hgd s x 24 ho B 5 i0 (.int .u8 0) 1 1 Tryz.underlying24 hi hz0 hz1 hz2 rfl (by decide) v l.length (bytesV l) hs h ad r.length c (bytesV r) hx (by rw [bytesV_len, Nat.mul_one]) ?_ ?_ (by unfold maxLen; omega) (by omega) hB ?_
    · intro j u hj
      unfold bytesV at hj
      rw [List.getElem?_map] at hj
      obtain ⟨c', hc', rfl⟩ := Option.map_eq_some_iff.1 hj
      obtain ⟨hlt, rfl⟩ := List.getElem?_eq_some_iff.1 hc'
      exact hr3 j hlt
    · intro u hu
      unfold bytesV at hu
      obtain ⟨c', _, rfl⟩ := List.mem_map.1 hu
      rfl
    · intro v' w' hown hgrow _ h5
      refine K v' w' ?_ hgrow h5
      unfold Own
      rw [List.length_append]
      have e : bytesV (l ++ r) = bytesV l ++ bytesV r := by unfold bytesV; rw [List.map_append]
      rw [e]; exact hown
end
end Go.Proofs.YtgmbfiikkogenaaGreatDoor
namespace Go.Proofs.YtgmbfiikkogenaaGreatDoor
open Go.RowKit

theorem u8_sizeQ : (Tryz.prog.info? 5).map (·.size) = some 1 := by kernel_rfl
theorem bytesV_append (l r : List UInt8) : bytesV (l ++ r) = bytesV l ++ bytesV r := by unfold bytesV; rw [List.map_append]
theorem bytesV_oneQ (l : List UInt8) : ∀ v ∈ bytesV l, v.oneCell' = true := by
  intro v hv
  unfold bytesV at hv
  obtain ⟨c, _, rfl⟩ := List.mem_map.1 hv
  rfl
theorem bytesV_take (l : List UInt8) (n : Nat) : bytesV (l.take n) = (bytesV l).take n := by unfold bytesV; rw [List.map_take]
theorem bytesV_drop (l : List UInt8) (n : Nat) : bytesV (l.drop n) = (bytesV l).drop n := by unfold bytesV; rw [List.map_drop]
/-- What is copied: at most n of the bytes l, and they lie where the slice says. -/
theorem copy_src {w : World} {a : Option Addr} {l : List UInt8} {c n : Nat} (h : IsBytes w a l c) (hp : 0 < (bytesV (l.take n)).length) : ∃ ad, a = some ad ∧ ∀ j v, (bytesV (l.take n))[j]? = some v → w.cell? (ad.add j) = some v := by
  rcases h with ⟨_, rfl, _⟩ | ⟨x, rfl, _, _, h4⟩
  · simp [bytesV] at hp
  · refine ⟨x, rfl, fun j v hj => ?_⟩
    unfold bytesV at hj
    rw [List.getElem?_map] at hj
    obtain ⟨y, hy, rfl⟩ := Option.map_eq_some_iff.1 hj
    obtain ⟨hlt, rfl⟩ := List.getElem?_eq_some_iff.1 hy
    rw [List.getElem_take]
    exact h4 j (by rw [List.length_take] at hlt; omega)
end Go.Proofs.YtgmbfiikkogenaaGreatDoor
namespace Go.Proofs.YtgmbfiikkogenaaGreatDoor
open Go.RowKit

/-- Bytes that lie at B or beyond. -/
def BytesF (B : Nat) (w : World) (v : Value) (l : List UInt8) : Prop := ∃ a c, v = .slice a l.length c ∧ IsBytes w a l c ∧ ∀ x, a = some x → B ≤ x.block
theorem BytesF.keep {B : Nat} {w w' : World} {v : Value} {l : List UInt8} (h : BytesF B w v l) (hb : Below w.heap.size w w') : BytesF B w' v l := by
  obtain ⟨a, c, h1, h2, h3⟩ := h
  exact ⟨a, c, h1, h2.keep hb, h3⟩
theorem BytesF.mono {B B' : Nat} {w : World} {v : Value} {l : List UInt8} (h : BytesF B w v l) (hB : B' ≤ B) : BytesF B' w v l := by
  obtain ⟨a, c, h1, h2, h3⟩ := h
  exact ⟨a, c, h1, h2, fun x hx => Nat.le_trans hB (h3 x hx)⟩
theorem BytesF.bytes {B : Nat} {w : World} {v : Value} {l : List UInt8} (h : BytesF B w v l) : BytesV w v l := by
  obtain ⟨a, c, h1, h2, _⟩ := h
  exact ⟨a, c, h1, h2⟩
theorem BytesF.nil (B : Nat) (w : World) : BytesF B w (.slice none 0 0) [] := ⟨none, 0, rfl, .inl ⟨rfl, rfl, rfl⟩, fun x hx => by cases hx⟩
theorem IsBytes.setRowQ {w : World} {a : Option Addr} {l : List UInt8} {cap g : Nat} (h : IsBytes w a l cap) (hf : ∀ x, a = some x → l ≠ [] → x.block ≠ g) (cs : Array Value) : IsBytes (w.setRow g cs) a l cap :=
  h.same fun x hx hl => setRow_other _ _ _ _ (hf x hx hl)
def Spec.fresh (B : Nat) (l : List UInt8) : Spec := ⟨fun v w => BytesF B w v l, fun _ _ _ h hb => h.keep hb⟩
end Go.Proofs.YtgmbfiikkogenaaGreatDoor
namespace Go.Proofs.YtgmbfiikkogenaaGreatDoor
open Go.RowKit
set_option linter.unusedSimpArgs false
set_option linter.unusedVariables false

def seeV (st : Int) (fs : List Fld) (body : List UInt8) (ig : List ByteArray) : Sn := ⟨st, fieldsN fs ig, body.length, sumS body⟩
/-- A reply: its cells, and where its slices lie. -/
structure Rp where
  st : Int
  rs : ByteArray
  mi : Int
  fs : List Fld
  body : List UInt8
def Rp.v (r : Rp) (p : SnP) : Value := .agg #[.int .i64 r.st, .string r.rs, .int .i64 r.mi, .slice p.fa r.fs.length p.fc, .slice p.sa r.body.length p.sc]
def RpIn (w : World) (r : Rp) (p : SnP) : Prop := FldsC w p.fa r.fs p.fc ∧ r.fs.length ≤ p.fc ∧ IsBytes w p.sa r.body p.sc
theorem RpIn.keep {w w' : World} {r : Rp} {p : SnP} (h : RpIn w r p) (hb : Below w.heap.size w w') : RpIn w' r p := ⟨h.1.keep hb, h.2.1, h.2.2.keep hb⟩
def Spec.fldC (F : List Fld) : Spec := ⟨fun v w => ∃ a c, v = .slice a F.length c ∧ FldsC w a F c ∧ F.length ≤ c, fun _ _ _ h hb => by
  obtain ⟨a, c, h1, h2, h3⟩ := h
  exact ⟨a, c, h1, h2.keep hb, h3⟩⟩
def Spec.bytD (l : List UInt8) : Spec := ⟨fun v w => BytesV w v l, fun _ _ _ h hb => h.keep hb⟩
def Spec.seenD (s : Sn) : Spec := ⟨fun v w => ∃ p, v = s.v p ∧ SnIn w s p, fun _ _ _ h hb => by
  obtain ⟨p, h1, h2⟩ := h
  exact ⟨p, h1, h2.keep hb⟩⟩
theorem refFields_vD {l F : List Fld} {ig : List ByteArray} {a b : Option Addr} {cap cb : Nat} {v u : Value} (w : World) (hv : v = .slice a l.length cap) (hu : u = .slice b ig.length cb) (h : FldsC w a l cap) (hm : MedF l) (hi : StrsC w b ig cb) (hiz : ∀ x ∈ ig, x.size ≤ maxLen) (hil : ig.length ≤ 1000) (hF : fieldsN l ig = F) :
    Calls Tryz.prog 25 #[v, u] w fun e w' => ∃ v', e = .returned v' ∧ Below w.heap.size w w' ∧ ∃ a c, v' = .slice a F.length c ∧ FldsC w' a F c ∧ F.length ≤ c := by
  subst hv hu
  refine (refFields_eq w h hm hi hiz hil hF).mono ?_
  rintro e w' ⟨ra, rc, rfl, h1, h2, h3⟩
  exact ⟨_, rfl, h3, ra, rc, rfl, h1, h2⟩
theorem refOf_vD (l : List UInt8) (v : Value) (w : World) (hv : BytesV w v l) (hl : l.length ≤ 70368744177664) :
    Calls Tryz.prog 26 #[v] w fun e w' => ∃ v', e = .returned v' ∧ Below w.heap.size w w' ∧ BytesV w' v' (sumS l) := by
  obtain ⟨a, c, rfl, hb⟩ := hv
  refine (refOf_any l a c w hb hl).mono ?_
  rintro e w' ⟨v', rfl, h⟩
  obtain ⟨a', c', h1, h2⟩ := h.shape
  exact ⟨v', rfl, h.2, a', c', h1, h2⟩
section
variable {Q : Exit → Act → World → Prop} {act : Act} {w : World} {o : Oper} {s : Spec}
theorem loc_fieldRp {x : Operand} {i : Nat} (ho : o.op = .fieldAddr 26 x i) {g : Nat} (hx : act.eval x = .pointer (some ⟨g, 0, none⟩)) (hi : i < 5) (hs : s.p (.pointer (some ⟨g, i, none⟩)) w) :
    o.wp Tryz.prog act w (fun a' w' => ∃ v, a' = act.put o.dst v ∧ Below w.heap.size w w' ∧ s.p v w') Q :=
  loc_field_G ho hx (by
    match i, hi with
    | 0, _ => simp [Instr.fieldAt, run_underlying Tryz.underlying26, Instr.sureAddr, fieldPlace, Addr.add]
    | 1, _ => simp [Instr.fieldAt, run_underlying Tryz.underlying26, Instr.sureAddr, fieldPlace, Addr.add]
    | 2, _ => simp [Instr.fieldAt, run_underlying Tryz.underlying26, Instr.sureAddr, fieldPlace, Addr.add]
    | 3, _ => simp [Instr.fieldAt, run_underlying Tryz.underlying26, Instr.sureAddr, fieldPlace, Addr.add]
    | 4, _ => simp [Instr.fieldAt, run_underlying Tryz.underlying26, Instr.sureAddr, fieldPlace, Addr.add]) hs
theorem agg_intD (w : World) : (isAgg 3).run Tryz.prog w = .ok false w := by
  simp [isAgg, run_underlying Tryz.underlying3]
theorem agg_bytesD (w : World) : (isAgg 24).run Tryz.prog w = .ok false w := by
  simp [isAgg, run_underlying Tryz.underlying24]
theorem loc_buildSn {x y z u : Operand} (ho : o.op = .build 32 #[(0, x), (1, y), (2, z), (3, u)]) {a b : Int} {fa sa : Option Addr} {n fc m sc : Nat} (hx : act.eval x = .int .i64 a) (hy : act.eval y = .slice fa n fc) (hz : act.eval z = .int .i64 b) (hu : act.eval u = .slice sa m sc)
    (hs : s.p (.agg #[.int .i64 a, .slice fa n fc, .int .i64 b, .slice sa m sc]) w) :
    o.wp Tryz.prog act w (fun a' w' => ∃ v, a' = act.put o.dst v ∧ Below w.heap.size w w' ∧ s.p v w') Q := by
  refine loc_run (v := .agg #[.int .i64 a, .slice fa n fc, .int .i64 b, .slice sa m sc]) ?_ (Below.refl _ _) hs
  have hb := run_build (P := Tryz.prog) w 32 #[(0, .int .i64 a), (1, .slice fa n fc), (2, .int .i64 b), (3, .slice sa m sc)] #[.int .i64 a, .slice fa n fc, .int .i64 b, .slice sa m sc] (by kernel_rfl)
  unfold execOp
  simp only [ho, List.map_toArray, List.map_cons, List.map_nil, hx, hy, hz, hu, Sem.run_bind, hb, Result.andThen_ok, Sem.run_pure]
end
theorem cell_apartD {w : World} {g : Nat} {cs : Array Value} {t : TypeId} {y : Addr} {v : Value} (h : VarA w g cs t) (hn : ∀ u ∈ cs.toList, u ≠ v) (hc : w.cell? y = some v) : y.block ≠ g := by
  intro e
  unfold World.cell? at hc
  unfold VarA at h
  rw [e, h] at hc
  simp only at hc
  split at hc
  · cases hc
  · exact hn v (Array.mem_toList_iff.2 (Array.mem_of_getElem? hc)) rfl
theorem cell_rowD (w : World) (g : Nat) (cs : Array Value) {p : Addr} (h : p.block ≠ g) : (w.setRow g cs).cell? p = w.cell? p := by
  unfold World.cell?
  rw [setRow_other _ _ _ _ h]
theorem SnIn.rowD {w : World} {g : Nat} {cs ds : Array Value} {t : TypeId} {s : Sn} {p : SnP} (h : SnIn w s p) (hv : VarA w g cs t) (hs : ∀ u ∈ cs.toList, ∀ b, u ≠ .string b) (hb : ∀ u ∈ cs.toList, ∀ n, u ≠ .int .u8 n) : SnIn (w.setRow g ds) s p := by
  refine ⟨⟨fun j hj => ?_, h.1.2⟩, h.2.1, h.2.2.setRowQ (fun x hx hne => ?_) ds⟩
  · obtain ⟨x, e, h1, h2⟩ := h.1.1 j hj
    exact ⟨x, e, by rw [cell_rowD _ _ _ (cell_apartD hv (fun u hu => hs u hu _) h1)]; exact h1, by rw [cell_rowD _ _ _ (cell_apartD hv (fun u hu => hs u hu _) h2)]; exact h2⟩
  · rcases h.2.2 with ⟨_, e, _⟩ | ⟨y, e, _, _, hc⟩
    · exact absurd e hne
    · rw [hx] at e
      obtain rfl := Option.some.inj e
      have h0 := hc 0 (List.length_pos_iff.2 hne)
      have h1 := cell_apartD hv (fun u hu => hb u hu _) h0
      rwa [add_blockF] at h1
theorem sizeSn (s : Sn) (p : SnP) : (Tryz.prog.info? 32).map (·.size) = some (s.cells p).size := by
  show _ = some 4
  kernel_rfl
theorem oneSn (s : Sn) (p : SnP) : (s.cells p).all (·.oneCell') = true := by unfold Sn.cells; simp [Value.oneCell']

set_option maxRecDepth 100000 in
set_option maxHeartbeats 4000000 in
theorem refSee_any (r : Rp) (p : SnP) (ig : List ByteArray) (ia : Option Addr) (ic : Nat) (w : World) (h : RpIn w r p) (hm : MedF r.fs) (hi : StrsC w ia ig ic) (hiz : ∀ x ∈ ig, x.size ≤ maxLen) (hil : ig.length ≤ 1000) (hbl : r.body.length ≤ 70368744177664) :
    Calls Tryz.prog 12 #[r.v p, .slice ia ig.length ic] w fun e w' => ∃ q, e = .returned ((seeV r.st r.fs r.body ig).v q) ∧ SnIn w' (seeV r.st r.fs r.body ig) q ∧ Below w.heap.size w w' := by
  obtain ⟨st, rs, mi, fs, body⟩ := r
  obtain ⟨fa, fc, ba, bc⟩ := p
  obtain ⟨W, hW⟩ : ∃ W, W = (w.alloc (.cells #[.int .i64 st, .string rs, .int .i64 mi, .slice fa fs.length fc, .slice ba body.length bc] 26)).alloc (.cells #[.int .i64 0, .slice none 0 0, .int .i64 0, .slice none 0 0] 32) := ⟨_, rfl⟩
  have HB := Box.mk (show Below w.heap.size w W by rw [hW]; exact below_twoF (below_oneF w _) _)
  have HA := Box.mk (show VarA W w.heap.size #[.int .i64 st, .string rs, .int .i64 mi, .slice fa fs.length fc, .slice ba body.length bc] 26 by rw [hW]; exact (VarA.new _ _ _).below _)
  have HU := Box.mk (show VarA W (w.heap.size + 1) #[.int .i64 0, .slice none 0 0, .int .i64 0, .slice none 0 0] 32 by rw [hW]; have := VarA.new (w.alloc (.cells #[.int .i64 st, .string rs, .int .i64 mi, .slice fa fs.length fc, .slice ba body.length bc] 26)) #[.int .i64 0, .slice none 0 0, .int .i64 0, .slice none 0 0] 32; rw [World.size_alloc] at this; exact this)
  have HI := Box.mk (And.intro (h.keep HB.out) (And.intro hm (And.intro (hi.keep HB.out) (And.intro hiz hil))))
  simp only at hbl
  obtain ⟨F, hF⟩ : ∃ F, fieldsN fs ig = F := ⟨_, rfl⟩
  have HF := Box.mk hF
  have HS := Box.mk (show seeV st fs body ig = ⟨st, F, body.length, sumS body⟩ by unfold seeV; rw [hF])
  simp only
  rw [HS.out]
  clear h hm hi hiz hil hF
  unfold Rp.v
  simp only
  go_enter Tryz.func12, Tryz.ntmps12
  go_upto_region 1 with fail
  change Code.wp _ _ _ _ ((w.alloc (.cells #[.int .i64 st, .string rs, .int .i64 mi, .slice fa fs.length fc, .slice ba body.length bc] 26)).alloc (.cells #[.int .i64 0, .slice none 0 0, .int .i64 0, .slice none 0 0] 32))
  rw [← hW]
  clear hW
  generalize hg : w.heap.size = g at *
  have HG := Box.mk hg
  clear hg
  have hgl : g + 1 < W.heap.size := HU.out.lt
  rename_i K hK
  refine wp_region_phases [13] (fun ph => match ph with | 0 => [0, 1, 2, 3, 4, 5, 6, 7, 8, 9, 10, 11, 12] | _ => [])
    (fun ph => match ph with
      | 0 => [.val (.pointer (some ⟨g, 0, none⟩)), .val (.int .i64 st), .val (.pointer (some ⟨g, 3, none⟩)), .val (.slice fa fs.length fc), .val (.slice ia ig.length ic), .fldC F, .val (.pointer (some ⟨g, 4, none⟩)), .val (.slice ba body.length bc), .val (.int .i64 (body.length : Int)), .val (.pointer (some ⟨g, 4, none⟩)), .val (.slice ba body.length bc), .bytD (sumS body), .seenD ⟨st, F, body.length, sumS body⟩, .any]
      | _ => [.any, .any, .any, .any, .any, .any, .any, .any, .any, .any, .any, .any, .any, .any])
    (fun ph => match ph with
      | 0 => fun wx => Below W.heap.size W wx
      | _ => fun wx => Below w.heap.size w wx ∧ ∃ q, VarA wx (g + 1) (Sn.cells ⟨st, F, body.length, sumS body⟩ q) 32 ∧ SnIn wx ⟨st, F, body.length, sumS body⟩ q)
    (by kernel_rfl) (by kernel_rfl) (by kernel_rfl) (by kernel_rfl) (by kernel_rfl) (by kernel_rfl) ?_ (Below.refl _ _) ?_ ?_ ?_
  · intro ph w6 w7 h hb
    match ph, h with
    | 0, h => exact below_trans h hb
    | (_ + 1), h =>
      obtain ⟨h1, q, h2, h3⟩ := h
      exact ⟨below_trans h1 hb, q, h2.keep hb, h3.keep hb⟩
  · intro ph hp
    match ph, hp with
    | 0, _ =>
      refine ⟨?_, ?_, ?_, ?_, ?_, ?_, ?_, ?_, ?_, ?_, ?_, ?_, ?_, trivial⟩ <;> intro a1 w6 hv hf hd
      · exact ⟨wanted_none rfl, loc_fieldRp rfl (hf.base 2 rfl) (by decide) rfl⟩
      · exact ⟨wanted_none rfl, loc_load_cellG rfl (hd 0 rfl) ((HA.out.keep hv).cell rfl) agg_intD rfl⟩
      · exact ⟨wanted_none rfl, loc_fieldRp rfl (hf.base 2 rfl) (by decide) rfl⟩
      · exact ⟨wanted_none rfl, loc_load_cellG rfl (hd 2 rfl) ((HA.out.keep hv).cell rfl) agg_fieldsD rfl⟩
      · exact ⟨wanted_none rfl, loc_move rfl (hf.base 1 rfl)⟩
      · exact ⟨wanted_none rfl, loc_call rfl (by kernel_rfl) (refFields_vD w6 (hd 3 rfl) (hd 4 rfl) (HI.out.1.keep hv).1 HI.out.2.1 (HI.out.2.2.1.keep hv) HI.out.2.2.2.1 HI.out.2.2.2.2 HF.out)⟩
      · exact ⟨wanted_none rfl, loc_fieldRp rfl (hf.base 2 rfl) (by decide) rfl⟩
      · exact ⟨wanted_none rfl, loc_load_cellG rfl (hd 6 rfl) ((HA.out.keep hv).cell rfl) agg_bytesD rfl⟩
      · exact ⟨wanted_none rfl, loc_len rfl (hd 7 rfl) rfl⟩
      · exact ⟨wanted_none rfl, loc_fieldRp rfl (hf.base 2 rfl) (by decide) rfl⟩
      · exact ⟨wanted_none rfl, loc_load_cellG rfl (hd 9 rfl) ((HA.out.keep hv).cell rfl) agg_bytesD rfl⟩
      · exact ⟨wanted_none rfl, loc_call rfl (by kernel_rfl) (refOf_vD body _ w6 (by refine ⟨ba, bc, hd 10 rfl, (HI.out.1.keep hv).2.2⟩) hbl)⟩
      · obtain ⟨xa, xc, e1, e2, e3⟩ := hd 5 rfl
        obtain ⟨ya, yc, e4, e5⟩ := hd 11 rfl
        exact ⟨wanted_none rfl, loc_buildSn rfl (hd 1 rfl) e1 (hd 8 rfl) e4 ⟨⟨xa, xc, ya, yc⟩, rfl, e2, e3, e5⟩⟩
    | 1, _ => exact trivial
  · intro ph hp
    match ph, hp with
    | 0, _ =>
      intro a2 w6 hv hf hd
      obtain ⟨q, e17, hq⟩ := hd 12 rfl
      refine ⟨wanted_none rfl, ?_⟩
      refine wp_store_row 32 _ _ rfl (g + 1) (Sn.cells ⟨st, F, body.length, sumS body⟩ q) (hf.base 4 rfl) e17 32 _ (HU.out.keep hv) (sizeSn _ _) rfl (oneSn _ _) ?_
      refine ⟨undef, rfl, ⟨below_setRow (HG.out ▸ below_trans (HG.out ▸ HB.out) hv) (by have := HG.out; omega) _, q, setRow_heap _ _ _ _ _ _ (HU.out.keep hv), ?_⟩, trivial, ⟨.inr fun _ _ _ => trivial, .inr fun _ _ _ => trivial, .inr fun _ _ _ => trivial, .inr fun _ _ _ => trivial, .inr fun _ _ _ => trivial, .inr fun _ _ _ => trivial, .inr fun _ _ _ => trivial, .inr fun _ _ _ => trivial, .inr fun _ _ _ => trivial, .inr fun _ _ _ => trivial, .inr fun _ _ _ => trivial, .inr fun _ _ _ => trivial, .inr fun _ _ _ => trivial, .inl rfl, trivial⟩⟩
      exact hq.rowD (HU.out.keep hv) (fun u hu b => by simp at hu; rcases hu with rfl | rfl | rfl | rfl <;> intro e <;> cases e) (fun u hu n => by simp at hu; rcases hu with rfl | rfl | rfl | rfl <;> intro e <;> cases e)
  · intro a2 w6 hv hf hh
    obtain ⟨hb, q, h1, h2⟩ := hv
    refine hK _ _ ?_
    go_wp2_with fail
    refine bodyPost_ret (results_rD rfl _ _ (g + 1) 32 _ (0, 0) _ (hf.base 4 rfl) h1 Tryz.underlying32 rfl (sizeSn _ _)) hf.defers ?_
    exact ⟨q, rfl, h2, hb⟩
end Go.Proofs.YtgmbfiikkogenaaGreatDoor
namespace Go.Proofs.YtgmbfiikkogenaaGreatDoor
open Go.RowKit

theorem sizeOf_u8Q (W : World) : (sizeOf 5).run Tryz.prog W = .ok 1 W := by
  have h : (Tryz.prog.info? 5).map (·.size) = some 1 := by kernel_rfl
  cases hq : Tryz.prog.info? 5 with
  | none => rw [hq] at h; cases h
  | some i => rw [hq] at h; simp at h; simp [sizeOf, typeInfo, hq, h]

section
variable {Q : Exit → Act → World → Prop} {a : Act} {w : World} {o : Oper} {s : Spec}
theorem run_part_q (W : World) (x : Addr) (len cap n : Nat) (hn : n ≤ len) :
    (Instr.sliceAt 24 (.slice (some x) len cap) (some (.int .i64 (n : Int))) none none).run Tryz.prog W = .ok (.slice (some (if cap = n then x else x.add n)) (len - n) (cap - n)) W := by
  have es : (sizeOf (Tryz.prog.elem 24)).run Tryz.prog W = .ok 1 W := by rw [show Tryz.prog.elem 24 = 5 by kernel_rfl]; exact sizeOf_u8Q W
  rw [run_sliceAt_slice W 24 _ _ _ _ (by kernel_rfl), run_slice_l W 24 _ _ _ (by kernel_rfl) .i64 (n : Int) (by omega) (by omega), es]
  simp only [Result.andThen, sliced, Int.toNat_natCast, Nat.mul_one]
  split <;> rfl
theorem part_bytes_q {w : World} {x : Addr} {l : List UInt8} {cap n : Nat} (h : IsBytes w (some x) l cap) (hn : n ≤ l.length) : IsBytes w (some (if cap = n then x else x.add n)) (l.drop n) (cap - n) := by
  rcases h with ⟨h, _⟩ | ⟨y, hy, h1, h2, h3⟩
  · cases h
  · obtain rfl := Option.some.inj hy
    refine .inr ⟨_, rfl, by simp; omega, by omega, fun j hj => ?_⟩
    have hj' : j < l.length - n := by simpa using hj
    rw [if_neg (by omega), List.getElem_drop, ← h3 (n + j) (by omega)]
    congr 1
    unfold Addr.add
    by_cases h0 : n = 0
    · subst h0; simp
    · by_cases hj0 : j = 0
      · subst hj0; simp [h0]
      · simp [h0, hj0, Nat.add_assoc]
/-- l from place i on. -/
theorem part_q {w : World} {a : Option Addr} {l : List UInt8} {cap i : Nat} (h : IsBytes w a l cap) (hi : i ≤ l.length) :
    ∃ a' c', (∀ W, (Instr.sliceAt 24 (.slice a l.length cap) (some (.int .i64 (i : Int))) none none).run Tryz.prog W = .ok (.slice a' (l.length - i) c') W) ∧ IsBytes w a' (l.drop i) c' := by
  cases a with
  | some x => exact ⟨_, _, fun W => run_part_q W x l.length cap i hi, part_bytes_q h hi⟩
  | none =>
    rcases h with ⟨_, rfl, rfl⟩ | ⟨x, h, _⟩
    · have h0 : i = 0 := by simpa using hi
      subst h0
      refine ⟨none, 0, fun W => ?_, .inl ⟨rfl, rfl, rfl⟩⟩
      have es : (sizeOf (Tryz.prog.elem 24)).run Tryz.prog W = .ok 1 W := by rw [show Tryz.prog.elem 24 = 5 by kernel_rfl]; exact sizeOf_u8Q W
      rw [run_sliceAt_slice W 24 _ _ _ _ (by kernel_rfl), run_slice_l W 24 _ _ _ (by kernel_rfl) .i64 ((0 : Nat) : Int) (by omega) (by simp), es]
      rfl
    · cases h
theorem loc_from {x y : Operand} (ho : o.op = .slice 24 x (some y) none none) {l : List UInt8} {i : Nat} (hx : BytesV w (a.eval x) l) (hy : a.eval y = .int .i64 i) (hi : i ≤ l.length) (hs : ∀ v, BytesV w v (l.drop i) → s.p v w) :
    o.wp Tryz.prog a w (fun a' w' => ∃ v, a' = a.put o.dst v ∧ Below w.heap.size w w' ∧ s.p v w') Q := by
  obtain ⟨ad, c, h1, h2⟩ := hx
  obtain ⟨a', c', h3, h4⟩ := part_q h2 hi
  refine loc_run (v := .slice a' (l.length - i) c') ?_ (Below.refl _ _) (hs _ ⟨a', c', by rw [List.length_drop], h4⟩)
  unfold execOp
  simp only [ho, h1, hy, Option.map_some, Option.map_none, Sem.run_bind, h3, Result.andThen_ok, Sem.run_pure]
end
end Go.Proofs.YtgmbfiikkogenaaGreatDoor
namespace Go.Proofs.YtgmbfiikkogenaaGreatDoor
open Go.RowKit

def Spec.bytesL (l : List UInt8) : Spec := ⟨fun v w => BytesV w v l, fun _ _ _ h hb => h.keep hb⟩
end Go.Proofs.YtgmbfiikkogenaaGreatDoor
namespace Go.Proofs.YtgmbfiikkogenaaGreatDoor
open Go.RowKit

section
variable {a : Act} {w : World} {o : Oper} {K : Act → World → Prop} {Q : Exit → Act → World → Prop}
end
def Spec.own (B : Nat) (l : List UInt8) : Spec := ⟨fun v w => Own B w v l, fun _ _ _ h hb => h.keep hb⟩
theorem Own.fresh {B : Nat} {w : World} {v : Value} {l : List UInt8} (h : Own B w v l) : BytesF B w v l := by
  obtain ⟨a, c, h1, h2⟩ := h.val
  refine ⟨a, c, h1, h2, fun x hx => ?_⟩
  subst hx h1
  exact (h.lt rfl).1
end Go.Proofs.YtgmbfiikkogenaaGreatDoor
namespace Go.Proofs.YtgmbfiikkogenaaGreatDoor
open Go.RowKit

/-- The row of length N with M at its head. -/
def fillR (M : List UInt8) (N : Nat) : List UInt8 := (M ++ List.replicate N 0).take N
theorem fillR_len (M : List UInt8) (N : Nat) : (fillR M N).length = N := by unfold fillR; rw [List.length_take, List.length_append, List.length_replicate]; omega
theorem fillR_step (M b : List UInt8) (N E : Nat) (hE : E = min N M.length) : splice (fillR M N) E (b.take (N - E)) = fillR (M ++ b) N := by
  unfold splice fillR
  rcases Nat.lt_or_ge M.length N with h | h
  · obtain rfl : E = M.length := by omega
    have e1 : ((M ++ List.replicate N 0).take N).take M.length = M := by rw [List.take_take, Nat.min_eq_left (by omega), List.take_left' rfl]
    have e2 : ((M ++ List.replicate N 0).take N).drop (M.length + (b.take (N - M.length)).length) = List.replicate (N - (M.length + (b.take (N - M.length)).length)) 0 := by
      rw [List.drop_take, List.drop_append, List.drop_of_length_le (by omega), List.nil_append, List.drop_replicate, List.take_replicate]
      congr 1
      rw [List.length_take]; omega
    rw [e1, e2, List.append_assoc, List.take_append, List.take_of_length_le (l := M) (by omega), List.take_append, List.take_replicate]
    congr 3
    rw [List.length_take]; omega
  · obtain rfl : E = N := by omega
    have e1 : (M ++ List.replicate E (0 : UInt8)).take E = M.take E := by rw [List.take_append, Nat.sub_eq_zero_of_le h, List.take_zero, List.append_nil]
    have e2 : (M ++ b ++ List.replicate E 0).take E = M.take E := by rw [List.append_assoc, List.take_append, Nat.sub_eq_zero_of_le h, List.take_zero, List.append_nil]
    rw [e1, e2, Nat.sub_self, List.take_zero, List.length_nil, List.nil_append, List.take_take, Nat.min_self, Nat.add_zero, List.drop_of_length_le (by rw [List.length_take]; omega), List.append_nil]
theorem bytesV_splice (L b : List UInt8) (E : Nat) : bytesV (splice L E b) = splice (bytesV L) E (bytesV b) := by
  unfold splice
  rw [bytesV_append, bytesV_append, bytesV_take, bytesV_drop, bytesV_len]
end Go.Proofs.YtgmbfiikkogenaaGreatDoor
namespace Go.Proofs.YtgmbfiikkogenaaGreatDoor
open Go.RowKit
set_option linter.unusedSimpArgs false
set_option linter.unusedVariables false

@[reducible] def zero32 : Array Value := #[.int .u8 0, .int .u8 0, .int .u8 0, .int .u8 0, .int .u8 0, .int .u8 0, .int .u8 0, .int .u8 0, .int .u8 0, .int .u8 0, .int .u8 0, .int .u8 0, .int .u8 0, .int .u8 0, .int .u8 0, .int .u8 0, .int .u8 0, .int .u8 0, .int .u8 0, .int .u8 0, .int .u8 0, .int .u8 0, .int .u8 0, .int .u8 0, .int .u8 0, .int .u8 0, .int .u8 0, .int .u8 0, .int .u8 0, .int .u8 0, .int .u8 0, .int .u8 0]
theorem zero32_fill : zero32 = (bytesV (fillR [] 32)).toArray := by kernel_rfl
theorem fill32_copy (X : List UInt8) : splice (bytesV (fillR [] 32)) 0 (bytesV (X.take 32)) = bytesV (fillR X 32) := by
  rw [← bytesV_splice, fillR_step [] X 32 0 (by simp), List.nil_append]
theorem fill32_eq {X Y : List UInt8} (h : X.length = Y.length) : fillR X 32 = fillR Y 32 ↔ X.take 32 = Y.take 32 := by
  have e : ∀ Z : List UInt8, fillR Z 32 = Z.take 32 ++ List.replicate (32 - Z.length) 0 := fun Z => by
    unfold fillR
    rw [List.take_append, List.take_replicate, Nat.min_eq_left (Nat.sub_le _ _)]
  rw [e, e, h]
  exact ⟨fun h => List.append_cancel_right h, fun h => by rw [h]⟩
theorem drop32_eq {X Y : List UInt8} {n : Nat} (h : X.length = Y.length) (hn : n = min 32 X.length) (ht : X.take 32 = Y.take 32) : X = Y ↔ X.drop n = Y.drop n := by
  have e : X.take n = Y.take n := by
    rcases Nat.le_total 32 X.length with h1 | h1
    · rw [hn, Nat.min_eq_left h1]; exact ht
    · rw [List.take_of_length_le h1, List.take_of_length_le (by omega)] at ht
      rw [ht]
  constructor
  · intro h; rw [h]
  · intro h2
    rw [← List.take_append_drop n X, ← List.take_append_drop n Y, e, h2]
theorem run_neq_32 (X Y : List UInt8) (w : World) : (binOp .neq 87 (.agg (bytesV (fillR X 32)).toArray) (.agg (bytesV (fillR Y 32)).toArray)).run Tryz.prog w = .ok (.bool (!(fillR X 32 == fillR Y 32))) w := by
  have h := run_equalIn_bytes (P := Tryz.prog) w 9998 87 5 32 Tryz.underlying87 Tryz.underlying5 (fun w => by kernel_rfl) (fillR X 32) (fillR Y 32) (fillR_len _ _) (fillR_len _ _)
  rw [run_neq_struct]
  have e : ∀ l : List UInt8, l.map Extern.Stop.cell = bytesV l := fun l => rfl
  rw [e, e] at h
  rw [h]
  rfl
def lenSl : Value → Nat | .slice _ n _ => n | _ => 0
theorem size32 (l : List UInt8) : (Tryz.prog.info? 87).map (·.size) = some (bytesV (fillR l 32)).toArray.size := by
  rw [List.size_toArray, bytesV_len, fillR_len]
  kernel_rfl

section
variable {ops : Array Oper} {rest : List Oper} {o : Oper} {act : Act} {Q : Exit → Act → World → Prop}
theorem guard32 : Tryz.prog.eqGuardType Tryz.prog.depth 87 = false := by kernel_rfl
theorem wpList_neq_32 (w : World) (hgd : o.guard = none) (x y : Operand) (t : TypeId) (ho : o.op = .binOp .neq 87 x y t) {F G : Array Value} {q : Bool} (hx : act.eval x = .agg F) (hy : act.eval y = .agg G)
    (hrun : (binOp .neq 87 (.agg F) (.agg G)).run Tryz.prog w = .ok (.bool q) w) (hK : wpList Tryz.prog ops Q rest (act.put o.dst (.bool q)) w) : wpList Tryz.prog ops Q (o :: rest) act w := by
  refine wpList_plain hgd fun K' hK' => ?_
  unfold Oper.wp execOp
  simp only [ho, hx, hy, Sem.run_bind, run_eqGuard_agg w .neq 87 x y F G guard32, hrun, Result.andThen_ok, Sem.run_pure]
  exact hK' _ _ hK
end
theorem wpList_copy_apart {P : Program} {w : World} {ops : Array Oper} {rest : List Oper} {o : Oper} {a : Act} {Q : Exit → Act → World → Prop} (hgd : o.guard = none) (d s : Operand) (dT sT : TypeId)
    (ho : o.op = .call { callee := .builtin .copy, args := #[d, s], argTypes := #[dT, sT] }) (elem : TypeId) (hu : P.underlying dT = some (.slice elem)) (hsz : (P.info? elem).map (·.size) = some 1)
    (g dLen dCap : Nat) (sp : Option Addr) (sLen sCap : Nat) (hd : a.eval d = .slice (some ⟨g, 0, none⟩) dLen dCap) (hs : a.eval s = .slice sp sLen sCap)
    (cur : List Value) (t : TypeId) (hg : w.heap[g]? = some (.cells cur.toArray t (0, 0))) (cs : List Value) (hn : cs.length = Nat.min sLen dLen)
    (hsrc : ∃ ad, sp = some ad ∧ ∀ j v, cs[j]? = some v → w.cell? (ad.add j) = some v) (hfit : 0 + cs.length ≤ cur.length) (h1 : ∀ v ∈ cs, v.oneCell' = true)
    (h : ∀ w', Box (w'.heap[g]? = some (.cells (splice cur 0 cs).toArray t (0, 0)) ∧ (∀ k, k ≠ g → w'.heap[k]? = w.heap[k]?) ∧ Below g w w') → wpList P ops Q rest (a.put o.dst (goInt cs.length)) w') :
    wpList P ops Q (o :: rest) a w := by
  obtain ⟨ad, rfl, hsrc⟩ := hsrc
  refine wpList_copy_own hgd d s dT sT ho elem hu hsz g 0 dLen dCap ad sLen sCap hd hs cur.toArray t hg cs hn hsrc (by simpa using hfit) h1 ?_
  exact h _ ⟨show _ = _ by simpa [splice] using setRow_heap w g _ _ t _ hg, fun k hk => setRow_other _ _ _ _ hk, below_setRow (Below.refl _ _) (Nat.le_refl _) _⟩

set_option maxRecDepth 100000 in
set_option maxHeartbeats 4000000 in
theorem dSum_any (x y : List UInt8) (a b : Option Addr) (ca cb : Nat) (w : World) (hx : IsBytes w a x ca) (hy : IsBytes w b y cb) :
    Calls Tryz.prog 28 #[.slice a x.length ca, .slice b y.length cb] w fun e w' => e = .returned (.bool (decide (x = y))) ∧ Below w.heap.size w w' := by
  have HX := Box.mk (And.intro hx hy)
  obtain ⟨r, hr⟩ : ∃ r, decide (x = y) = r := ⟨_, rfl⟩
  have HR := Box.mk hr
  rw [hr]
  clear hx hy hr
  by_cases hl : x.length = y.length
  · have HL := Box.mk hl
    have e0 : ((x.length : Int) != (y.length : Int)) = false := by rw [hl]; simp
    clear hl
    go_enter Tryz.func28, Tryz.ntmps28
    go_wp2_with fail
    go_loopw [0, 1] (fun v u wr => ∃ X Y, Box (BytesV wr v X ∧ BytesV wr u Y ∧ X.length = Y.length ∧ decide (X = Y) = r ∧ Below w.heap.size w wr)) (fun v _ _ => lenSl v)
    case atStart => exact ⟨x, y, ⟨⟨a, ca, rfl, HX.out.1⟩, ⟨b, cb, rfl, HX.out.2⟩, HL.out, HR.out, Below.refl _ _⟩⟩
    case round =>
      clear HX HL e0
      obtain ⟨X, Y, ⟨⟨a1, c1, rfl, h1⟩, ⟨b1, c2, rfl, h2⟩, h3, h4, h5⟩⟩ := hrel
      have HI := Box.mk (And.intro h1 h2)
      have HL := Box.mk h3
      have HE := Box.mk h4
      have HB := Box.mk h5
      clear h1 h2 h3 h4 h5
      by_cases hlt : 0 < X.length
      · have e1 : ((X.length : Int) > 0) = True := by simp; omega
        go_upto_region 5 with fail
        obtain ⟨g, hg⟩ : ∃ g, g = wr.heap.size := ⟨_, rfl⟩
        have HG := Box.mk hg
        obtain ⟨W, hW⟩ : ∃ W, W = (wr.alloc (.cells zero32 87)).alloc (.cells zero32 87) := ⟨_, rfl⟩
        have HBW := Box.mk (show Below g wr W by rw [hW, hg]; exact below_twoF (below_oneF wr _) _)
        have HA := Box.mk (show W.heap[g]? = some (.cells (bytesV (fillR [] 32)).toArray 87 (0, 0)) by rw [hW, hg, ← zero32_fill]; exact (VarA.new wr zero32 87).below _)
        have HC := Box.mk (show W.heap[g + 1]? = some (.cells (bytesV (fillR [] 32)).toArray 87 (0, 0)) by rw [hW, hg, ← zero32_fill]; have := VarA.new (wr.alloc (.cells zero32 87)) zero32 87; rw [World.size_alloc] at this; exact this)
        rw [← hW, ← hg]
        clear hW hg
        have HI1 := Box.mk (And.intro (HI.out.1.keep (HG.out ▸ HBW.out)) (HI.out.2.keep (HG.out ▸ HBW.out)))
        obtain ⟨C, HCC⟩ : ∃ C, Box (C = bytesV (X.take 32)) := ⟨_, ⟨rfl⟩⟩
        obtain ⟨n, HN⟩ : ∃ n, Box (C.length = n ∧ n = min 32 X.length) := ⟨_, ⟨rfl, by rw [HCC.out, bytesV_len, List.length_take]⟩⟩
        have hnX : n ≤ X.length := by have := HN.out.2; omega
        have hn0 : 0 < n := by have := HN.out.2; omega
        have hp0 : 0 < C.length := by have := HN.out.1; omega
        have HP := Box.mk (show ∃ ad, a1 = some ad ∧ ∀ j v, C[j]? = some v → W.cell? (ad.add j) = some v by rw [HCC.out] at hp0 ⊢; exact copy_src HI1.out.1 hp0)
        clear hp0
        have HONE := Box.mk (show ∀ v ∈ C, v.oneCell' = true by rw [HCC.out]; exact bytesV_oneQ _)
        have HMIN := Box.mk (show C.length = Nat.min X.length 32 by rw [HN.out.1, HN.out.2]; exact Nat.min_comm _ _)
        have HFIT := Box.mk (show 0 + C.length ≤ (bytesV (fillR [] 32)).length by rw [bytesV_len, fillR_len]; have := HN.out; omega)
        have HST := Box.mk (show splice (bytesV (fillR [] 32)) 0 C = bytesV (fillR X 32) by rw [HCC.out, fill32_copy])
        obtain ⟨D, HDD⟩ : ∃ D, Box (D = bytesV (Y.take 32)) := ⟨_, ⟨rfl⟩⟩
        have HND := Box.mk (show D.length = n by rw [HDD.out, bytesV_len, List.length_take, HN.out.2, HL.out])
        have HONED := Box.mk (show ∀ v ∈ D, v.oneCell' = true by rw [HDD.out]; exact bytesV_oneQ _)
        have HMIND := Box.mk (show D.length = Nat.min Y.length 32 by rw [HND.out, HN.out.2, HL.out]; exact Nat.min_comm _ _)
        have HFITD := Box.mk (show 0 + D.length ≤ (bytesV (fillR [] 32)).length by rw [bytesV_len, fillR_len, HND.out]; have := HN.out; omega)
        have HSTD := Box.mk (show splice (bytesV (fillR [] 32)) 0 D = bytesV (fillR Y 32) by rw [HDD.out, fill32_copy])
        go_upto_region 6 with (refine wpList_copy_apart rfl (.tmp 16) (.tmp 17) 24 24 rfl 5 Tryz.underlying24 u8_sizeQ g _ _ _ _ _ rfl rfl (bytesV (fillR [] 32)) 87 HA.out C HMIN.out HP.out HFIT.out HONE.out ?_; intro W1 HW1; rw [HN.out.1])
        have HR1 := Box.mk (show W1.heap[g]? = some (.cells (bytesV (fillR X 32)).toArray 87 (0, 0)) by rw [← HST.out]; exact HW1.out.1)
        have HC1 := Box.mk (show W1.heap[g + 1]? = some (.cells (bytesV (fillR [] 32)).toArray 87 (0, 0)) by rw [HW1.out.2.1 (g + 1) (by omega)]; exact HC.out)
        have HBW1 := Box.mk (show Below g wr W1 from HBW.out.trans HW1.out.2.2)
        have HP1 := Box.mk (show ∃ ad, b1 = some ad ∧ ∀ j v, D[j]? = some v → W1.cell? (ad.add j) = some v by
          have hp0 : 0 < D.length := by have := HND.out; omega
          rw [HDD.out] at hp0 ⊢
          exact copy_src (HI.out.2.keep (HG.out ▸ HBW1.out)) hp0)
        clear HW1 HA HC HBW HP HI1 HONE HMIN HFIT HST HCC
        go_upto_region 7 with (refine wpList_copy_apart rfl (.tmp 19) (.tmp 20) 24 24 rfl 5 Tryz.underlying24 u8_sizeQ (g + 1) _ _ _ _ _ rfl rfl (bytesV (fillR [] 32)) 87 HC1.out D HMIND.out HP1.out HFITD.out HONED.out ?_; intro W2 HW2)
        have HR2 := Box.mk (show W2.heap[g]? = some (.cells (bytesV (fillR X 32)).toArray 87 (0, 0)) by rw [HW2.out.2.1 g (by omega)]; exact HR1.out)
        have HC2 := Box.mk (show W2.heap[g + 1]? = some (.cells (bytesV (fillR Y 32)).toArray 87 (0, 0)) by rw [← HSTD.out]; exact HW2.out.1)
        have HBW2 := Box.mk (show Below wr.heap.size wr W2 from HG.out ▸ HBW1.out.trans (show Below g W1 W2 from ⟨HW2.out.2.2.os, HW2.out.2.2.tape, HW2.out.2.2.output, HW2.out.2.2.size, fun k hk => HW2.out.2.2.block k (by omega)⟩))
        have HI2 := Box.mk (And.intro (HI.out.1.keep HBW2.out) (HI.out.2.keep HBW2.out))
        have HB2 := Box.mk (below_trans HB.out HBW2.out)
        clear HW2 HR1 HC1 HBW1 HP1 HONED HMIND HFITD HSTD HDD HND
        obtain ⟨F, HF⟩ : ∃ F, Box (F = (bytesV (fillR X 32)).toArray) := ⟨_, ⟨rfl⟩⟩
        obtain ⟨G, HGG⟩ : ∃ G, Box (G = (bytesV (fillR Y 32)).toArray) := ⟨_, ⟨rfl⟩⟩
        obtain ⟨q, HQ⟩ : ∃ q, Box ((!(fillR X 32 == fillR Y 32)) = q) := ⟨_, ⟨rfl⟩⟩
        rw [← HF.out] at HR2
        rw [← HGG.out] at HC2
        have HNEQ := Box.mk (show (binOp .neq 87 (.agg F) (.agg G)).run Tryz.prog W2 = .ok (.bool q) W2 by rw [HF.out, HGG.out, run_neq_32, HQ.out])
        have HSF := Box.mk (show (Tryz.prog.info? 87).map (·.size) = some F.size by rw [HF.out]; exact size32 X)
        have HSG := Box.mk (show (Tryz.prog.info? 87).map (·.size) = some G.size by rw [HGG.out]; exact size32 Y)
        cases q
        · go_upto_region 9 with (first | (refine wpList_load_row rfl 87 (.tmp 5) rfl g rfl 87 F (0, 0) _ HR2.out Tryz.underlying87 rfl HSF.out ?_) | (refine wpList_load_row rfl 87 (.tmp 6) rfl (g + 1) rfl 87 G (0, 0) _ HC2.out Tryz.underlying87 rfl HSG.out ?_) | (refine wpList_neq_32 _ rfl _ _ _ rfl rfl rfl HNEQ.out ?_))
          have HFE := Box.mk (show fillR X 32 = fillR Y 32 by have h := HQ.out; simpa using h)
          have HE2 := Box.mk (show decide (X.drop n = Y.drop n) = r by rw [← HE.out, decide_eq_decide]; exact (drop32_eq HL.out HN.out.2 ((fill32_eq HL.out).1 HFE.out)).symm)
          have HL2 := Box.mk (show (X.drop n).length = (Y.drop n).length by rw [List.length_drop, List.length_drop, HL.out])
          have hnY : n ≤ Y.length := by rw [← HL.out]; exact hnX
          clear HNEQ HSF HSG HQ HFE HF HGG HR2 HC2 HE HI
          refine wp_region_phasesW [] (fun _ => [0, 1, 2, 3, 4, 5, 6, 7])
            (fun _ => [.val (.slice a1 X.length c1), .val (.int .i64 n), .bytesL (X.drop n), .val (.slice b1 Y.length c2), .val (.int .i64 n), .bytesL (Y.drop n), .bytesL (X.drop n), .bytesL (Y.drop n)])
            (fun _ => fun wx => Below W2.heap.size W2 wx)
            (by kernel_rfl) (by kernel_rfl) (by kernel_rfl) (by kernel_rfl) (by kernel_rfl) (by kernel_rfl) ?_ (Below.refl _ _) ?_ ?_ ?_
          · intro ph w6 w7 h hb
            exact below_trans h hb
          · intro ph hph
            refine ⟨?_, ?_, ?_, ?_, ?_, ?_, ?_, ?_, trivial⟩ <;> intro a6 w6 hv hf hd
            · exact ⟨wanted_none rfl, loc_move rfl (hf.base 0 rfl)⟩
            · exact ⟨wanted_none rfl, loc_move rfl (hf.base 7 rfl)⟩
            · exact ⟨wanted_none rfl, loc_from rfl ⟨a1, c1, hd 0 rfl, HI2.out.1.keep hv⟩ (hd 1 rfl) hnX fun v h => h⟩
            · exact ⟨wanted_none rfl, loc_move rfl (hf.base 1 rfl)⟩
            · exact ⟨wanted_none rfl, loc_move rfl (hf.base 7 rfl)⟩
            · exact ⟨wanted_none rfl, loc_from rfl ⟨b1, c2, hd 3 rfl, HI2.out.2.keep hv⟩ (hd 4 rfl) hnY fun v h => h⟩
            · exact ⟨wanted_none rfl, loc_assign rfl (hd 2 rfl)⟩
            · exact ⟨wanted_none rfl, loc_assign rfl (hd 5 rfl)⟩
          · intro ph hph
            exact absurd hph (Nat.not_lt_zero _)
          · intro a2 w10 hv hf hh
            obtain ⟨a3, c3, e6, h6⟩ := (show BytesV w10 (a2.eval (.tmp 0)) (X.drop n) from hh 6 (by decide))
            obtain ⟨b3, c4, e7, h7⟩ := (show BytesV w10 (a2.eval (.tmp 1)) (Y.drop n) from hh 7 (by decide))
            have HN3 := Box.mk (show BytesV w10 (.slice a3 (X.drop n).length c3) (X.drop n) ∧ BytesV w10 (.slice b3 (Y.drop n).length c4) (Y.drop n) ∧ (X.drop n).length = (Y.drop n).length ∧ decide (X.drop n = Y.drop n) = r ∧ Below w.heap.size w w10 from ⟨⟨a3, c3, rfl, h6⟩, ⟨b3, c4, rfl, h7⟩, HL2.out, HE2.out, below_trans HB2.out hv⟩)
            obtain ⟨X2, HX2⟩ : ∃ X2, Box (X2 = X.drop n) := ⟨_, ⟨rfl⟩⟩
            have hlt2 : X2.length < X.length := by rw [HX2.out, List.length_drop]; omega
            obtain ⟨Y2, HY2⟩ : ∃ Y2, Box (Y2 = Y.drop n) := ⟨_, ⟨rfl⟩⟩
            rw [← HX2.out] at e6 HN3
            rw [← HY2.out] at e7 HN3
            rw [fr_putAll hf]
            simp only [putAll, e6, e7]
            clear hf hh e6 e7 h6 h7 HL2 HE2
            generalize a2.eval (.tmp 25) = t25
            generalize a2.eval (.tmp 26) = t26
            generalize a2.eval (.tmp 27) = t27
            generalize a2.eval (.tmp 28) = t28
            generalize a2.eval (.tmp 29) = t29
            generalize a2.eval (.tmp 30) = t30
            clear a2
            simp only [Act.put, List.setIfInBounds_toArray, List.set_cons_succ, List.set_cons_zero]
            (try simp only [Exit.inBlock, Exit.then])
            go_roundw
            case rel => exact ⟨_, _, _, _, _, _, _, _, _, _, _, _, _, _, _, _, _, _, _, _, _, _, _, _, ⟨X2, Y2, HN3⟩, rfl⟩
            case measure => simp [lenSl]; omega
        · go_wp2_with (first | (refine wpList_load_row rfl 87 (.tmp 5) rfl g rfl 87 F (0, 0) _ HR2.out Tryz.underlying87 rfl HSF.out ?_) | (refine wpList_load_row rfl 87 (.tmp 6) rfl (g + 1) rfl 87 G (0, 0) _ HC2.out Tryz.underlying87 rfl HSG.out ?_) | (refine wpList_neq_32 _ rfl _ _ _ rfl rfl rfl HNEQ.out ?_))
          go_ret
          refine ⟨ret_bool ?_, HB2.out⟩
          have hne : ¬ fillR X 32 = fillR Y 32 := by have h := HQ.out; simpa using h
          rw [← HE.out, decide_eq_false fun h => hne (by rw [h])]
      · go_wp2_with fail
        go_ret
        exact ⟨by have hX : X = [] := List.eq_nil_of_length_eq_zero (by omega); have hY : Y = [] := List.eq_nil_of_length_eq_zero (by rw [← HL.out, hX]; rfl); exact ret_bool (by rw [← HE.out, hX, hY]; rfl), HB.out⟩
  · have e0 : ((x.length : Int) != (y.length : Int)) = true := by rw [bne_iff_ne]; omega
    have HF := Box.mk (show r = false by rw [← HR.out]; exact decide_eq_false fun h => hl (by rw [h]))
    clear hl
    go_enter Tryz.func28, Tryz.ntmps28
    go_wp2_with fail
    go_ret
    exact ⟨by rw [HF.out]; rfl, Below.refl _ _⟩
end Go.Proofs.YtgmbfiikkogenaaGreatDoor
namespace Go.Proofs.YtgmbfiikkogenaaGreatDoor
open Go.RowKit

def LastSk (P : Program) (Q : Exit → Act → World → Prop) (ops : Array Oper) (S : List Spec) (a0 : Act) (w0 : World) (st : Nat) : Prop :=
  match ops[st]? with
  | some o => ∀ a w, Below w0.heap.size w0 w → Fr ops a0 a → (∀ j, j < ops.size → j ≠ st → Holds ops S a w j) → Region.wanted o (yielded ops a.tmps) = true ∧ o.wp P a w (fun a' w' => Q .normal a' w') Q
  | none => False
section
variable {P : Program} {Q : Exit → Act → World → Prop} {ops : Array Oper} {a0 : Act} {w0 : World}
theorem wp_region_skip_last {id : Nat} (S : List Spec) (st : Nat) (hm : P.follows .mixedOrders = true)
    (hB : (List.range ops.size).all (fun i => match ops[i]? with | some x => x.after.all (fun e => !Region.binds .any e || decide (e.on < i)) | none => true) = true)
    (hd : dstsOk ops a0.tmps.size = true) (hl : lateB ops st [] = true) (hst : decide (st + 1 = ops.size) = true)
    (h : StepsSk P Q ops S a0 w0 (ops.toList.take st) S) (hS : LastSk P Q ops S a0 w0 st) : (Code.region id ops true).wp P Q a0 w0 := by
  have hst := of_decide_eq_true hst
  have hstlt : st < ops.size := by omega
  have hosto : ops[st]? = some ops[st] := Array.getElem?_eq_getElem hstlt
  unfold LastSk at hS
  rw [hosto] at hS
  simp only at hS
  have hwait : ∀ i, i < ops.size → i ≠ st → waitsFor ops[st] i = true := fun i hi hne => by
    have := List.all_eq_true.1 hl i (List.mem_range.2 hi)
    rw [hosto] at this
    simp only [Bool.or_eq_true, decide_eq_true_eq, List.contains_nil, Bool.false_eq_true, or_false] at this
    rcases this with h3 | h3
    · exact absurd h3 hne
    · exact h3
  refine wp_region_inv hm (fun m a w => (m.getD st false = false ∧ Fr ops a0 a ∧ Below w0.heap.size w0 w ∧ ∀ j, m.getD j false = true → Holds ops S a w j) ∨
    (m.getD st false = true ∧ Q .normal a w ∧ ∀ j, waitsFor ops[st] j = true → m.getD j false = true)) ?_ ?_ ?_
  · rintro m a w hs hh i hi
    obtain ⟨h1, o, ho, hall⟩ := mem_ready.1 hi
    have hil : i < ops.size := (Array.getElem?_eq_some_iff.1 ho).1
    have hmi : m.getD i false = false := by
      have hs' : i < m.size := by rw [hs]; exact hil
      simp [hs'] at h1 ⊢; exact h1
    have hdeps : ∀ j, waitsFor o j = true → m.getD j false = true := fun j hj => by
      obtain ⟨e, he, h2⟩ := List.any_eq_true.1 hj
      simp only [Bool.and_eq_true, beq_iff_eq] at h2
      obtain ⟨h3, rfl⟩ := h2
      exact hall e (Array.mem_toList_iff.1 he) h3
    unfold wpOp
    simp only [ho]
    by_cases hist : i = st
    · subst hist
      have hoe : o = ops[i] := Option.some.inj (ho.symm.trans hosto)
      subst hoe
      rcases hh with ⟨_, hf, hb, hh⟩ | ⟨h2, _⟩
      · obtain ⟨hw, hwp⟩ := hS a w hb hf fun j hj hne => hh j (hdeps j (hwait j hj hne))
        rw [if_pos hw]
        refine .inl (Oper.wp_mono ?_ hwp)
        intro a' w' hq
        have hsz : i < m.size := by rw [hs]; exact hil
        exact .inr ⟨by simp [hsz], hq, fun j hj => getD_set_true (hdeps j hj)⟩
      · rw [hmi] at h2; cases h2
    · rcases hh with ⟨h2, hf, hb, hh⟩ | ⟨h2, hp, hall2⟩
      · obtain ⟨s, hsi, hstep⟩ := stepsSk_at h i o (by rw [List.getElem?_take_of_lt (by omega)]; simpa using ho)
        have hstp := hstep a w hb hf fun j hj => hh j (hdeps j hj)
        have common : ∀ v w', Below w.heap.size w w' → s.p v w' → ((m.setIfInBounds i true).getD st false = false ∧ Fr ops a0 (a.put o.dst v) ∧ Below w0.heap.size w0 w' ∧ ∀ j, (m.setIfInBounds i true).getD j false = true → Holds ops S (a.put o.dst v) w' j) := by
          intro v w' hb' hsp
          refine ⟨by rw [getD_set_ne false hist]; exact h2, fr_put ho hf v, hb.trans (hb'.mono hb.size), fun j hj => ?_⟩
          by_cases hji : j = i
          · subst hji
            unfold Holds
            simp only [ho, hsi]
            cases hdo : o.dst with
            | none => trivial
            | some d =>
              show s.p ((a.put (some d) v).eval (.tmp d)) w'
              rw [eval_put_same]
              · exact hsp
              · rw [hf.size]; exact (dsts_lt hd ho hdo).1
          · have hj' : m.getD j false = true := by rw [getD_set_ne false (fun e => hji e.symm)] at hj; exact hj
            exact holds_put hd ho hji (holds_mono (hh j hj') hb')
        rcases hstp with ⟨hw, hwp⟩ | ⟨hw, hsany⟩
        · rw [if_pos hw]
          refine .inl (Oper.wp_mono ?_ hwp)
          rintro a' w' ⟨v, rfl, hb', hsp⟩
          exact .inl (common v w' hb' hsp)
        · rw [if_neg (by rw [hw]; decide)]
          exact .inl (common undef w (Below.refl _ _) (by rw [hsany]; trivial))
      · have := hall2 i (hwait i hil hist)
        rw [hmi] at this; cases this
  · rintro m a w hs hh hr
    have hmarked : ∀ j, j < ops.size → m.getD j false = true := fun j => by
      induction j using Nat.strongRecOn with
      | _ j ih =>
        intro hj
        cases hmj : m.getD j false with
        | true => rfl
        | false =>
          exfalso
          have hoj : ops[j]? = some ops[j] := Array.getElem?_eq_getElem hj
          have hbk := List.all_eq_true.1 hB j (List.mem_range.2 hj)
          rw [hoj] at hbk
          simp only [Array.all_eq_true_iff_forall_mem, Bool.or_eq_true, Bool.not_eq_true', decide_eq_true_eq] at hbk
          have hlt : ∀ e ∈ ops[j].after, Region.binds .any e = true → e.on < j := fun e he hbd => by
            rcases hbk e he with h | h
            · rw [hbd] at h; cases h
            · exact h
          have : j ∈ Region.ready .any ops m := mem_ready.2 ⟨by
            have hs' : j < m.size := by rw [hs]; exact hj
            simp [hs'] at hmj ⊢; exact hmj, ops[j], hoj, fun e he hbd => ih _ (hlt e he hbd) (by have := hlt e he hbd; omega)⟩
          rw [hr] at this; cases this
    rcases hh with ⟨h2, _⟩ | ⟨_, hp, _⟩
    · rw [hmarked st hstlt] at h2; cases h2
    · exact hp
  · refine .inl ⟨?_, ⟨rfl, rfl, fun _ _ => rfl⟩, (Below.refl _ _).drew, fun j hj => ?_⟩
    · simp only [Array.getD_eq_getD_getElem?, Array.getElem?_replicate]; split <;> rfl
    · exfalso
      simp only [Array.getD_eq_getD_getElem?, Array.getElem?_replicate] at hj
      split at hj <;> simp at hj
end
end Go.Proofs.YtgmbfiikkogenaaGreatDoor
namespace Go.Proofs.YtgmbfiikkogenaaGreatDoor
open Go.RowKit

/-- The two tables as the text lays them. -/
structure DTabs (w : World) : Prop where
  k : RowAt w 1 kkV
  i : RowAt w 0 initS.cells
theorem DTabs.keep {w w' : World} (h : DTabs w) (hb : Below w.heap.size w w') : DTabs w' := ⟨h.k.keep hb, h.i.keep hb⟩

theorem of_v (ls : List (List UInt8)) (M : List UInt8) (v : Value) (w : World) (hv : SlcV w v ls) (hn : ls.length ≤ 2) (hM : ls.flatten = M) (hL : M.length ≤ 70368744177664) (ht : DTabs w) :
    Calls Tryz.prog 24 #[v] w fun e w' => ∃ v', e = .returned v' ∧ Below w.heap.size w w' ∧ BytesV w' v' (sumS M) := by
  obtain ⟨a, c, rfl, hs⟩ := hv
  refine (digOf_any ls a c w hs (by omega) (by rw [hM]; exact hL) ht.k ht.i).mono ?_
  rintro e w' ⟨v', rfl, h⟩
  rw [hM] at h
  exact ⟨v', rfl, h.2, h.bytesV⟩
end Go.Proofs.YtgmbfiikkogenaaGreatDoor
namespace Go.Proofs.YtgmbfiikkogenaaGreatDoor
open Go.RowKit
set_option linter.unusedSimpArgs false
set_option linter.unusedVariables false

/-- The tables that See asks for. -/
structure DfT (w : World) (mm : Int) : Prop where
  mx : MaxOk w mm
  tb : DTabs w
theorem DfT.keep {w w' : World} {mm : Int} (h : DfT w mm) (hb : Below w.heap.size w w') : DfT w' mm := ⟨h.mx.keep hb, h.tb.keep hb⟩
/-- Fields of which Compare may be asked. -/
def LS (l : List Fld) : Prop := l.length ≤ 1000 ∧ ShortF l
theorem ls_fields {l : List Fld} {ig : List ByteArray} (h : MedF l) : LS (fieldsN l ig) := by
  refine ⟨Nat.le_trans (fieldsN_len l ig) h.2.1, fun f hf => ?_⟩
  unfold fieldsN outN at hf
  rw [List.mem_map] at hf
  obtain ⟨n, hn, rfl⟩ := hf
  rw [namesS_mem, List.mem_map] at hn
  obtain ⟨g, hg, rfl⟩ := hn
  have h1 := h.1 g (keptN_mem hg).1
  have h2 := joinS_size (valuesL (keptN l ig) (lowS g.1))
  have h3 := Nat.le_trans (total_kept l ig (lowS g.1)) (h.totals _)
  refine ⟨by rw [lowS_size]; unfold maxLen; omega, ?_⟩
  unfold maxLen
  simp only
  omega
section
variable {Q : Exit → Act → World → Prop} {act : Act} {w : World} {o : Oper} {s : Spec}
theorem loc_neqD {x y : Operand} {t : TypeId} (ho : o.op = .binOp .neq 3 x y t) {n m : Int} {q : Bool} (hx : act.eval x = .int .i64 n) (hy : act.eval y = .int .i64 m) (hn : (n != m) = q) (hs : s.p (.bool q) w) :
    o.wp Tryz.prog act w (fun a' w' => ∃ v, a' = act.put o.dst v ∧ Below w.heap.size w w' ∧ s.p v w') Q :=
  loc_run (v := .bool q) (by
    unfold execOp
    simp [ho, hx, hy, eqGuard, binOp, Op.intCmp, ← hn, bne]) (Below.refl _ _) hs
theorem loc_notD {x : Operand} {t : TypeId} (ho : o.op = .unOp .not t x) {b q : Bool} (hx : act.eval x = .bool b) (hq : (!b) = q) (hs : s.p (.bool q) w) :
    o.wp Tryz.prog act w (fun a' w' => ∃ v, a' = act.put o.dst v ∧ Below w.heap.size w w' ∧ s.p v w') Q :=
  loc_run (v := .bool q) (by
    unfold execOp
    subst hq
    simp [ho, hx, Op.unary]) (Below.refl _ _) hs
theorem loc_buildDf {x y z : Operand} (ho : o.op = .build 37 #[(0, x), (1, y), (2, z)]) {a b : Bool} {fa : Option Addr} {n fc : Nat} (hx : act.eval x = .bool a) (hy : act.eval y = .bool b) (hz : act.eval z = .slice fa n fc)
    (hs : s.p (.agg #[.bool a, .bool b, .slice fa n fc]) w) :
    o.wp Tryz.prog act w (fun a' w' => ∃ v, a' = act.put o.dst v ∧ Below w.heap.size w w' ∧ s.p v w') Q := by
  refine loc_run (v := .agg #[.bool a, .bool b, .slice fa n fc]) ?_ (Below.refl _ _) hs
  have hb := run_build (P := Tryz.prog) w 37 #[(0, .bool a), (1, .bool b), (2, .slice fa n fc)] #[.bool a, .bool b, .slice fa n fc] (by kernel_rfl)
  unfold execOp
  simp only [ho, List.map_toArray, List.map_cons, List.map_nil, hx, hy, hz, Sem.run_bind, hb, Result.andThen_ok, Sem.run_pure]
end
theorem nFields_vD {l F : List Fld} {ig : List ByteArray} {a b : Option Addr} {cap cb : Nat} {v u : Value} (w : World) (mm : Int) (hmx : MaxOk w mm) (hv : v = .slice a l.length cap) (hu : u = .slice b ig.length cb) (h : FldsC w a l cap) (hc : l.length ≤ cap) (hm : MedF l) (hi : StrsC w b ig cb) (hiz : ∀ x ∈ ig, x.size ≤ maxLen) (hil : ig.length ≤ 1000) (hF : fieldsN l ig = F) :
    Calls Tryz.prog 23 #[v, u] w fun e w' => ∃ v', e = .returned v' ∧ Below w.heap.size w w' ∧ ∃ a c, v' = .slice a F.length c ∧ FldsC w' a F c ∧ F.length ≤ c := by
  subst hv hu hF
  refine (nFields_any l ig a b cap cb w mm hmx h hc hm hi hiz hil).mono ?_
  rintro e w' ⟨ra, rc, rfl, h1, h2, h3⟩
  exact ⟨_, rfl, h3, ra, rc, rfl, h1, h2⟩
theorem dSum_vD {x y : List UInt8} {z : Bool} {a b : Option Addr} {ca cb : Nat} {v u : Value} (w : World) (hv : v = .slice a x.length ca) (hu : u = .slice b y.length cb) (hx : IsBytes w a x ca) (hy : IsBytes w b y cb) (hz : decide (x = y) = z) :
    Calls Tryz.prog 28 #[v, u] w fun e w' => ∃ v', e = .returned v' ∧ Below w.heap.size w w' ∧ v' = .bool z := by
  subst hv hu hz
  refine (dSum_any x y a b ca cb w hx hy).mono ?_
  rintro e w' ⟨rfl, h⟩
  exact ⟨_, rfl, h, rfl⟩
theorem dNames_vD {x y : List Fld} {F : List ByteArray} {a b : Option Addr} {ca cb : Nat} {v u : Value} (w : World) (hv : v = .slice a x.length ca) (hu : u = .slice b y.length cb) (hx : FldsC w a x ca) (hy : FldsC w b y cb) (hxl : LS x) (hyl : LS y) (hF : fsD x y = F) :
    Calls Tryz.prog 29 #[v, u] w fun e w' => ∃ v', e = .returned v' ∧ Below w.heap.size w w' ∧ ∃ a c, v' = .slice a F.length c ∧ StrsC w' a F c := by
  subst hv hu hF
  refine (dNames_any x y a b ca cb w hx hy hxl.2 hyl.2 hxl.1 hyl.1).mono ?_
  rintro e w' ⟨ra, rc, rfl, h1, h2⟩
  exact ⟨_, rfl, h2, ra, rc, rfl, h1⟩

set_option maxRecDepth 100000 in
set_option maxHeartbeats 4000000 in
theorem dSee_any (r : Rp) (p : SnP) (ig : List ByteArray) (ia : Option Addr) (ic : Nat) (w : World) (mm : Int) (hdt : DfT w mm) (h : RpIn w r p) (hm : MedF r.fs) (hi : StrsC w ia ig ic) (hiz : ∀ x ∈ ig, x.size ≤ maxLen) (hil : ig.length ≤ 1000) (hbl : r.body.length ≤ 1000000000) :
    Calls Tryz.prog 11 #[r.v p, .slice ia ig.length ic] w fun e w' => ∃ q, e = .returned ((seeV r.st r.fs r.body ig).v q) ∧ SnIn w' (seeV r.st r.fs r.body ig) q ∧ Below w.heap.size w w' := by
  obtain ⟨st, rs, mi, fs, body⟩ := r
  obtain ⟨fa, fc, ba, bc⟩ := p
  obtain ⟨W, hW⟩ : ∃ W, W = (w.alloc (.cells #[.int .i64 st, .string rs, .int .i64 mi, .slice fa fs.length fc, .slice ba body.length bc] 26)).alloc (.cells #[.int .i64 0, .slice none 0 0, .int .i64 0, .slice none 0 0] 32) := ⟨_, rfl⟩
  have HB := Box.mk (show Below w.heap.size w W by rw [hW]; exact below_twoF (below_oneF w _) _)
  have HA := Box.mk (show VarA W w.heap.size #[.int .i64 st, .string rs, .int .i64 mi, .slice fa fs.length fc, .slice ba body.length bc] 26 by rw [hW]; exact (VarA.new _ _ _).below _)
  have HU := Box.mk (show VarA W (w.heap.size + 1) #[.int .i64 0, .slice none 0 0, .int .i64 0, .slice none 0 0] 32 by rw [hW]; have := VarA.new (w.alloc (.cells #[.int .i64 st, .string rs, .int .i64 mi, .slice fa fs.length fc, .slice ba body.length bc] 26)) #[.int .i64 0, .slice none 0 0, .int .i64 0, .slice none 0 0] 32; rw [World.size_alloc] at this; exact this)
  have HI := Box.mk (And.intro (h.keep HB.out) (And.intro hm (And.intro (hi.keep HB.out) (And.intro hiz hil))))
  have HDT := Box.mk (hdt.keep HB.out)
  simp only at hbl
  have hbl2 : body.length ≤ 70368744177664 := by omega
  obtain ⟨F, hF⟩ : ∃ F, fieldsN fs ig = F := ⟨_, rfl⟩
  have HF := Box.mk hF
  have HS := Box.mk (show seeV st fs body ig = ⟨st, F, body.length, sumS body⟩ by unfold seeV; rw [hF])
  simp only
  rw [HS.out]
  clear h hm hi hiz hil hF hdt
  unfold Rp.v
  simp only
  go_enter Tryz.func11, Tryz.ntmps11
  go_upto_region 1 with fail
  change Code.wp _ _ _ _ ((w.alloc (.cells #[.int .i64 st, .string rs, .int .i64 mi, .slice fa fs.length fc, .slice ba body.length bc] 26)).alloc (.cells #[.int .i64 0, .slice none 0 0, .int .i64 0, .slice none 0 0] 32))
  rw [← hW]
  clear hW
  generalize hg : w.heap.size = g at *
  have HG := Box.mk hg
  clear hg
  have hgl : g + 1 < W.heap.size := HU.out.lt
  rename_i K hK
  refine wp_region_phases [14] (fun ph => match ph with | 0 => [0, 1, 2, 3, 4, 5, 6, 7, 8, 9, 10, 11, 12, 13] | _ => [])
    (fun ph => match ph with
      | 0 => [.val (.pointer (some ⟨g, 0, none⟩)), .val (.int .i64 st), .val (.pointer (some ⟨g, 3, none⟩)), .val (.slice fa fs.length fc), .val (.slice ia ig.length ic), .fldC F, .val (.pointer (some ⟨g, 4, none⟩)), .val (.slice ba body.length bc), .val (.int .i64 (body.length : Int)), .val (.pointer (some ⟨g, 4, none⟩)), .val (.slice ba body.length bc), .slc [body], .bytD (sumS body), .seenD ⟨st, F, body.length, sumS body⟩, .any]
      | _ => [.any, .any, .any, .any, .any, .any, .any, .any, .any, .any, .any, .any, .any, .any, .any])
    (fun ph => match ph with
      | 0 => fun wx => Below W.heap.size W wx
      | _ => fun wx => Below w.heap.size w wx ∧ ∃ q, VarA wx (g + 1) (Sn.cells ⟨st, F, body.length, sumS body⟩ q) 32 ∧ SnIn wx ⟨st, F, body.length, sumS body⟩ q)
    (by kernel_rfl) (by kernel_rfl) (by kernel_rfl) (by kernel_rfl) (by kernel_rfl) (by kernel_rfl) ?_ (Below.refl _ _) ?_ ?_ ?_
  · intro ph w6 w7 h hb
    match ph, h with
    | 0, h => exact below_trans h hb
    | (_ + 1), h =>
      obtain ⟨h1, q, h2, h3⟩ := h
      exact ⟨below_trans h1 hb, q, h2.keep hb, h3.keep hb⟩
  · intro ph hp
    match ph, hp with
    | 0, _ =>
      refine ⟨?_, ?_, ?_, ?_, ?_, ?_, ?_, ?_, ?_, ?_, ?_, ?_, ?_, ?_, trivial⟩ <;> intro a1 w6 hv hf hd
      · exact ⟨wanted_none rfl, loc_fieldRp rfl (hf.base 2 rfl) (by decide) rfl⟩
      · exact ⟨wanted_none rfl, loc_load_cellG rfl (hd 0 rfl) ((HA.out.keep hv).cell rfl) agg_intD rfl⟩
      · exact ⟨wanted_none rfl, loc_fieldRp rfl (hf.base 2 rfl) (by decide) rfl⟩
      · exact ⟨wanted_none rfl, loc_load_cellG rfl (hd 2 rfl) ((HA.out.keep hv).cell rfl) agg_fieldsD rfl⟩
      · exact ⟨wanted_none rfl, loc_move rfl (hf.base 1 rfl)⟩
      · exact ⟨wanted_none rfl, loc_call rfl (by kernel_rfl) (nFields_vD w6 mm (HDT.out.keep hv).mx (hd 3 rfl) (hd 4 rfl) (HI.out.1.keep hv).1 (HI.out.1.keep hv).2.1 HI.out.2.1 (HI.out.2.2.1.keep hv) HI.out.2.2.2.1 HI.out.2.2.2.2 HF.out)⟩
      · exact ⟨wanted_none rfl, loc_fieldRp rfl (hf.base 2 rfl) (by decide) rfl⟩
      · exact ⟨wanted_none rfl, loc_load_cellG rfl (hd 6 rfl) ((HA.out.keep hv).cell rfl) agg_bytesD rfl⟩
      · exact ⟨wanted_none rfl, loc_len rfl (hd 7 rfl) rfl⟩
      · exact ⟨wanted_none rfl, loc_fieldRp rfl (hf.base 2 rfl) (by decide) rfl⟩
      · exact ⟨wanted_none rfl, loc_load_cellG rfl (hd 9 rfl) ((HA.out.keep hv).cell rfl) agg_bytesD rfl⟩
      · exact ⟨wanted_none rfl, loc_slices1 rfl ⟨ba, bc, hd 10 rfl, (HI.out.1.keep hv).2.2⟩ fun v w' h => h⟩
      · exact ⟨wanted_none rfl, loc_call rfl (by kernel_rfl) (of_v [body] body _ w6 (hd 11 rfl) (by simp) (by simp) hbl2 (HDT.out.keep hv).tb)⟩
      · obtain ⟨xa, xc, e1, e2, e3⟩ := hd 5 rfl
        obtain ⟨ya, yc, e4, e5⟩ := hd 12 rfl
        exact ⟨wanted_none rfl, loc_buildSn rfl (hd 1 rfl) e1 (hd 8 rfl) e4 ⟨⟨xa, xc, ya, yc⟩, rfl, e2, e3, e5⟩⟩
    | 1, _ => exact trivial
  · intro ph hp
    match ph, hp with
    | 0, _ =>
      intro a2 w6 hv hf hd
      obtain ⟨q, e17, hq⟩ := hd 13 rfl
      refine ⟨wanted_none rfl, ?_⟩
      refine wp_store_row 32 _ _ rfl (g + 1) (Sn.cells ⟨st, F, body.length, sumS body⟩ q) (hf.base 4 rfl) e17 32 _ (HU.out.keep hv) (sizeSn _ _) rfl (oneSn _ _) ?_
      refine ⟨undef, rfl, ⟨below_setRow (HG.out ▸ below_trans (HG.out ▸ HB.out) hv) (by have := HG.out; omega) _, q, setRow_heap _ _ _ _ _ _ (HU.out.keep hv), ?_⟩, trivial, ⟨.inr fun _ _ _ => trivial, .inr fun _ _ _ => trivial, .inr fun _ _ _ => trivial, .inr fun _ _ _ => trivial, .inr fun _ _ _ => trivial, .inr fun _ _ _ => trivial, .inr fun _ _ _ => trivial, .inr fun _ _ _ => trivial, .inr fun _ _ _ => trivial, .inr fun _ _ _ => trivial, .inr fun _ _ _ => trivial, .inr fun _ _ _ => trivial, .inr fun _ _ _ => trivial, .inr fun _ _ _ => trivial, .inl rfl, trivial⟩⟩
      exact hq.rowD (HU.out.keep hv) (fun u hu b => by simp at hu; rcases hu with rfl | rfl | rfl | rfl <;> intro e <;> cases e) (fun u hu n => by simp at hu; rcases hu with rfl | rfl | rfl | rfl <;> intro e <;> cases e)
  · intro a2 w6 hv hf hh
    obtain ⟨hb, q, h1, h2⟩ := hv
    refine hK _ _ ?_
    go_wp2_with fail
    refine bodyPost_ret (results_rD rfl _ _ (g + 1) 32 _ (0, 0) _ (hf.base 4 rfl) h1 Tryz.underlying32 rfl (sizeSn _ _)) hf.defers ?_
    exact ⟨q, rfl, h2, hb⟩

def Spec.diffJ (d : Df) : Spec := ⟨fun v w => ∃ a c, v = d.v a c ∧ StrsC w a d.fs c, fun _ _ _ h hb => by
  obtain ⟨a, c, h1, h2⟩ := h
  exact ⟨a, c, h1, h2.keep hb⟩⟩
set_option maxRecDepth 100000 in
set_option maxHeartbeats 4000000 in
theorem dCompare_any (a b : Sn) (p q : SnP) (w : World) (ha : SnIn w a p) (hb : SnIn w b q) (hal : LS a.fs) (hbl : LS b.fs) :
    Calls Tryz.prog 14 #[a.v p, b.v q] w fun e w' => ∃ da dc, e = .returned ((cmpV a b).v da dc) ∧ StrsC w' da (cmpV a b).fs dc ∧ Below w.heap.size w w' := by
  obtain ⟨ax, af, az, asum⟩ := a
  obtain ⟨afa, afc, asa, asc⟩ := p
  obtain ⟨bs, bf, bz, bsum⟩ := b
  obtain ⟨bfa, bfc, bsa, bsc⟩ := q
  obtain ⟨sb, hsb⟩ : ∃ z, (ax != bs) = z := ⟨_, rfl⟩
  have HSB := Box.mk hsb
  obtain ⟨F, hF⟩ : ∃ F, fsD af bf = F := ⟨_, rfl⟩
  have HF := Box.mk hF
  have HLS := Box.mk (show LS af ∧ LS bf from ⟨hal, hbl⟩)
  have hsb2 : decide (ax ≠ bs) = sb := by rw [← hsb]; by_cases e : ax = bs <;> simp [e]
  obtain ⟨W, hW⟩ : ∃ W, W = ((w.alloc (.cells #[.int .i64 ax, .slice afa af.length afc, .int .i64 az, .slice asa asum.length asc] 32)).alloc (.cells #[.int .i64 bs, .slice bfa bf.length bfc, .int .i64 bz, .slice bsa bsum.length bsc] 32)).alloc (.cells #[.bool false, .bool false, .slice none 0 0] 37) := ⟨_, rfl⟩
  have HB := Box.mk (show Below w.heap.size w W by rw [hW]; exact below_twoF (below_twoF (below_oneF w _) _) _)
  have HA := Box.mk (show VarA W w.heap.size #[.int .i64 ax, .slice afa af.length afc, .int .i64 az, .slice asa asum.length asc] 32 by rw [hW]; exact ((VarA.new _ _ _).below _).below _)
  have HU := Box.mk (show VarA W (w.heap.size + 1) #[.int .i64 bs, .slice bfa bf.length bfc, .int .i64 bz, .slice bsa bsum.length bsc] 32 by rw [hW]; have := (VarA.new (w.alloc (.cells #[.int .i64 ax, .slice afa af.length afc, .int .i64 az, .slice asa asum.length asc] 32)) #[.int .i64 bs, .slice bfa bf.length bfc, .int .i64 bz, .slice bsa bsum.length bsc] 32).below (.cells #[.bool false, .bool false, .slice none 0 0] 37); rw [World.size_alloc] at this; exact this)
  have HZ := Box.mk (show VarA W (w.heap.size + 2) #[.bool false, .bool false, .slice none 0 0] 37 by rw [hW]; have := VarA.new ((w.alloc (.cells #[.int .i64 ax, .slice afa af.length afc, .int .i64 az, .slice asa asum.length asc] 32)).alloc (.cells #[.int .i64 bs, .slice bfa bf.length bfc, .int .i64 bz, .slice bsa bsum.length bsc] 32)) #[.bool false, .bool false, .slice none 0 0] 37; rw [World.size_alloc, World.size_alloc] at this; exact this)
  have HIA := Box.mk (And.intro (ha.keep HB.out) (hb.keep HB.out))
  have HBW := HB
  clear ha hb hal hbl hsb hF
  unfold Sn.v Df.v cmpV
  simp only at HLS ⊢
  rw [hsb2, HF.out]
  clear hsb2
  by_cases hz : az = bz
  · have HZE := Box.mk (show (az != bz) = false by rw [hz]; simp)
    obtain ⟨eb, heb⟩ : ∃ z, decide (asum = bsum) = z := ⟨_, rfl⟩
    have HEB := Box.mk heb
    obtain ⟨bb, hbb⟩ : ∃ z, (!eb) = z := ⟨_, rfl⟩
    have HNB := Box.mk hbb
    have hx : decide (az ≠ bz ∨ asum ≠ bsum) = bb := by rw [← hbb, ← heb]; by_cases e : asum = bsum <;> simp [hz, e]
    rw [hx]
    clear heb hbb hx hz
    go_enter Tryz.func14, Tryz.ntmps14
    go_upto_region 1 with fail
    change Code.wp _ _ _ _ (((w.alloc (.cells #[.int .i64 ax, .slice afa af.length afc, .int .i64 az, .slice asa asum.length asc] 32)).alloc (.cells #[.int .i64 bs, .slice bfa bf.length bfc, .int .i64 bz, .slice bsa bsum.length bsc] 32)).alloc (.cells #[.bool false, .bool false, .slice none 0 0] 37))
    rw [← hW]
    clear hW
    generalize hg : w.heap.size = g at *
    have HG := Box.mk hg
    clear hg
    rename_i K hK
    refine wp_region_skip_last (S := [.val (.pointer (some ⟨g, 0, none⟩)), .val (.int .i64 ax), .val (.pointer (some ⟨(g + 1), 0, none⟩)), .val (.int .i64 bs), .val (.bool sb), .val (.pointer (some ⟨g, 2, none⟩)), .val (.int .i64 az), .val (.pointer (some ⟨(g + 1), 2, none⟩)), .val (.int .i64 bz), .val (.bool false), .val (.bool false), .val (.pointer (some ⟨g, 3, none⟩)), .val (.slice asa asum.length asc), .val (.pointer (some ⟨(g + 1), 3, none⟩)), .val (.slice bsa bsum.length bsc), .val (.bool eb), .val (.bool bb), .val (.bool bb), .val (.pointer (some ⟨g, 1, none⟩)), .val (.slice afa af.length afc), .val (.pointer (some ⟨(g + 1), 1, none⟩)), .val (.slice bfa bf.length bfc), .strsV F, .diffJ ⟨sb, bb, F⟩]) 24 (by kernel_rfl) (by kernel_rfl) (by kernel_rfl) (by kernel_rfl) (by kernel_rfl) ?_ ?_
    · refine ⟨?_, ?_, ?_, ?_, ?_, ?_, ?_, ?_, ?_, ?_, ?_, ?_, ?_, ?_, ?_, ?_, ?_, ?_, ?_, ?_, ?_, ?_, ?_, ?_, trivial⟩ <;> intro a6 w6 hb hf hd
      · exact .inl ⟨wanted_none rfl, loc_fieldSn rfl (hf.base 2 rfl) (by decide) rfl⟩
      · exact .inl ⟨wanted_none rfl, loc_load_cellG rfl (hd 0 rfl) ((HA.out.keep hb).cell rfl) agg_intD rfl⟩
      · exact .inl ⟨wanted_none rfl, loc_fieldSn rfl (hf.base 3 rfl) (by decide) rfl⟩
      · exact .inl ⟨wanted_none rfl, loc_load_cellG rfl (hd 2 rfl) ((HU.out.keep hb).cell rfl) agg_intD rfl⟩
      · exact .inl ⟨wanted_none rfl, loc_neqD rfl (hd 1 rfl) (hd 3 rfl) HSB.out rfl⟩
      · exact .inl ⟨wanted_none rfl, loc_fieldSn rfl (hf.base 2 rfl) (by decide) rfl⟩
      · exact .inl ⟨wanted_none rfl, loc_load_cellG rfl (hd 5 rfl) ((HA.out.keep hb).cell rfl) agg_intD rfl⟩
      · exact .inl ⟨wanted_none rfl, loc_fieldSn rfl (hf.base 3 rfl) (by decide) rfl⟩
      · exact .inl ⟨wanted_none rfl, loc_load_cellG rfl (hd 7 rfl) ((HU.out.keep hb).cell rfl) agg_intD rfl⟩
      · exact .inl ⟨wanted_none rfl, loc_neqD rfl (hd 6 rfl) (hd 8 rfl) HZE.out rfl⟩
      · exact .inl ⟨wanted_none rfl, loc_move rfl (hd 9 rfl)⟩
      · exact .inl ⟨wanted_yes0 rfl rfl (hd 10 rfl), loc_fieldSn rfl (hf.base 2 rfl) (by decide) rfl⟩
      · exact .inl ⟨wanted_yes0 rfl rfl (hd 10 rfl), loc_load_cellG rfl (hd 11 rfl) ((HA.out.keep hb).cell rfl) agg_bytesD rfl⟩
      · exact .inl ⟨wanted_yes0 rfl rfl (hd 10 rfl), loc_fieldSn rfl (hf.base 3 rfl) (by decide) rfl⟩
      · exact .inl ⟨wanted_yes0 rfl rfl (hd 10 rfl), loc_load_cellG rfl (hd 13 rfl) ((HU.out.keep hb).cell rfl) agg_bytesD rfl⟩
      · exact .inl ⟨wanted_yes0 rfl rfl (hd 10 rfl), loc_call rfl (by kernel_rfl) (dSum_vD w6 (hd 12 rfl) (hd 14 rfl) (HIA.out.1.keep hb).2.2 (HIA.out.2.keep hb).2.2 HEB.out)⟩
      · exact .inl ⟨wanted_yes0 rfl rfl (hd 10 rfl), loc_notD rfl (hd 15 rfl) HNB.out rfl⟩
      · exact .inl ⟨wanted_none rfl, loc_pickF rfl (hd 10 rfl) (hd 16 rfl)⟩
      · exact .inl ⟨wanted_none rfl, loc_fieldSn rfl (hf.base 2 rfl) (by decide) rfl⟩
      · exact .inl ⟨wanted_none rfl, loc_load_cellG rfl (hd 18 rfl) ((HA.out.keep hb).cell rfl) agg_fieldsD rfl⟩
      · exact .inl ⟨wanted_none rfl, loc_fieldSn rfl (hf.base 3 rfl) (by decide) rfl⟩
      · exact .inl ⟨wanted_none rfl, loc_load_cellG rfl (hd 20 rfl) ((HU.out.keep hb).cell rfl) agg_fieldsD rfl⟩
      · exact .inl ⟨wanted_none rfl, loc_call rfl (by kernel_rfl) (dNames_vD w6 (hd 19 rfl) (hd 21 rfl) (HIA.out.1.keep hb).1 (HIA.out.2.keep hb).1 HLS.out.1 HLS.out.2 HF.out)⟩
      · obtain ⟨xa, xc, e1, e2⟩ := hd 22 rfl
        exact .inl ⟨wanted_none rfl, loc_buildDf rfl (hd 4 rfl) (hd 17 rfl) e1 ⟨xa, xc, rfl, e2⟩⟩
    · intro a6 w6 hb hf hd
      obtain ⟨da, dc, e28, hS⟩ := hd 23 (by decide) (by decide)
      refine ⟨wanted_none rfl, ?_⟩
      have hU := HZ.out.keep hb
      refine wp_store_row 37 _ _ rfl (g + 2) #[.bool sb, .bool bb, .slice da F.length dc] (hf.base 4 rfl) e28 37 _ hU (sizeDf ..) rfl (oneDf ..) ?_
      have hS2 : StrsC (w6.setRow (g + 2) #[.bool sb, .bool bb, .slice da F.length dc]) da F dc := ⟨fun j hj => by
        obtain ⟨x, e, hc⟩ := hS.1 j hj
        exact ⟨x, e, by rw [cell_rowD _ _ _ (cell_apartD hU (fun u hu => by simp at hu; rcases hu with rfl | rfl <;> intro e <;> cases e) hc)]; exact hc⟩, hS.2⟩
      have hB2 : Below g w (w6.setRow (g + 2) #[.bool sb, .bool bb, .slice da F.length dc]) := below_setRow (HBW.out.trans (hb.mono (by have := HU.out.lt; omega))) (by omega) _
      have eP : a6.eval (.tmp 4) = .pointer (some ⟨g + 2, 0, none⟩) := hf.base 4 rfl
      refine hK _ _ ?_
      go_wp2_with fail
      refine bodyPost_ret (results_rD rfl _ _ (g + 2) 37 _ (0, 0) _ ?_ (setRow_heap _ _ _ _ _ _ hU) Tryz.underlying37 rfl (sizeDf ..)) ?_ ?_
      · exact eP
      · exact hf.defers
      · exact ⟨da, dc, rfl, hS2, HG.out ▸ hB2⟩
  · have HZE := Box.mk (show (az != bz) = true by rw [bne_iff_ne]; exact hz)
    have hx : decide (az ≠ bz ∨ asum ≠ bsum) = true := decide_eq_true (.inl hz)
    rw [hx]
    clear hx hz
    go_enter Tryz.func14, Tryz.ntmps14
    go_upto_region 1 with fail
    change Code.wp _ _ _ _ (((w.alloc (.cells #[.int .i64 ax, .slice afa af.length afc, .int .i64 az, .slice asa asum.length asc] 32)).alloc (.cells #[.int .i64 bs, .slice bfa bf.length bfc, .int .i64 bz, .slice bsa bsum.length bsc] 32)).alloc (.cells #[.bool false, .bool false, .slice none 0 0] 37))
    rw [← hW]
    clear hW
    generalize hg : w.heap.size = g at *
    have HG := Box.mk hg
    clear hg
    rename_i K hK
    refine wp_region_skip_last (S := [.val (.pointer (some ⟨g, 0, none⟩)), .val (.int .i64 ax), .val (.pointer (some ⟨(g + 1), 0, none⟩)), .val (.int .i64 bs), .val (.bool sb), .val (.pointer (some ⟨g, 2, none⟩)), .val (.int .i64 az), .val (.pointer (some ⟨(g + 1), 2, none⟩)), .val (.int .i64 bz), .val (.bool true), .val (.bool true), .any, .any, .any, .any, .any, .any, .val (.bool true), .val (.pointer (some ⟨g, 1, none⟩)), .val (.slice afa af.length afc), .val (.pointer (some ⟨(g + 1), 1, none⟩)), .val (.slice bfa bf.length bfc), .strsV F, .diffJ ⟨sb, true, F⟩]) 24 (by kernel_rfl) (by kernel_rfl) (by kernel_rfl) (by kernel_rfl) (by kernel_rfl) ?_ ?_
    · refine ⟨?_, ?_, ?_, ?_, ?_, ?_, ?_, ?_, ?_, ?_, ?_, ?_, ?_, ?_, ?_, ?_, ?_, ?_, ?_, ?_, ?_, ?_, ?_, ?_, trivial⟩ <;> intro a6 w6 hb hf hd
      · exact .inl ⟨wanted_none rfl, loc_fieldSn rfl (hf.base 2 rfl) (by decide) rfl⟩
      · exact .inl ⟨wanted_none rfl, loc_load_cellG rfl (hd 0 rfl) ((HA.out.keep hb).cell rfl) agg_intD rfl⟩
      · exact .inl ⟨wanted_none rfl, loc_fieldSn rfl (hf.base 3 rfl) (by decide) rfl⟩
      · exact .inl ⟨wanted_none rfl, loc_load_cellG rfl (hd 2 rfl) ((HU.out.keep hb).cell rfl) agg_intD rfl⟩
      · exact .inl ⟨wanted_none rfl, loc_neqD rfl (hd 1 rfl) (hd 3 rfl) HSB.out rfl⟩
      · exact .inl ⟨wanted_none rfl, loc_fieldSn rfl (hf.base 2 rfl) (by decide) rfl⟩
      · exact .inl ⟨wanted_none rfl, loc_load_cellG rfl (hd 5 rfl) ((HA.out.keep hb).cell rfl) agg_intD rfl⟩
      · exact .inl ⟨wanted_none rfl, loc_fieldSn rfl (hf.base 3 rfl) (by decide) rfl⟩
      · exact .inl ⟨wanted_none rfl, loc_load_cellG rfl (hd 7 rfl) ((HU.out.keep hb).cell rfl) agg_intD rfl⟩
      · exact .inl ⟨wanted_none rfl, loc_neqD rfl (hd 6 rfl) (hd 8 rfl) HZE.out rfl⟩
      · exact .inl ⟨wanted_none rfl, loc_move rfl (hd 9 rfl)⟩
      · exact .inr ⟨wanted_no0 rfl rfl (hd 10 rfl), rfl⟩
      · exact .inr ⟨wanted_no0 rfl rfl (hd 10 rfl), rfl⟩
      · exact .inr ⟨wanted_no0 rfl rfl (hd 10 rfl), rfl⟩
      · exact .inr ⟨wanted_no0 rfl rfl (hd 10 rfl), rfl⟩
      · exact .inr ⟨wanted_no0 rfl rfl (hd 10 rfl), rfl⟩
      · exact .inr ⟨wanted_no0 rfl rfl (hd 10 rfl), rfl⟩
      · exact .inl ⟨wanted_none rfl, loc_pick rfl (hd 10 rfl) rfl⟩
      · exact .inl ⟨wanted_none rfl, loc_fieldSn rfl (hf.base 2 rfl) (by decide) rfl⟩
      · exact .inl ⟨wanted_none rfl, loc_load_cellG rfl (hd 18 rfl) ((HA.out.keep hb).cell rfl) agg_fieldsD rfl⟩
      · exact .inl ⟨wanted_none rfl, loc_fieldSn rfl (hf.base 3 rfl) (by decide) rfl⟩
      · exact .inl ⟨wanted_none rfl, loc_load_cellG rfl (hd 20 rfl) ((HU.out.keep hb).cell rfl) agg_fieldsD rfl⟩
      · exact .inl ⟨wanted_none rfl, loc_call rfl (by kernel_rfl) (dNames_vD w6 (hd 19 rfl) (hd 21 rfl) (HIA.out.1.keep hb).1 (HIA.out.2.keep hb).1 HLS.out.1 HLS.out.2 HF.out)⟩
      · obtain ⟨xa, xc, e1, e2⟩ := hd 22 rfl
        exact .inl ⟨wanted_none rfl, loc_buildDf rfl (hd 4 rfl) (hd 17 rfl) e1 ⟨xa, xc, rfl, e2⟩⟩
    · intro a6 w6 hb hf hd
      obtain ⟨da, dc, e28, hS⟩ := hd 23 (by decide) (by decide)
      refine ⟨wanted_none rfl, ?_⟩
      have hU := HZ.out.keep hb
      refine wp_store_row 37 _ _ rfl (g + 2) #[.bool sb, .bool true, .slice da F.length dc] (hf.base 4 rfl) e28 37 _ hU (sizeDf ..) rfl (oneDf ..) ?_
      have hS2 : StrsC (w6.setRow (g + 2) #[.bool sb, .bool true, .slice da F.length dc]) da F dc := ⟨fun j hj => by
        obtain ⟨x, e, hc⟩ := hS.1 j hj
        exact ⟨x, e, by rw [cell_rowD _ _ _ (cell_apartD hU (fun u hu => by simp at hu; rcases hu with rfl | rfl <;> intro e <;> cases e) hc)]; exact hc⟩, hS.2⟩
      have hB2 : Below g w (w6.setRow (g + 2) #[.bool sb, .bool true, .slice da F.length dc]) := below_setRow (HBW.out.trans (hb.mono (by have := HU.out.lt; omega))) (by omega) _
      have eP : a6.eval (.tmp 4) = .pointer (some ⟨g + 2, 0, none⟩) := hf.base 4 rfl
      refine hK _ _ ?_
      go_wp2_with fail
      refine bodyPost_ret (results_rD rfl _ _ (g + 2) 37 _ (0, 0) _ ?_ (setRow_heap _ _ _ _ _ _ hU) Tryz.underlying37 rfl (sizeDf ..)) ?_ ?_
      · exact eP
      · exact hf.defers
      · exact ⟨da, dc, rfl, hS2, HG.out ▸ hB2⟩

set_option maxHeartbeats 1000000 in
theorem dSame_any (d : Df) (a : Option Addr) (c : Nat) (w : World) (h : StrsC w a d.fs c) :
    Calls Tryz.prog 16 #[d.v a c] w fun e w' => e = .returned (.bool (sameD d)) ∧ Below w.heap.size w w' := by
  obtain ⟨st, bd, fs⟩ := d
  have HB := Box.mk (below_oneF w (.cells (Df.cells ⟨st, bd, fs⟩ a c) 37))
  unfold Df.v sameD
  unfold Df.cells at HB
  simp only at HB ⊢
  obtain ⟨z, hz⟩ : ∃ z, decide (fs.length = 0) = z := ⟨_, rfl⟩
  have HZ := Box.mk hz
  rw [hz]
  clear hz h
  cases st
  · cases bd
    · by_cases h : fs.length = 0
      · have e1 : ((fs.length : Int) == 0) = true := by rw [h]; rfl
        have HX := Box.mk (show z = true by rw [← HZ.out]; exact decide_eq_true h)
        clear h
        go_enter Tryz.func16, Tryz.ntmps16
        go_wp2_with fail
        go_ret
        exact ⟨ret_bool (by rw [HX.out]; rfl), HB.out⟩
      · have e1 : ((fs.length : Int) == 0) = false := by rw [beq_eq_false_iff_ne]; omega
        have HX := Box.mk (show z = false by rw [← HZ.out]; exact decide_eq_false h)
        clear h
        go_enter Tryz.func16, Tryz.ntmps16
        go_wp2_with fail
        go_ret
        exact ⟨ret_bool (by rw [HX.out]; rfl), HB.out⟩
    · go_enter Tryz.func16, Tryz.ntmps16
      go_wp2_with fail
      go_ret
      exact ⟨rfl, HB.out⟩
  · go_enter Tryz.func16, Tryz.ntmps16
    go_wp2_with fail
    go_ret
    exact ⟨rfl, HB.out⟩
end Go.Proofs.YtgmbfiikkogenaaGreatDoor
namespace Go.Proofs.YtgmbfiikkogenaaGreatDoor
open Go.RowKit

theorem Own.grown {B : Nat} {w w' : World} {v : Value} {l : List UInt8} {row : Option Nat} (h : Own B w v l) (hg : w.grownBy w' row) (hne : ∀ k, v.ownBlock = some k → some k ≠ row) : Own B w' v l :=
  h.same fun k hk => hg.block k (h.lt hk).2 (hne k hk)
theorem isBytes_oneF (w : World) (c : UInt8) : IsBytes (w.alloc (.cells #[.int .u8 (c.toNat : Int)] 5)) (some ⟨w.heap.size, 0, none⟩) [c] 1 := by
  refine .inr ⟨_, rfl, Nat.le_refl _, by decide, fun j hj => ?_⟩
  obtain rfl : j = 0 := by simpa using hj
  rw [Addr.add_lit, new_cellF]; rfl
set_option maxRecDepth 100000 in
set_option maxHeartbeats 2000000 in
theorem srcBytes_any (g m : Nat) (a : Option Addr) (n c : Nat) (w : World) (h : Src w g a n c) (hm : m ≤ 1000) :
    Calls Tryz.prog 21 #[.pointer (some ⟨g, 0, none⟩), .int .i64 m] w fun e w' => ∃ v l, e = .returned v ∧ Own w.heap.size w' v l ∧ l.length ≤ m ∧ Src w' g a n c ∧ w.grownBy w' (some g) := by
  have H0 := Box.mk h
  have HLOW := Box.mk h.low
  have hlt := h.lt
  clear h
  go_enter Tryz.func21, Tryz.ntmps21
  go_wp2_with fail
  refine (next_any g (m + 1) a n c w H0.out (by omega) (by omega)).mono ?_
  rintro e w1 ⟨k, hk, rfl, hsrc, hg1⟩
  have HS1 := Box.mk hsrc
  have HG1 := Box.mk hg1
  clear hsrc hg1 H0
  go_wp2_with fail
  go_loopw [5, 6] (fun v iv wr => ∃ j : Nat, j ≤ m ∧ iv = .int .i64 j ∧ ∃ l : List UInt8, l.length + j ≤ m ∧ Box (Own w.heap.size wr v l ∧ Src wr g a n c ∧ w.grownBy wr (some g))) (fun _ iv _ => (intOf iv).toNat)
  case atStart => exact ⟨k, by omega, rfl, [], by simp; omega, ⟨Own.start _ _, HS1.out, HG1.out⟩⟩
  case round =>
    clear HS1 HG1
    obtain ⟨j, hj, rfl, l, hl, HM⟩ := hrel
    by_cases hpos : 0 < j
    · go_wp2_with fail
      refine (next_any g 7 a n c wr HM.out.2.1 (by decide) (by decide)).mono ?_
      rintro e w2 ⟨i, hi, rfl, hsrc, hg2⟩
      have HO2 := Box.mk (HM.out.1.grown hg2 (fun q e e2 => by have := (HM.out.1.lt e).1; have := Option.some.inj e2; omega))
      have HS2 := Box.mk hsrc
      have HG2 := Box.mk (grownBy_trans HM.out.2.2 hg2)
      have hsz := HG2.out.size
      clear hsrc hg2 HM
      obtain ⟨y, hy⟩ : ∃ y : UInt8, ∀ hd, (⟨#[97, 98, 13, 10, 48, 59, 32]⟩ : ByteArray)[i]'hd = y := ⟨(⟨#[97, 98, 13, 10, 48, 59, 32]⟩ : ByteArray)[i]'(by show i < 7; exact hi), fun _ => rfl⟩
      have hy1 : (y.toNat : Int) ≤ 255 := by have := y.toNat_lt; omega
      go_wp2_with (at_builtin; refine wpList_append_ownb _ rfl _ _ rfl rfl (HO2.out.keep (below_oneF w2 (.cells #[.int .u8 (y.toNat : Int)] 5))) (r := [y]) rfl (isBytes_oneF w2 y) (by simp; omega) (by simp; omega) ?c3)
      case c3 =>
        intro v' w3 hown hgrow _
        have HO3 := Box.mk hown
        have hgrow2 : w2.grownBy w3 u5.ownBlock := ⟨hgrow.os, hgrow.tape, hgrow.output, Nat.le_trans (by simp) hgrow.size, fun k hk hne => by
          rw [hgrow.block k (by simp; omega) hne]
          exact (below_oneF w2 _).block k hk⟩
        have HS3 := Box.mk (HS2.out.grown hgrow2 (fun e => by have := (HO2.out.lt e.symm).1; omega) (fun x e h0 e2 => by have := (HO2.out.lt e2.symm).1; have := HLOW.out x e h0; omega))
        have HG3 := Box.mk (grownBy_new HG2.out hgrow2 (fun i e => (HO2.out.lt e).1))
        clear hown hgrow hgrow2 HO2 HS2 HG2 hy
        go_wp2_with fail
        go_roundw
        case rel => exact ⟨j - 1, by omega, by go_num, l ++ [y], by simp; omega, ⟨HO3.out, HS3.out, HG3.out⟩⟩
        case measure => simp [intOf]; omega
    · obtain rfl : j = 0 := by omega
      go_wp2_with fail
      go_ret
      exact ⟨_, l, rfl, HM.out.1, by omega, HM.out.2.1, HM.out.2.2⟩
end Go.Proofs.YtgmbfiikkogenaaGreatDoor
namespace Go.Proofs.YtgmbfiikkogenaaGreatDoor
open Go.RowKit
set_option linter.unusedSimpArgs false
set_option linter.unusedVariables false

def zRp : Array Value := #[.int .i64 0, .string ⟨#[]⟩, .int .i64 0, .slice none 0 0, .slice none 0 0]
theorem sizeRp (a b : Int) (s : ByteArray) (f g : Option Addr) (n c m d : Nat) : (Tryz.prog.info? 26).map (·.size) = some (#[Value.int .i64 a, .string s, .int .i64 b, .slice f n c, .slice g m d] : Array Value).size := by kernel_rfl
theorem oneRp (a b : Int) (s : ByteArray) (f g : Option Addr) (n c m d : Nat) : (#[Value.int .i64 a, .string s, .int .i64 b, .slice f n c, .slice g m d] : Array Value).all (·.oneCell') = true := by simp [Value.oneCell']
/-- The law's reply. -/
def MadeD (w w' : World) (r : Rp) (p : SnP) : Prop := RpIn w' r p ∧ SmallF r.fs ∧ r.fs.length ≤ 5 ∧ r.body.length ≤ 3 ∧ Below w.heap.size w w'
theorem Own.sameD {B : Nat} {w w' : World} {v : Value} {l : List UInt8} (h : Own B w v l) (hs : ∀ k, B ≤ k → k < w.heap.size → w'.heap[k]? = w.heap[k]?) : Own B w' v l := by
  obtain ⟨h1, h2⟩ := h
  refine ⟨h1, ?_⟩
  rcases h2 with h2 | ⟨g, cap, cur, hv, hg, hc, r⟩
  · exact .inl h2
  · exact .inr ⟨g, cap, cur, hv, hg, by rw [hs g hg (Array.getElem?_eq_some_iff.1 hc).1]; exact hc, r⟩
set_option maxRecDepth 10000 in
set_option maxHeartbeats 4000000 in
theorem dfMadeS_any (a : Option Addr) (n c : Nat) (w : World) (hi : IntsF w a n) (hn : n ≤ maxLen) :
    Calls Tryz.prog 8 #[.slice a n c] w fun e w' => ∃ r p, e = .returned (r.v p) ∧ MadeD w w' r p ∧ ∀ f ∈ r.fs, SrcF f := by
  obtain ⟨W, hW⟩ : ∃ W, W = (w.alloc (.cells zRp 26)).alloc (.cells #[.slice a n c, .int .i64 0] 50) := ⟨_, rfl⟩
  have hws : (w.alloc (.cells zRp 26)).heap.size = w.heap.size + 1 := World.size_alloc _ _
  have HB := Box.mk (show Below w.heap.size w W by rw [hW]; exact below_twoF (below_oneF w _) _)
  have HU := Box.mk (show VarA W w.heap.size zRp 26 by rw [hW]; exact (VarA.new _ _ _).below _)
  have HS := Box.mk (show Src W (w.heap.size + 1) a n c by rw [hW]; have := src_box (w := w.alloc (.cells zRp 26)) (c := c) (hi.keep (below_oneF _ _)) hn; rw [hws] at this; exact this)
  have hW1 : W.heap.size = w.heap.size + 2 := by rw [hW, World.size_alloc, hws]
  have HW1 := Box.mk hW1
  clear hi hn hws hW1
  go_enter Tryz.func8, Tryz.ntmps8
  go_wp2_with fail
  change Calls _ _ #[.pointer (some ⟨w.heap.size + 1, 0, none⟩), .int .i64 2] ((w.alloc (.cells zRp 26)).alloc (.cells #[.slice a n c, .int .i64 0] 50)) _
  rw [← hW]
  clear hW
  generalize hg : w.heap.size = g at *
  have HG := Box.mk hg
  clear hg
  refine (next_any (g + 1) 2 a n c W HS.out (by decide) (by decide)).mono ?_
  rintro e w1 ⟨k, hk, rfl, hsrc, hg1⟩
  have HS1 := Box.mk hsrc
  have HG1 := Box.mk hg1
  clear hsrc hg1
  go_wp2_with fail
  refine (srcFieldsS_any (g + 1) 5 a n c w1 HS1.out (by decide)).mono ?_
  rintro e w2 ⟨v, fs, rfl, ho, hl, hall, hsrc, hg2⟩
  have HO2 := Box.mk ho
  have HALL := Box.mk hall
  have HF2 := Box.mk (show SmallF fs from fun f hm => by obtain ⟨_, h1, h2⟩ := (hall f hm).made; exact ⟨by omega, by omega⟩)
  have HS2 := Box.mk hsrc
  have HG2 := Box.mk hg2
  clear ho hall hsrc hg2
  go_wp2_with fail
  refine (srcBytes_any (g + 1) 3 a n c w2 HS2.out (by decide)).mono ?_
  rintro e w3 ⟨u, body, rfl, hob, hb3, _, hg3⟩
  have hz1 : g + 2 ≤ w1.heap.size := by have := HG1.out.size; have := HW1.out; omega
  have hz2 : g + 2 ≤ w2.heap.size := by have := HG2.out.size; omega
  have HO3 := Box.mk (HO2.out.grown hg3 (fun m hm e => by have := (HO2.out.lt hm).1; have := Option.some.inj e; omega))
  have HU3 := Box.mk (show VarA w3 g zRp 26 by
    have h0 := HU.out
    unfold VarA at *
    rw [hg3.block g (by omega) (fun e => by have := Option.some.inj e; omega), HG2.out.block g (by omega) (fun e => by have := Option.some.inj e; omega), HG1.out.block g (by have := HW1.out; omega) (fun e => by have := Option.some.inj e; omega)]
    exact h0)
  have HB3 := Box.mk (show Below g w w3 from ((HB.out.grown HG1.out (by have := HW1.out; omega) (fun k e => by have := Option.some.inj e; omega)).grown HG2.out (by omega) (fun k e => by have := Option.some.inj e; omega)).grown hg3 (by omega) (fun k e => by have := Option.some.inj e; omega))
  obtain ⟨fa, fc, rfl, _, hfc⟩ := HO3.out.shape
  obtain ⟨ba, bc, hu, _⟩ := hob.val
  subst hu
  have HN := Box.mk (show (w3.setRow g #[.int .i64 (200 + (k : Int)), .string ⟨#[]⟩, .int .i64 1, .slice fa fs.length fc, .slice ba body.length bc]).heap[g]? = _ from setRow_heap _ _ _ _ _ _ HU3.out)
  have HB4 := Box.mk (below_setRow HB3.out (Nat.le_refl _) #[.int .i64 (200 + (k : Int)), .string ⟨#[]⟩, .int .i64 1, .slice fa fs.length fc, .slice ba body.length bc])
  have HF4 := Box.mk (show FldsC (w3.setRow g #[.int .i64 (200 + (k : Int)), .string ⟨#[]⟩, .int .i64 1, .slice fa fs.length fc, .slice ba body.length bc]) fa fs fc by
    have h5 := HO3.out.same (w' := w3.setRow g #[.int .i64 (200 + (k : Int)), .string ⟨#[]⟩, .int .i64 1, .slice fa fs.length fc, .slice ba body.length bc]) (fun m hm => setRow_other _ _ _ _ (by have := (HO3.out.lt hm).1; omega))
    obtain ⟨x, y, he, hs, _⟩ := h5.shape
    injection he with e1 e2 e3
    subst e1 e3
    exact hs)
  have HY4 := Box.mk (show IsBytes (w3.setRow g #[.int .i64 (200 + (k : Int)), .string ⟨#[]⟩, .int .i64 1, .slice fa fs.length fc, .slice ba body.length bc]) ba body bc by
    have h5 := hob.sameD (w' := w3.setRow g #[.int .i64 (200 + (k : Int)), .string ⟨#[]⟩, .int .i64 1, .slice fa fs.length fc, .slice ba body.length bc]) (fun m hm _ => setRow_other _ _ _ _ (by omega))
    obtain ⟨x, y, he, hs⟩ := h5.val
    injection he with e1 e2 e3
    subst e1 e3
    exact hs)
  clear hob hg3 HO3 HO2 HU HS HS1 HS2 HG1 HG2 HB3
  go_wp2_with (refine wpList_store_row rfl 26 _ _ rfl g #[.int .i64 (200 + (k : Int)), .string ⟨#[]⟩, .int .i64 1, .slice fa fs.length fc, .slice ba body.length bc] rfl rfl 26 _ HU3.out (sizeRp ..) rfl (oneRp ..) ?_)
  (try simp only [Exit.inBlock, Exit.then])
  refine bodyPost_ret (results_rD rfl _ _ g 26 _ (0, 0) _ rfl HN.out Tryz.underlying26 rfl (sizeRp ..)) rfl ?_
  exact ⟨⟨200 + (k : Int), ⟨#[]⟩, 1, fs, body⟩, ⟨fa, fc, ba, bc⟩, rfl, ⟨⟨HF4.out, hfc, HY4.out⟩, HF2.out, hl, hb3, HG.out ▸ HB4.out⟩, HALL.out⟩
theorem dfMade_any (a : Option Addr) (n c : Nat) (w : World) (hi : IntsF w a n) (hn : n ≤ maxLen) :
    Calls Tryz.prog 8 #[.slice a n c] w fun e w' => ∃ r p, e = .returned (r.v p) ∧ MadeD w w' r p := by
  refine (dfMadeS_any a n c w hi hn).mono ?_
  rintro e w' ⟨r, p, h1, h2, _⟩
  exact ⟨r, p, h1, h2⟩
end Go.Proofs.YtgmbfiikkogenaaGreatDoor
