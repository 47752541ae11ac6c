/- The law RolloutBack. The law RolloutHolds. The law RolloutPaused. -/
import Derived.Test.YtfjnpegpfmaekaaPk1
import Derived.Test.YtfjnpegpfmaekaaPk2
import Derived.Test.YtfjnpegpfmaekaaPk3
import Derived.Test.YtfjnpegpfmaekaaPk4
import Derived.Test.YtfjnpegpfmaekaaPk5
import Derived.Test.YtfjnpegpfmaekaaPk6
import Derived.Test.YtfjnpegpfmaekaaRows
import Derived.WalkKit
import Derived.WalkSpells
import Derived.WalkLawsBesides
import Derived.BigQuiet
import Derived.Deep.QuietTactic
import Derived.Lib.Bytealg
import Derived.Lib.IndexLaws
import Derived.Lib.Hide
import Derived.Laws.IdiomStrings
import Derived.Lib.SlTrimSet
import Derived.Lib.IndexBytes
import Derived.Lib.Split
import Derived.Deep.AppendLies
import Derived.Shelf.LaysM
import Derived.Test.YtfjnpegpfmaekaaProg
import Derived.Shelf.Strings.SlTrimAscii
import Derived.Lib.SplitLaws
import Derived.WalkSmall
import Derived.ProofKit
import Derived.OpenShut
import Derived.Lib.Strings
import Derived.SliceStrings
import Derived.Deep.Quiet
import Derived.Tactics
import Derived.KernelRfl
import Derived.Below
import Derived.Laws.Bits64
import Derived.Lib.SlBytesConst
import Derived.Maps.AppendAt
import Derived.Laws.AppendOwnNone
import Derived.Great.BuildSlice
import Derived.Laws.Rows
import Derived.Laws.BitsAllLaws
import Derived.Laws.Shifts
import Derived.Maps.OwnOps
import Derived.Maps.OwnSet
import Derived.Deep.SlicePairs
import Derived.Lib.AppendZerosOnto
import Derived.Lib.AppendStr
import Derived.Laws.CopyOwn
import Derived.OwnWalk
import Derived.Laws.Strings3
import Derived.Laws.Concat
import Derived.Lib.ItoaMem
import Derived.Deep.DeepCutAuto
import Derived.Deep.CutBlock
import Derived.Laws.Tables
import Derived.Deep.Matrix
import Derived.IntWalk
import Derived.Laws.RangeAny
import Derived.Sort.Grow
import Derived.Lib.LaidTab
import Derived.LaidSub
import Derived.Laws.Bits64b
import Derived.Deep.WholeRow
import Derived.StillTailTactics
import Derived.Lib.ConvBytes
import Derived.ArgAppend
namespace Go.Proofs.Ytfjnpegpfmaekaa
open Go.RowKit
set_option linter.unusedSimpArgs false

theorem step_fails {r : Ro} {p : Pl} {x : Int × Int} (hI : r.inv p) (h1 : r.st = 1) (h2 : x.1 = 1) (h3 : ¬ r.w.age + 1 < p.win) (h4 : verdV p r.w = 3) : (stepV r p x).st = 3 := by
  unfold stepV tickR
  have hc : (tickV r.w p.win).2 = true := by
    unfold tickV
    unfold Ro.inv at hI
    have hm : max0 r.w.age = r.w.age := by unfold max0; split <;> omega
    rw [if_pos (.inr (by rw [hm]; omega))]
  rw [if_pos h2, if_pos h1, if_pos hc]
  unfold closeR
  rw [if_pos h4]; rfl
theorem step_back {r : Ro} {p : Pl} {x : Int × Int} (h : r.st = 3) (hx : ¬ (x.1 = 4 ∧ x.2 = 6)) : (stepV r p x).st = 3 := by
  unfold stepV
  by_cases k1 : x.1 = 1
  · rw [if_pos k1]; unfold tickR; rw [if_neg (by omega)]; exact h
  rw [if_neg k1]
  by_cases k2 : x.1 = 2
  · rw [if_pos k2]; unfold obsV; rw [if_neg (by omega)]; exact h
  rw [if_neg k2]
  by_cases k3 : x.1 = 3
  · rw [if_pos k3]; unfold obsV; rw [if_neg (by omega)]; exact h
  rw [if_neg k3]
  by_cases k4 : x.1 = 4
  · rw [if_pos k4]
    have hc : ¬ (cmdV r x.2).2 = 0 := by
      unfold cmdV
      by_cases c1 : x.2 = 1
      · rw [if_pos c1, if_neg (by omega)]; decide
      rw [if_neg c1]
      by_cases c2 : x.2 = 2
      · rw [if_pos c2, if_neg (by omega)]; decide
      rw [if_neg c2]
      by_cases c3 : x.2 = 3
      · rw [if_pos c3, if_neg (by omega)]; decide
      rw [if_neg c3]
      by_cases c4 : x.2 = 4
      · rw [if_pos c4, if_neg (by omega)]; decide
      rw [if_neg c4]
      by_cases c5 : x.2 = 5
      · rw [if_pos c5, if_neg (by omega)]; decide
      rw [if_neg c5, if_neg (by omega)]; decide
    rw [if_neg hc]; exact h
  · rw [if_neg k4]; exact h
theorem ret_vbool {x y : Bool} (h : x = y) : Value.bool x = Value.bool y := by rw [h]
theorem rWeight_zero {x1 x2 x3 x4 x5 x6 : Int} {p : Pl} (h : x1 = 3) : weightV ⟨x1, x2, x3, ⟨x4, x5, x6⟩⟩ p = 0 := by
  unfold weightV
  simp only
  rw [if_neg (by omega), if_neg (by omega)]

set_option maxRecDepth 100000 in
set_option maxHeartbeats 8000000 in
theorem rolloutBack_any (la : Option Addr) (ln lc : Nat) (ma : Option Addr) (mn mc : Nat) (w : World) (hl : IntsF w la ln) (hn : ln ≤ maxLen) (hm : IntsF w ma mn) (hmn : mn ≤ maxLen) (hmc : mn ≤ mc) (hma : 0 < mn → ∃ ad, ma = some ad) :
    Calls Try.prog 5 #[.slice la ln lc, .slice ma mn mc] w fun e w' => e = .returned (.bool true) ∧ Below w.heap.size w w' := by
  have HIN := Box.mk (And.intro hl (And.intro hn (And.intro hm (And.intro hmn (And.intro hmc hma)))))
  clear hl hn hm hmn hmc hma
  go_enter Try.func5, Try.ntmps5
  go_wp2_with fail
  refine (roMade_any la ln lc ma mn mc w HIN.out.1 HIN.out.2.1 HIN.out.2.2.1 HIN.out.2.2.2.1 HIN.out.2.2.2.2.1 HIN.out.2.2.2.2.2).mono ?_
  rintro e w1 ⟨p, a, c, l, b, d, rfl, hM⟩
  have HM := Box.mk hM
  have HPR := Box.mk hM.2.1.rng
  have hlen : l.length ≤ 160 := hM.2.2.2.2.1
  obtain ⟨W, hW⟩ : ∃ W, W = (w1.alloc (.cells (PlC a c p) 30)).alloc (.cells (roS 0).cells 28) := ⟨_, rfl⟩
  have HB := Box.mk (show Below w1.heap.size w1 W by rw [hW]; exact below_twoF (below_oneF w1 _) _)
  have HV := Box.mk (show VarA W w1.heap.size (PlC a c p) 30 by rw [hW]; exact (VarA.new _ _ _).below _)
  have HS := Box.mk (show VarA W (w1.heap.size + 1) (roS 0).cells 28 by rw [hW]; have := VarA.new (w1.alloc (.cells (PlC a c p) 30)) (roS 0).cells 28; rw [World.size_alloc] at this; exact this)
  clear hM HIN
  unfold PlV
  go_upto_region 4 with fail
  change Code.wp _ _ _ _ ((w1.alloc (.cells (PlC a c p) 30)).alloc (.cells (roS 0).cells 28))
  rw [← hW]
  clear hW
  generalize hgp : w1.heap.size = gp at *
  have HGP := Box.mk hgp
  clear hgp
  go_wp2_with fail
  go_loopw [8, 9] (fun bv iv wr => ∃ (k : Nat) (bk : Bool), k ≤ l.length ∧ bv = .bool bk ∧ iv = .int .i64 k ∧ Box ((VarA wr (gp + 1) (runV p (l.take k)).cells 28 ∧ VarA wr gp (PlC a c p) 30 ∧ Below gp w1 wr) ∧ (bk = true → (runV p (l.take k)).st = 3))) (fun _ iv _ => l.length - (intOf iv).toNat)
  case atStart => exact ⟨0, false, Nat.zero_le _, rfl, rfl, ⟨⟨HS.out, HV.out, HB.out⟩, fun h => by cases h⟩⟩
  case round =>
    clear HS HV HB
    obtain ⟨k, bk, hk, rfl, rfl, HI0⟩ := hrel
    have HI := Box.mk HI0.out.1
    have HBK := Box.mk HI0.out.2
    clear HI0
    have HB1 := Box.mk (show Below w1.heap.size w1 wr by rw [HGP.out]; exact HI.out.2.2)
    have hgl : gp + 1 < wr.heap.size := HI.out.1.lt
    by_cases hlt : k < l.length
    · obtain ⟨ad, rfl, _⟩ := HM.out.2.2.2.1 k hlt
      have HROW := Box.mk (fun w' (hb : Below w1.heap.size w1 w') => (HM.out.2.2.2.1.keep hb).row hlt)
      have HST := Box.mk (runV_snoc p l k hlt).symm
      have HINV := Box.mk (runV_inv HM.out.1 l k hk)
      have HINX := Box.mk (runV_inv HM.out.1 l (k + 1) (by omega))
      have HOKI := Box.mk (HM.out.2.2.2.2.2.2.1 l[k] (List.getElem_mem _))
      generalize l[k] = y at *
      obtain ⟨X, hX⟩ : ∃ X, runV p (l.take (k + 1)) = X := ⟨_, rfl⟩
      rw [hX] at HST HINX
      have HXE := Box.mk hX
      clear hX
      generalize runV p (l.take k) = r at *
      obtain ⟨r1, r2, r3, ⟨r4, r5, r6⟩⟩ := r
      obtain ⟨x1, x2, x3, ⟨x4, x5, x6⟩⟩ := X
      obtain ⟨y1, y2⟩ := y
      simp only [Ro.cells] at HI HROW HBK
      obtain ⟨vd, hvd⟩ : ∃ z, verdV p ⟨r4, r5, r6⟩ = z := ⟨_, rfl⟩
      have HVD := Box.mk hvd
      obtain ⟨lv, hlv⟩ : ∃ lv : Bool, lv = decide (((r1 = 1 ∧ y1 = 1) ∧ ¬ r6 + 1 < p.win) ∧ vd = 3) := ⟨_, rfl⟩
      have HLV := Box.mk hlv
      have HLT := Box.mk (show lv = true → x1 = 3 from fun h => by
        rw [hlv] at h
        have h2 := of_decide_eq_true h
        have := step_fails (r := ⟨r1, r2, r3, ⟨r4, r5, r6⟩⟩) (p := p) (x := (y1, y2)) HINV.out h2.1.1.1 h2.1.1.2 h2.1.2 (hvd.trans h2.2)
        rw [HST.out] at this
        exact this)
      have HBX := Box.mk (show bk = true → ¬ (y1 = 4 ∧ y2 = 6) → x1 = 3 from fun h h2 => by
        have := step_back (r := ⟨r1, r2, r3, ⟨r4, r5, r6⟩⟩) (p := p) (x := (y1, y2)) (HBK.out h) h2
        rw [HST.out] at this
        exact this)
      clear hvd hlv HBK
      have hage := HINV.out
      unfold Ro.inv at hage
      simp only at hage
      have hag0 : 0 ≤ r6 ∧ r6 ≤ 1000000 := by have := hage.2.2.2.2.2; omega
      clear hage
      have a0 := HI.out.1.cell (i := 0) (v := .int .i64 r1) rfl
      have a1 := HI.out.1.cell (i := 1) (v := .int .i64 r2) rfl
      have a2 := HI.out.1.cell (i := 2) (v := .int .i64 r3) rfl
      have a3 := HI.out.1.cell (i := 3) (v := .int .i64 r4) rfl
      have a4 := HI.out.1.cell (i := 4) (v := .int .i64 r5) rfl
      have a5 := HI.out.1.cell (i := 5) (v := .int .i64 r6) rfl
      have c0 := HI.out.2.1.cell (i := 0) (v := .slice a p.ws.length c) rfl
      have c1 := HI.out.2.1.cell (i := 1) (v := .int .i64 p.ms) rfl
      have c2 := HI.out.2.1.cell (i := 2) (v := .int .i64 p.num) rfl
      have c3 := HI.out.2.1.cell (i := 3) (v := .int .i64 p.den) rfl
      have c4 := HI.out.2.1.cell (i := 4) (v := .int .i64 p.hold) rfl
      have c5 := HI.out.2.1.cell (i := 5) (v := .int .i64 p.win) rfl
      have yy0 := HROW.out wr HB1.out 0 (.int .i64 y1) rfl
      have yy1 := HROW.out wr HB1.out 1 (.int .i64 y2) rfl
      have yz0 : wr.cell? (ad.add (k * 2)) = some (.int .i64 y1) := by rw [Go.Deep.add_add] at yy0; exact yy0
      have yz1 : wr.cell? ⟨(ad.add (k * 2)).block, (ad.add (k * 2)).off + 1, none⟩ = some (.int .i64 y2) := yy1
      go_upto_region 7 with fail
      go_cut [10] (fun v wx => v = .bool lv ∧ Box (VarA wx (gp + 1) #[.int .i64 r1, .int .i64 r2, .int .i64 r3, .int .i64 r4, .int .i64 r5, .int .i64 r6] 28 ∧ VarA wx gp (PlC a c p) 30 ∧ Below gp w1 wx))
      case first =>
        have HG := Box.mk (show ∀ z : Bool, (decide (((r1 = 1 ∧ y1 = 1) ∧ ¬ r6 + 1 < p.win) ∧ vd = 3) = z) → Value.bool z = .bool lv from fun z h => by rw [HLV.out, h])
        by_cases h1 : r1 = 1
        · have e1 := beq_i_yes h1
          by_cases h2 : y1 = 1
          · have e2 := beq_i_yes h2
            by_cases h3 : r6 + 1 < p.win
            · go_wp2_with fail
              go_meet
              exact ⟨HG.out false (decide_eq_false fun h => absurd h3 (by have := h.1.2; omega)), HI⟩
            · go_wp2_with fail
              refine (pVerdict_eq (p := p) (v := ⟨r4, r5, r6⟩) wr (HM.out.2.2.1.keepP HB1.out) HPR.out (by have := HINV.out; unfold Ro.inv at this; unfold Wn.rng i64P; simp only at this ⊢; omega) HVD.out).mono ?_
              rintro e w5 ⟨rfl, hb⟩
              have HI5 := Box.mk (show VarA w5 (gp + 1) #[.int .i64 r1, .int .i64 r2, .int .i64 r3, .int .i64 r4, .int .i64 r5, .int .i64 r6] 28 ∧ VarA w5 gp (PlC a c p) 30 ∧ Below gp w1 w5 from ⟨HI.out.1.keep hb, HI.out.2.1.keep hb, HI.out.2.2.trans (hb.mono (by omega))⟩)
              clear hb
              by_cases h4 : vd = 3
              · have e4 := beq_i_yes h4
                go_wp2_with fail
                go_meet
                exact ⟨HG.out true (decide_eq_true ⟨⟨⟨h1, h2⟩, h3⟩, h4⟩), HI5⟩
              · have e4 := beq_i_no h4
                go_wp2_with fail
                go_meet
                exact ⟨HG.out false (decide_eq_false fun h => h4 h.2), HI5⟩
          · have e2 := beq_i_no h2
            go_wp2_with fail
            go_meet
            exact ⟨HG.out false (decide_eq_false fun h => h2 h.1.1.2), HI⟩
        · have e1 := beq_i_no h1
          go_wp2_with fail
          go_meet
          exact ⟨HG.out false (decide_eq_false fun h => h1 h.1.1.1), HI⟩
      case rest =>
        obtain ⟨rfl, HC⟩ := hcut
        clear HI HB1 a0 a1 a2 a3 a4 a5 c0 c1 c2 c3 c4 c5 yy0 yy1 yz0 yz1 hgl HVD HLV
        have HB1 := Box.mk (show Below w1.heap.size w1 wc by rw [HGP.out]; exact HC.out.2.2)
        have hgl : gp + 1 < wc.heap.size := HC.out.1.lt
        go_upto_region 8 with fail
        rename_i K hK
        refine wp_region_last (S := [some (.val (.agg #[.int .i64 r1, .int .i64 r2, .int .i64 r3, .int .i64 r4, .int .i64 r5, .int .i64 r6])), some (.val (PlV a c p)), some (.val (.slice (some ad) l.length d)), some (.val (.int .i64 k)), some (.val (.pointer (some (ad.add (k * 2))))), some (.val (.agg #[.int .i64 y1, .int .i64 y2])), some (.val (.agg #[.int .i64 x1, .int .i64 x2, .int .i64 x3, .int .i64 x4, .int .i64 x5, .int .i64 x6])), some (.of (.rowNew wc.heap.size #[.int .i64 0, .int .i64 0, .int .i64 0, .int .i64 0, .int .i64 0, .int .i64 0] 28)), none]) 8
          (by kernel_rfl) (by kernel_rfl) (by kernel_rfl) (by kernel_rfl) rfl rfl rfl ?_ ?_
        · refine ⟨?_, ?_, ?_, ?_, ?_, ?_, ?_, ?_, trivial⟩ <;> intro a' w2 hb hf hd
          · exact ⟨wanted_none rfl, loc_load_rowG rfl (hf.base 7 rfl) (HC.out.1.keep hb).row Try.underlying28 rfl sizeRo rfl⟩
          · exact ⟨wanted_none rfl, loc_load_rowG rfl (hf.base 5 rfl) (HC.out.2.1.keep hb).row Try.underlying30 rfl (sizePl a c p) rfl⟩
          · exact ⟨wanted_none rfl, loc_move rfl (hf.base 6 rfl)⟩
          · exact ⟨wanted_none rfl, loc_move rfl (hf.base 9 rfl)⟩
          · exact ⟨wanted_none rfl, loc_index_G 2 rfl (hd 2 rfl) (hd 3 rfl) hlt (by kernel_rfl) (by kernel_rfl) rfl⟩
          · exact ⟨wanted_none rfl, loc_load_rowG rfl (hd 4 rfl) (HROW.out w2 (below_trans HB1.out hb)) Try.underlying24 rfl (sizeIn y1 y2) rfl⟩
          · refine ⟨wanted_none rfl, loc_call rfl (by kernel_rfl) ?_⟩
            show Calls _ _ #[a'.eval (.tmp 51), a'.eval (.tmp 52), a'.eval (.tmp 56)] w2 _
            rw [show a'.eval (.tmp 51) = .agg #[.int .i64 r1, .int .i64 r2, .int .i64 r3, .int .i64 r4, .int .i64 r5, .int .i64 r6] from hd 0 rfl, show a'.eval (.tmp 52) = PlV a c p from hd 1 rfl, show a'.eval (.tmp 56) = .agg #[.int .i64 y1, .int .i64 y2] from hd 5 rfl]
            refine (rStep_eq (r := ⟨r1, r2, r3, ⟨r4, r5, r6⟩⟩) (x := (y1, y2)) w2 HM.out.1 HINV.out (HM.out.2.2.1.keepP (below_trans HB1.out hb)) HST.out).mono ?_
            rintro e w3 ⟨rfl, h3⟩
            exact ⟨_, rfl, h3, rfl⟩
          · exact ⟨wanted_none rfl, loc_alloc_G rfl hb.size (by kernel_rfl) fun v w' h => h⟩
        · intro a' w2 hb hf hd
          refine ⟨wanted_none rfl, ?_⟩
          obtain ⟨q, e6, hqB, hq⟩ := hd 7 (by decide) (by decide)
          have ev : a'.eval (.tmp 57) = .agg #[.int .i64 x1, .int .i64 x2, .int .i64 x3, .int .i64 x4, .int .i64 x5, .int .i64 x6] := hd 6 (by decide) (by decide)
          have eq' : a'.eval (.tmp 11) = .pointer (some ⟨q, 0, none⟩) := e6
          refine wp_store_row 28 _ _ rfl q #[.int .i64 x1, .int .i64 x2, .int .i64 x3, .int .i64 x4, .int .i64 x5, .int .i64 x6] e6 ev 28 _ hq sizeRo rfl (oneRo ..) ?_
          have HB4 := Box.mk (show Below gp w1 (w2.setRow q #[.int .i64 x1, .int .i64 x2, .int .i64 x3, .int .i64 x4, .int .i64 x5, .int .i64 x6]) from below_setRow (HC.out.2.2.trans (hb.mono (by omega))) (by omega) _)
          have HR4 := Box.mk (show VarA (w2.setRow q #[.int .i64 x1, .int .i64 x2, .int .i64 x3, .int .i64 x4, .int .i64 x5, .int .i64 x6]) (gp + 1) #[.int .i64 r1, .int .i64 r2, .int .i64 r3, .int .i64 r4, .int .i64 r5, .int .i64 r6] 28 from (HC.out.1.keep hb).row_other (by omega))
          have HV4 := Box.mk (show VarA (w2.setRow q #[.int .i64 x1, .int .i64 x2, .int .i64 x3, .int .i64 x4, .int .i64 x5, .int .i64 x6]) gp (PlC a c p) 30 from (HC.out.2.1.keep hb).row_other (by omega))
          have HX4 := Box.mk (show VarA (w2.setRow q #[.int .i64 x1, .int .i64 x2, .int .i64 x3, .int .i64 x4, .int .i64 x5, .int .i64 x6]) q #[.int .i64 x1, .int .i64 x2, .int .i64 x3, .int .i64 x4, .int .i64 x5, .int .i64 x6] 28 from setRow_heap _ _ _ _ _ _ hq)
          have hqg : gp + 1 < q := by omega
          refine hK _ _ ?_
          rw [fr_putAll hf]
          simp only [putAll, ev, eq']
          clear hf hd hb HC hK e6 ev eq' hq HB1
          generalize a'.eval (.tmp 51) = u51
          generalize a'.eval (.tmp 52) = u52
          generalize a'.eval (.tmp 53) = u53
          generalize a'.eval (.tmp 54) = u54
          generalize a'.eval (.tmp 55) = u55
          generalize a'.eval (.tmp 56) = u56
          simp only [Act.put, List.setIfInBounds_toArray, List.set_cons_succ, List.set_cons_zero]
          change Code.wp _ _ _ (Act.mk _ _) _
          generalize (w2.setRow q #[.int .i64 x1, .int .i64 x2, .int .i64 x3, .int .i64 x4, .int .i64 x5, .int .i64 x6]) = w4 at *
          have HB5 := Box.mk (show Below w1.heap.size w1 w4 by rw [HGP.out]; exact HB4.out)
          have hq4 : q < w4.heap.size := HX4.out.lt
          obtain ⟨b1, hb1⟩ : ∃ z : Bool, z = (bk || decide (x1 = 3)) := ⟨_, rfl⟩
          obtain ⟨rs, hrs⟩ : ∃ z : Bool, z = (decide (y1 = 4) && decide (y2 = 6)) := ⟨_, rfl⟩
          obtain ⟨b2, hb2⟩ : ∃ z : Bool, z = (b1 && !rs) := ⟨_, rfl⟩
          have HY1 := Box.mk hb1
          have HYR := Box.mk hrs
          have HY2 := Box.mk hb2
          have HX3 := Box.mk (show b2 = true → x1 = 3 from fun h => by
            rw [hb2, Bool.and_eq_true, Bool.not_eq_true', hrs, hb1, Bool.or_eq_true, Bool.and_eq_false_iff, decide_eq_false_iff_not, decide_eq_false_iff_not, decide_eq_true_eq] at h
            rcases h.1 with h1 | h1
            · exact HBX.out h1 (fun h2 => h.2.elim (fun h3 => h3 h2.1) (fun h3 => h3 h2.2))
            · exact h1)
          clear hb1 hrs hb2 HBX
          have q0 := HX4.out.cell (i := 0) (v := .int .i64 x1) rfl
          have q1 := HX4.out.cell (i := 1) (v := .int .i64 x2) rfl
          have q2 := HX4.out.cell (i := 2) (v := .int .i64 x3) rfl
          have q3 := HX4.out.cell (i := 3) (v := .int .i64 x4) rfl
          have q4 := HX4.out.cell (i := 4) (v := .int .i64 x5) rfl
          have q5 := HX4.out.cell (i := 5) (v := .int .i64 x6) rfl
          have c0 := HV4.out.cell (i := 0) (v := .slice a p.ws.length c) rfl
          have c1 := HV4.out.cell (i := 1) (v := .int .i64 p.ms) rfl
          have c2 := HV4.out.cell (i := 2) (v := .int .i64 p.num) rfl
          have c3 := HV4.out.cell (i := 3) (v := .int .i64 p.den) rfl
          have c4 := HV4.out.cell (i := 4) (v := .int .i64 p.hold) rfl
          have c5 := HV4.out.cell (i := 5) (v := .int .i64 p.win) rfl
          have yy0 := HROW.out w4 HB5.out 0 (.int .i64 y1) rfl
          have yy1 := HROW.out w4 HB5.out 1 (.int .i64 y2) rfl
          have yz0 : w4.cell? (ad.add (k * 2)) = some (.int .i64 y1) := by rw [Go.Deep.add_add] at yy0; exact yy0
          have yz1 : w4.cell? ⟨(ad.add (k * 2)).block, (ad.add (k * 2)).off + 1, none⟩ = some (.int .i64 y2) := yy1
          go_upto_region 9 with fail
          go_cut [63] (fun v wx => w4 = wx ∧ v = .bool false)
          case first =>
            cases lv
            · go_wp2_with fail
              go_meet
              exact ⟨rfl, rfl⟩
            · have g1 := beq_i_yes (HLT.out rfl)
              have g2 := Box.mk (show (x1 != 3) = false by rw [HLT.out rfl]; rfl)
              go_wp2_with fail
              go_meet
              exact ⟨rfl, ret_vbool g2.out⟩
          case rest =>
            obtain ⟨rfl, rfl⟩ := hcut
            clear HLT
            go_upto_region 11 with fail
            go_cut [8] (fun v wx => w4 = wx ∧ v = .bool b1)
            case first =>
              have HG := Box.mk (show ∀ z : Bool, ((bk || decide (x1 = 3)) = z) → Value.bool z = .bool b1 from fun z h => by rw [HY1.out, h])
              cases bk
              · by_cases g : x1 = 3
                · have g1 := beq_i_yes g
                  go_wp2_with fail
                  go_meet
                  exact ⟨rfl, HG.out true (by simp [g])⟩
                · have g1 := beq_i_no g
                  go_wp2_with fail
                  go_meet
                  exact ⟨rfl, HG.out false (by simp [g])⟩
              · go_wp2_with fail
                go_meet
                exact ⟨rfl, HG.out true rfl⟩
            case rest =>
              obtain ⟨rfl, rfl⟩ := hcut
              clear HY1
              go_upto_region 12 with fail
              go_cut [83] (fun v wx => w4 = wx ∧ v = .bool rs)
              case first =>
                have HG := Box.mk (show ∀ z : Bool, ((decide (y1 = 4) && decide (y2 = 6)) = z) → Value.bool z = .bool rs from fun z h => by rw [HYR.out, h])
                by_cases k4 : y1 = 4
                · have f1 := beq_i_yes k4
                  by_cases k6 : y2 = 6
                  · have f2 := beq_i_yes k6
                    go_wp2_with fail
                    go_meet
                    exact ⟨rfl, HG.out true (by simp [k4, k6])⟩
                  · have f2 := beq_i_no k6
                    go_wp2_with fail
                    go_meet
                    exact ⟨rfl, HG.out false (by simp [k6])⟩
                · have f1 := beq_i_no k4
                  go_wp2_with fail
                  go_meet
                  exact ⟨rfl, HG.out false (by simp [k4])⟩
              case rest =>
                obtain ⟨rfl, rfl⟩ := hcut
                clear HYR
                go_upto_if 83 with fail
                go_cut [8] (fun v wx => w4 = wx ∧ v = .bool b2)
                case first =>
                  have HG := Box.mk (show ∀ z : Bool, ((b1 && !rs) = z) → Value.bool z = .bool b2 from fun z h => by rw [HY2.out, h])
                  cases rs
                  · go_wp2_with fail
                    go_meet
                    exact ⟨rfl, HG.out b1 (by simp)⟩
                  · go_wp2_with fail
                    go_meet
                    exact ⟨rfl, HG.out false (by simp)⟩
                case rest =>
                  obtain ⟨rfl, rfl⟩ := hcut
                  clear HY2
                  cases b2
                  · have HN := Box.mk (show VarA (w4.setRow (gp + 1) #[.int .i64 x1, .int .i64 x2, .int .i64 x3, .int .i64 x4, .int .i64 x5, .int .i64 x6]) (gp + 1) #[.int .i64 x1, .int .i64 x2, .int .i64 x3, .int .i64 x4, .int .i64 x5, .int .i64 x6] 28 ∧ VarA (w4.setRow (gp + 1) #[.int .i64 x1, .int .i64 x2, .int .i64 x3, .int .i64 x4, .int .i64 x5, .int .i64 x6]) gp (PlC a c p) 30 ∧ Below gp w1 (w4.setRow (gp + 1) #[.int .i64 x1, .int .i64 x2, .int .i64 x3, .int .i64 x4, .int .i64 x5, .int .i64 x6]) from
                      ⟨setRow_heap _ _ _ _ _ _ HR4.out, HV4.out.row_other (by omega), below_setRow HB4.out (by omega) _⟩)
                    clear c0 c1 c2 c3 c4 c5 yy0 yy1 yz0 yz1 HX3
                    go_upto_region 16 with fail
                    go_wp2_with (refine wpList_store_row rfl 28 _ _ rfl (gp + 1) #[.int .i64 x1, .int .i64 x2, .int .i64 x3, .int .i64 x4, .int .i64 x5, .int .i64 x6] rfl rfl 28 _ HR4.out sizeRo rfl (oneRo ..) ?_)
                    go_roundw
                    case rel => exact ⟨k + 1, _, by omega, rfl, by go_num, ⟨⟨by rw [HXE.out]; exact HN.out.1, HN.out.2.1, HN.out.2.2⟩, fun h => by cases h⟩⟩
                    case measure => simp [intOf]; omega
                  · have g := HX3.out rfl
                    clear HX3 yy0 yy1 yz0 yz1
                    subst g
                    have HZ := Box.mk (rWeight_zero (x2 := x2) (x3 := x3) (x4 := x4) (x5 := x5) (x6 := x6) (p := p) (rfl : (3 : Int) = 3))
                    go_wp2_with fail
                    refine (rWeight_eq (r := ⟨3, x2, x3, ⟨x4, x5, x6⟩⟩) (p := p) w4 (HM.out.2.2.1.keepP HB5.out) HZ.out).mono ?_
                    rintro e w6 ⟨rfl, hb⟩
                    have HR6 := Box.mk (HR4.out.keep hb)
                    have HX6 := Box.mk (HX4.out.keep hb)
                    have HN := Box.mk (show VarA (w6.setRow (gp + 1) #[.int .i64 3, .int .i64 x2, .int .i64 x3, .int .i64 x4, .int .i64 x5, .int .i64 x6]) (gp + 1) #[.int .i64 3, .int .i64 x2, .int .i64 x3, .int .i64 x4, .int .i64 x5, .int .i64 x6] 28 ∧ VarA (w6.setRow (gp + 1) #[.int .i64 3, .int .i64 x2, .int .i64 x3, .int .i64 x4, .int .i64 x5, .int .i64 x6]) gp (PlC a c p) 30 ∧ Below gp w1 (w6.setRow (gp + 1) #[.int .i64 3, .int .i64 x2, .int .i64 x3, .int .i64 x4, .int .i64 x5, .int .i64 x6]) from
                      ⟨setRow_heap _ _ _ _ _ _ HR6.out, (HV4.out.keep hb).row_other (by omega), below_setRow (HB4.out.trans (hb.mono (by omega))) (by omega) _⟩)
                    clear hb q0 q1 q2 q3 q4 q5 c0 c1 c2 c3 c4 c5 HR4 HX4 HV4 HB4 HB5
                    have q0 := HX6.out.cell (i := 0) (v := .int .i64 3) rfl
                    have q1 := HX6.out.cell (i := 1) (v := .int .i64 x2) rfl
                    have q2 := HX6.out.cell (i := 2) (v := .int .i64 x3) rfl
                    have q3 := HX6.out.cell (i := 3) (v := .int .i64 x4) rfl
                    have q4 := HX6.out.cell (i := 4) (v := .int .i64 x5) rfl
                    have q5 := HX6.out.cell (i := 5) (v := .int .i64 x6) rfl
                    go_upto_region 16 with fail
                    go_wp2_with (refine wpList_store_row rfl 28 _ _ rfl (gp + 1) #[.int .i64 3, .int .i64 x2, .int .i64 x3, .int .i64 x4, .int .i64 x5, .int .i64 x6] rfl rfl 28 _ HR6.out sizeRo rfl (oneRo ..) ?_)
                    go_roundw
                    case rel => exact ⟨k + 1, _, by omega, rfl, by go_num, ⟨⟨by rw [HXE.out]; exact HN.out.1, HN.out.2.1, HN.out.2.2⟩, fun _ => by rw [HXE.out]⟩⟩
                    case measure => simp [intOf]; omega
    · go_wp2_with fail
      refine (roAwake_any wr).mono ?_
      rintro e w5 ⟨rfl, hb5⟩
      go_wp2_with fail
      go_ret
      exact ⟨rfl, below_trans HM.out.2.2.2.2.2.2.2 (below_trans HB1.out hb5)⟩
end Go.Proofs.Ytfjnpegpfmaekaa
namespace Go.Proofs.Ytfjnpegpfmaekaa
open Go.RowKit
set_option linter.unusedSimpArgs false

/-- The count of the law: what a running or paused rollout has. -/
def sV (r : Ro) : Int := if r.st = 1 ∨ r.st = 4 then r.healthy else 0
def hs1 (r : Ro) (p : Pl) (cd : Bool) : Int := if cd = true then (if verdV p r.w = 2 then sV r + 1 else 0) else sV r
def hbt (r X : Ro) (k : Int) : Prop := k = 1 ∧ ((X.st = 2 ∧ ¬ r.st = 2) ∨ (X.st = 1 ∧ r.stage < X.stage))
theorem verd_some {p : Pl} {r : Ro} (hp : p.ok = true) (hI : r.inv p) : verdV p r.w = 1 ∨ verdV p r.w = 2 ∨ verdV p r.w = 3 := by
  unfold Ro.inv at hI
  rw [verdV_yes hp (by unfold Wn.fits; omega)]
  split
  · exact .inl rfl
  · split
    · exact .inr (.inr rfl)
    · exact .inr (.inl rfl)
instance (r X : Ro) (k : Int) : Decidable (hbt r X k) := by unfold hbt; infer_instance
theorem hs1_f (r : Ro) (p : Pl) : hs1 r p false = sV r := by unfold hs1; rw [if_neg (by decide)]
theorem hs1_2 {r : Ro} {p : Pl} (h : verdV p r.w = 2) : hs1 r p true = sV r + 1 := by unfold hs1; rw [if_pos rfl, if_pos h]
theorem hs1_n {r : Ro} {p : Pl} (h : ¬ verdV p r.w = 2) : hs1 r p true = 0 := by unfold hs1; rw [if_pos rfl, if_neg h]
theorem sV_live {r : Ro} (h : r.st = 1 ∨ r.st = 4) : sV r = r.healthy := by unfold sV; rw [if_pos h]
theorem sV_dead {r : Ro} (h : ¬ (r.st = 1 ∨ r.st = 4)) : sV r = 0 := by unfold sV; rw [if_neg h]
def Good (r : Ro) (p : Pl) (k : Int) (cd : Bool) (X : Ro) : Prop :=
  (hbt r X k → p.hold ≤ hs1 r p cd) ∧ (X.st = 1 → X.healthy = if hbt r X k then 0 else hs1 r p cd) ∧ (X.st = 4 → sV X = if hbt r X k then 0 else hs1 r p cd)
theorem good_no {r X : Ro} {p : Pl} {k : Int} {cd : Bool} (h : ¬ hbt r X k) (h2 : X.st = 1 → X.healthy = hs1 r p cd) (h3 : X.st = 4 → sV X = hs1 r p cd) : Good r p k cd X :=
  ⟨fun q => absurd q h, fun q => by rw [if_neg h]; exact h2 q, fun q => by rw [if_neg h]; exact h3 q⟩
theorem good_yes {r X : Ro} {p : Pl} {k : Int} {cd : Bool} (h : hbt r X k) (h1 : p.hold ≤ hs1 r p cd) (h2 : X.healthy = 0) (h3 : ¬ X.st = 4) : Good r p k cd X :=
  ⟨fun _ => h1, fun _ => by rw [if_pos h]; exact h2, fun q => absurd q h3⟩
theorem good_same {r : Ro} {p : Pl} {k : Int} {X : Ro} (h1 : X.st = r.st) (h2 : X.healthy = r.healthy) (h3 : X.stage = r.stage) : Good r p k false X := by
  refine good_no (by unfold hbt; rw [h1, h3]; omega) (fun h => ?_) (fun h => ?_)
  · rw [hs1_f r p, sV_live (.inl (by omega)), h2]
  · rw [hs1_f r p, sV_live (r := X) (.inr h), sV_live (r := r) (.inr (by omega)), h2]
theorem good_dead {r : Ro} {p : Pl} {k : Int} {cd : Bool} {s : Int} (h1 : s ≠ 1) (h4 : s ≠ 4) (h2 : s = 2 → k = 1 → ¬ r.st = 2 → p.hold ≤ hs1 r p cd) : Good r p k cd (roS s) :=
  ⟨fun h => h2 (h.2.elim (fun q => q.1) (fun q => absurd q.1 h1)) h.1 (h.2.elim (fun q => q.2) (fun q => absurd q.1 h1)), fun h => absurd h h1, fun h => absurd h h4⟩
theorem good_cmd {r : Ro} {p : Pl} {c : Int} (h : (cmdV r c).2 = 0) : Good r p 4 false (cmdV r c).1 := by
  have hnb : ∀ X : Ro, ¬ hbt r X 4 := fun X h => absurd h.1 (by decide)
  unfold cmdV at h ⊢
  by_cases c1 : c = 1
  · rw [if_pos c1] at h ⊢
    by_cases q : r.st = 0
    · rw [if_pos q]
      exact good_no (hnb _) (fun _ => by rw [hs1_f r p, sV_dead (by omega)]; rfl) (fun h => absurd h (by decide))
    · rw [if_neg q] at h; cases h
  rw [if_neg c1] at h ⊢
  by_cases c2 : c = 2
  · rw [if_pos c2] at h ⊢
    by_cases q : r.st = 1
    · rw [if_pos q]
      exact good_no (hnb _) (fun h => absurd (show (4 : Int) = 1 from h) (by decide)) (fun _ => by rw [hs1_f r p, sV_live (r := r) (.inl q), sV_live (.inr rfl)])
    · rw [if_neg q] at h; cases h
  rw [if_neg c2] at h ⊢
  by_cases c3 : c = 3
  · rw [if_pos c3] at h ⊢
    by_cases q : r.st = 4
    · rw [if_pos q]
      exact good_no (hnb _) (fun _ => by rw [hs1_f r p, sV_live (.inr q)]) (fun h => absurd (show (1 : Int) = 4 from h) (by decide))
    · rw [if_neg q] at h; cases h
  rw [if_neg c3] at h ⊢
  by_cases c4 : c = 4
  · rw [if_pos c4] at h ⊢
    by_cases q : r.st = 1 ∨ r.st = 4
    · rw [if_pos q]; exact good_dead (by decide) (by decide) (fun _ h => absurd h (by decide))
    · rw [if_neg q] at h; cases h
  rw [if_neg c4] at h ⊢
  by_cases c5 : c = 5
  · rw [if_pos c5] at h ⊢
    by_cases q : (r.st = 1 ∨ r.st = 4) ∨ r.st = 2
    · rw [if_pos q]; exact good_dead (by decide) (by decide) (fun h => absurd h (by decide))
    · rw [if_neg q] at h; cases h
  rw [if_neg c5] at h ⊢
  by_cases c6 : c = 6
  · rw [if_pos c6]; exact good_dead (by decide) (by decide) (fun h => absurd h (by decide))
  · rw [if_neg c6] at h; cases h
theorem good_step {r : Ro} {p : Pl} {x : Int × Int} {cd : Bool} (hp : p.ok = true) (hI : r.inv p) (hcd : cd = decide ((r.st = 1 ∧ x.1 = 1) ∧ ¬ r.w.age + 1 < p.win)) : Good r p x.1 cd (stepV r p x) := by
  unfold stepV
  by_cases k1 : x.1 = 1
  · rw [if_pos k1]
    unfold tickR
    by_cases q : r.st = 1
    · rw [if_pos q]
      have hm : max0 r.w.age = r.w.age := by unfold Ro.inv at hI; unfold max0; split <;> omega
      by_cases g : r.w.age + 1 < p.win
      · have hc : cd = false := by rw [hcd]; exact decide_eq_false fun h => h.2 g
        have ht : ¬ (tickV r.w p.win).2 = true := by
          unfold tickV
          rw [if_neg (by rw [hm]; omega)]; exact fun h => by cases h
        rw [if_neg ht, hc]
        exact good_same rfl rfl rfl
      · have hc : cd = true := by rw [hcd]; exact decide_eq_true ⟨⟨q, k1⟩, g⟩
        have ht : (tickV r.w p.win).2 = true := by
          unfold tickV
          rw [if_pos (.inr (by rw [hm]; omega))]
        rw [if_pos ht, hc]
        have hs : sV r = r.healthy := by unfold sV; rw [if_pos (.inl q)]
        unfold closeR
        rcases verd_some hp hI with hv | hv | hv
        · have hv2 : ¬ verdV p r.w = 2 := by rw [hv]; decide
          rw [hv, if_neg (by decide), if_pos rfl]
          exact good_no (by unfold hbt; simp only; omega) (fun _ => (hs1_n hv2).symm) (fun h => absurd q (by simp only at h; omega))
        · have h2 := hs1_2 hv
          rw [hv, if_neg (by decide), if_neg (by decide), if_pos rfl]
          by_cases e : r.healthy + 1 = p.hold
          · rw [if_pos e]
            by_cases e2 : r.stage + 1 = p.ws.length
            · rw [if_pos e2]
              exact good_dead (by decide) (by decide) (fun _ _ _ => by rw [h2, hs]; omega)
            · rw [if_neg e2]
              exact good_yes (by unfold hbt; simp only; omega) (by rw [h2, hs]; omega) rfl (by simp only; omega)
          · rw [if_neg e]
            exact good_no (by unfold hbt; simp only; omega) (fun _ => by rw [h2, hs]) (fun h => absurd q (by simp only at h; omega))
        · rw [hv, if_pos rfl]
          exact good_dead (by decide) (by decide) (fun h => absurd h (by decide))
    · rw [if_neg q]
      have hc : cd = false := by rw [hcd]; exact decide_eq_false fun h => q h.1.1
      rw [hc]
      exact good_same rfl rfl rfl
  rw [if_neg k1]
  have hc : cd = false := by rw [hcd]; exact decide_eq_false fun h => k1 h.1.2
  rw [hc]
  by_cases k2 : x.1 = 2
  · rw [if_pos k2]; unfold obsV; split <;> exact good_same rfl rfl rfl
  rw [if_neg k2]
  by_cases k3 : x.1 = 3
  · rw [if_pos k3]; unfold obsV; split <;> exact good_same rfl rfl rfl
  rw [if_neg k3]
  by_cases k4 : x.1 = 4
  · rw [if_pos k4, k4]
    by_cases h : (cmdV r x.2).2 = 0
    · rw [if_pos h]; exact good_cmd h
    · rw [if_neg h]; exact good_same rfl rfl rfl
  · rw [if_neg k4]; exact good_same rfl rfl rfl
theorem ret_vboolL {x y : Bool} (h : x = y) : Value.bool x = Value.bool y := by rw [h]
theorem ret_vintL {x y : Int} (h : x = y) : Value.int .i64 x = Value.int .i64 y := by rw [h]

set_option maxRecDepth 100000 in
set_option maxHeartbeats 8000000 in
theorem rolloutHolds_any (la : Option Addr) (ln lc : Nat) (ma : Option Addr) (mn mc : Nat) (w : World) (hl : IntsF w la ln) (hn : ln ≤ maxLen) (hm : IntsF w ma mn) (hmn : mn ≤ maxLen) (hmc : mn ≤ mc) (hma : 0 < mn → ∃ ad, ma = some ad) :
    Calls Try.prog 6 #[.slice la ln lc, .slice ma mn mc] w fun e w' => e = .returned (.bool true) ∧ Below w.heap.size w w' := by
  have HIN := Box.mk (And.intro hl (And.intro hn (And.intro hm (And.intro hmn (And.intro hmc hma)))))
  clear hl hn hm hmn hmc hma
  go_enter Try.func6, Try.ntmps6
  go_wp2_with fail
  refine (roMade_any la ln lc ma mn mc w HIN.out.1 HIN.out.2.1 HIN.out.2.2.1 HIN.out.2.2.2.1 HIN.out.2.2.2.2.1 HIN.out.2.2.2.2.2).mono ?_
  rintro e w1 ⟨p, a, c, l, b, d, rfl, hM⟩
  have HM := Box.mk hM
  have HPR := Box.mk hM.2.1.rng
  have hlen : l.length ≤ 160 := hM.2.2.2.2.1
  obtain ⟨W, hW⟩ : ∃ W, W = (w1.alloc (.cells (PlC a c p) 30)).alloc (.cells (roS 0).cells 28) := ⟨_, rfl⟩
  have HB := Box.mk (show Below w1.heap.size w1 W by rw [hW]; exact below_twoF (below_oneF w1 _) _)
  have HV := Box.mk (show VarA W w1.heap.size (PlC a c p) 30 by rw [hW]; exact (VarA.new _ _ _).below _)
  have HS := Box.mk (show VarA W (w1.heap.size + 1) (roS 0).cells 28 by rw [hW]; have := VarA.new (w1.alloc (.cells (PlC a c p) 30)) (roS 0).cells 28; rw [World.size_alloc] at this; exact this)
  clear hM HIN
  unfold PlV
  go_upto_region 4 with fail
  change Code.wp _ _ _ _ ((w1.alloc (.cells (PlC a c p) 30)).alloc (.cells (roS 0).cells 28))
  rw [← hW]
  clear hW
  generalize hgp : w1.heap.size = gp at *
  have HGP := Box.mk hgp
  clear hgp
  go_wp2_with fail
  go_loopw [8, 9] (fun sv iv wr => ∃ k : Nat, k ≤ l.length ∧ sv = .int .i64 (sV (runV p (l.take k))) ∧ iv = .int .i64 k ∧ Box (VarA wr (gp + 1) (runV p (l.take k)).cells 28 ∧ VarA wr gp (PlC a c p) 30 ∧ Below gp w1 wr)) (fun _ iv _ => l.length - (intOf iv).toNat)
  case atStart => exact ⟨0, Nat.zero_le _, rfl, rfl, ⟨HS.out, HV.out, HB.out⟩⟩
  case round =>
    clear HS HV HB
    obtain ⟨k, hk, rfl, rfl, HI⟩ := hrel
    obtain ⟨s, hs⟩ : ∃ s, sV (runV p (l.take k)) = s := ⟨_, rfl⟩
    rw [hs]
    have HSV0 := Box.mk hs
    clear hs
    have HB1 := Box.mk (show Below w1.heap.size w1 wr by rw [HGP.out]; exact HI.out.2.2)
    have hgl : gp + 1 < wr.heap.size := HI.out.1.lt
    by_cases hlt : k < l.length
    · obtain ⟨ad, rfl, _⟩ := HM.out.2.2.2.1 k hlt
      have HROW := Box.mk (fun w' (hb : Below w1.heap.size w1 w') => (HM.out.2.2.2.1.keep hb).row hlt)
      have HST := Box.mk (runV_snoc p l k hlt).symm
      have HINV := Box.mk (runV_inv HM.out.1 l k hk)
      have HINX := Box.mk (runV_inv HM.out.1 l (k + 1) (by omega))
      have HOKI := Box.mk (HM.out.2.2.2.2.2.2.1 l[k] (List.getElem_mem _))
      generalize l[k] = y at *
      obtain ⟨X, hX⟩ : ∃ X, runV p (l.take (k + 1)) = X := ⟨_, rfl⟩
      rw [hX] at HST HINX
      have HXE := Box.mk hX
      clear hX
      generalize runV p (l.take k) = r at *
      obtain ⟨r1, r2, r3, ⟨r4, r5, r6⟩⟩ := r
      obtain ⟨x1, x2, x3, ⟨x4, x5, x6⟩⟩ := X
      obtain ⟨y1, y2⟩ := y
      simp only [Ro.cells] at HI HROW
      obtain ⟨cd, hcd⟩ : ∃ z : Bool, z = decide ((r1 = 1 ∧ y1 = 1) ∧ ¬ r6 + 1 < p.win) := ⟨_, rfl⟩
      have HCD := Box.mk hcd
      have hgood := good_step (r := ⟨r1, r2, r3, ⟨r4, r5, r6⟩⟩) (p := p) (x := (y1, y2)) (cd := cd) HM.out.1 HINV.out hcd
      rw [HST.out] at hgood
      clear hcd
      have hsb : 0 ≤ s ∧ s ≤ 1000 := by
        have h1 := HINV.out
        have h2 := HSV0.out
        have h3 := Pl.ok_nums HM.out.1
        unfold Pl.nums at h3
        unfold Ro.inv at h1
        unfold sV at h2
        simp only at h1 h2
        split at h2 <;> omega
      obtain ⟨vd, hvd⟩ : ∃ z, verdV p ⟨r4, r5, r6⟩ = z := ⟨_, rfl⟩
      have HVD := Box.mk hvd
      obtain ⟨t1, ht1⟩ : ∃ z : Int, z = if cd = true then (if vd = 2 then s + 1 else 0) else s := ⟨_, rfl⟩
      have ht1b : 0 ≤ t1 ∧ t1 ≤ 1001 := by rw [ht1]; by_cases q1 : cd = true <;> by_cases q2 : vd = 2 <;> simp only [q1, q2, if_true, if_false] <;> omega
      have HT1 := Box.mk ht1
      obtain ⟨bt, hbte⟩ : ∃ z : Bool, z = decide (y1 = 1 ∧ ((x1 = 2 ∧ ¬ r1 = 2) ∨ (x1 = 1 ∧ r2 < x2))) := ⟨_, rfl⟩
      have HBT := Box.mk hbte
      obtain ⟨t2, ht2⟩ : ∃ z : Int, z = if bt = true then 0 else t1 := ⟨_, rfl⟩
      have HT2 := Box.mk ht2
      obtain ⟨nl, hnl⟩ : ∃ z : Bool, z = decide (¬ x1 = 1 ∧ ¬ x1 = 4) := ⟨_, rfl⟩
      have HNL := Box.mk hnl
      obtain ⟨t3, ht3⟩ : ∃ z : Int, z = if nl = true then 0 else t2 := ⟨_, rfl⟩
      have HT3 := Box.mk ht3
      have HF := Box.mk (show (bt = true → p.hold ≤ t1) ∧ (x1 = 1 → x3 = t2) ∧ t3 = sV ⟨x1, x2, x3, ⟨x4, x5, x6⟩⟩ by
        unfold Good hs1 at hgood
        simp only at hgood
        rw [hvd, HSV0.out, ← ht1] at hgood
        obtain ⟨g1, g2, g3⟩ := hgood
        have e2 : (if hbt ⟨r1, r2, r3, ⟨r4, r5, r6⟩⟩ ⟨x1, x2, x3, ⟨x4, x5, x6⟩⟩ y1 then 0 else t1) = t2 := by
          rw [ht2, hbte]
          by_cases h : hbt ⟨r1, r2, r3, ⟨r4, r5, r6⟩⟩ ⟨x1, x2, x3, ⟨x4, x5, x6⟩⟩ y1
          · rw [if_pos h, if_pos (decide_eq_true (show (y1 = 1 ∧ ((x1 = 2 ∧ ¬ r1 = 2) ∨ (x1 = 1 ∧ r2 < x2))) from h))]
          · rw [if_neg h, if_neg (by rw [decide_eq_false (show ¬ (y1 = 1 ∧ ((x1 = 2 ∧ ¬ r1 = 2) ∨ (x1 = 1 ∧ r2 < x2))) from h)]; decide)]
        rw [e2] at g2 g3
        refine ⟨fun h => g1 (by rw [hbte] at h; exact of_decide_eq_true h), g2, ?_⟩
        rw [ht3, hnl]
        by_cases h : ¬ x1 = 1 ∧ ¬ x1 = 4
        · rw [if_pos (decide_eq_true h)]
          unfold sV
          simp only
          rw [if_neg (by omega)]
        · rw [if_neg (by rw [decide_eq_false h]; decide)]
          by_cases h1 : x1 = 1
          · unfold sV
            simp only
            rw [if_pos (.inl h1)]
            exact (g2 h1).symm
          · exact (g3 (by omega)).symm)
      clear hgood hvd ht1 hbte ht2 hnl ht3
      go_upto_region 7 with fail
      rename_i K hK
      refine wp_region_last (S := [some (.val (.agg #[.int .i64 r1, .int .i64 r2, .int .i64 r3, .int .i64 r4, .int .i64 r5, .int .i64 r6])), some (.val (PlV a c p)), some (.val (.slice (some ad) l.length d)), some (.val (.int .i64 k)), some (.val (.pointer (some (ad.add (k * 2))))), some (.val (.agg #[.int .i64 y1, .int .i64 y2])), some (.val (.agg #[.int .i64 x1, .int .i64 x2, .int .i64 x3, .int .i64 x4, .int .i64 x5, .int .i64 x6])), some (.of (.rowNew wr.heap.size #[.int .i64 0, .int .i64 0, .int .i64 0, .int .i64 0, .int .i64 0, .int .i64 0] 28)), none]) 8
        (by kernel_rfl) (by kernel_rfl) (by kernel_rfl) (by kernel_rfl) rfl rfl rfl ?_ ?_
      · refine ⟨?_, ?_, ?_, ?_, ?_, ?_, ?_, ?_, trivial⟩ <;> intro a' w2 hb hf hd
        · exact ⟨wanted_none rfl, loc_load_rowG rfl (hf.base 7 rfl) (HI.out.1.keep hb).row Try.underlying28 rfl sizeRo rfl⟩
        · exact ⟨wanted_none rfl, loc_load_rowG rfl (hf.base 5 rfl) (HI.out.2.1.keep hb).row Try.underlying30 rfl (sizePl a c p) rfl⟩
        · exact ⟨wanted_none rfl, loc_move rfl (hf.base 6 rfl)⟩
        · exact ⟨wanted_none rfl, loc_move rfl (hf.base 9 rfl)⟩
        · exact ⟨wanted_none rfl, loc_index_G 2 rfl (hd 2 rfl) (hd 3 rfl) hlt (by kernel_rfl) (by kernel_rfl) rfl⟩
        · exact ⟨wanted_none rfl, loc_load_rowG rfl (hd 4 rfl) (HROW.out w2 (below_trans HB1.out hb)) Try.underlying24 rfl (sizeIn y1 y2) rfl⟩
        · refine ⟨wanted_none rfl, loc_call rfl (by kernel_rfl) ?_⟩
          show Calls _ _ #[a'.eval (.tmp 24), a'.eval (.tmp 25), a'.eval (.tmp 29)] w2 _
          rw [show a'.eval (.tmp 24) = .agg #[.int .i64 r1, .int .i64 r2, .int .i64 r3, .int .i64 r4, .int .i64 r5, .int .i64 r6] from hd 0 rfl, show a'.eval (.tmp 25) = PlV a c p from hd 1 rfl, show a'.eval (.tmp 29) = .agg #[.int .i64 y1, .int .i64 y2] from hd 5 rfl]
          refine (rStep_eq (r := ⟨r1, r2, r3, ⟨r4, r5, r6⟩⟩) (x := (y1, y2)) w2 HM.out.1 HINV.out (HM.out.2.2.1.keepP (below_trans HB1.out hb)) HST.out).mono ?_
          rintro e w3 ⟨rfl, h3⟩
          exact ⟨_, rfl, h3, rfl⟩
        · exact ⟨wanted_none rfl, loc_alloc_G rfl hb.size (by kernel_rfl) fun v w' h => h⟩
      · intro a' w2 hb hf hd
        refine ⟨wanted_none rfl, ?_⟩
        obtain ⟨q, e6, hqB, hq⟩ := hd 7 (by decide) (by decide)
        have ev : a'.eval (.tmp 30) = .agg #[.int .i64 x1, .int .i64 x2, .int .i64 x3, .int .i64 x4, .int .i64 x5, .int .i64 x6] := hd 6 (by decide) (by decide)
        have eq' : a'.eval (.tmp 10) = .pointer (some ⟨q, 0, none⟩) := e6
        refine wp_store_row 28 _ _ rfl q #[.int .i64 x1, .int .i64 x2, .int .i64 x3, .int .i64 x4, .int .i64 x5, .int .i64 x6] e6 ev 28 _ hq sizeRo rfl (oneRo ..) ?_
        have HB4 := Box.mk (show Below gp w1 (w2.setRow q #[.int .i64 x1, .int .i64 x2, .int .i64 x3, .int .i64 x4, .int .i64 x5, .int .i64 x6]) from below_setRow (HI.out.2.2.trans (hb.mono (by omega))) (by omega) _)
        have HR4 := Box.mk (show VarA (w2.setRow q #[.int .i64 x1, .int .i64 x2, .int .i64 x3, .int .i64 x4, .int .i64 x5, .int .i64 x6]) (gp + 1) #[.int .i64 r1, .int .i64 r2, .int .i64 r3, .int .i64 r4, .int .i64 r5, .int .i64 r6] 28 from (HI.out.1.keep hb).row_other (by omega))
        have HV4 := Box.mk (show VarA (w2.setRow q #[.int .i64 x1, .int .i64 x2, .int .i64 x3, .int .i64 x4, .int .i64 x5, .int .i64 x6]) gp (PlC a c p) 30 from (HI.out.2.1.keep hb).row_other (by omega))
        have HX4 := Box.mk (show VarA (w2.setRow q #[.int .i64 x1, .int .i64 x2, .int .i64 x3, .int .i64 x4, .int .i64 x5, .int .i64 x6]) q #[.int .i64 x1, .int .i64 x2, .int .i64 x3, .int .i64 x4, .int .i64 x5, .int .i64 x6] 28 from setRow_heap _ _ _ _ _ _ hq)
        have hqg : gp + 1 < q := by omega
        refine hK _ _ ?_
        rw [fr_putAll hf]
        simp only [putAll, ev, eq']
        clear hf hd hb HI hK e6 ev eq' hq HB1
        generalize a'.eval (.tmp 24) = u24
        generalize a'.eval (.tmp 25) = u25
        generalize a'.eval (.tmp 26) = u26
        generalize a'.eval (.tmp 27) = u27
        generalize a'.eval (.tmp 28) = u28
        generalize a'.eval (.tmp 29) = u29
        simp only [Act.put, List.setIfInBounds_toArray, List.set_cons_succ, List.set_cons_zero]
        change Code.wp _ _ _ (Act.mk _ _) _
        generalize (w2.setRow q #[.int .i64 x1, .int .i64 x2, .int .i64 x3, .int .i64 x4, .int .i64 x5, .int .i64 x6]) = w4 at *
        have HB5 := Box.mk (show Below w1.heap.size w1 w4 by rw [HGP.out]; exact HB4.out)
        have hgl4 : gp + 1 < w4.heap.size := HR4.out.lt
        have hq4 : q < w4.heap.size := HX4.out.lt
        have HC := Box.mk (show VarA w4 (gp + 1) #[.int .i64 r1, .int .i64 r2, .int .i64 r3, .int .i64 r4, .int .i64 r5, .int .i64 r6] 28 ∧ VarA w4 gp (PlC a c p) 30 ∧ VarA w4 q #[.int .i64 x1, .int .i64 x2, .int .i64 x3, .int .i64 x4, .int .i64 x5, .int .i64 x6] 28 ∧ Below gp w1 w4 from ⟨HR4.out, HV4.out, HX4.out, HB4.out⟩)
        have hag0 : 0 ≤ r6 ∧ r6 ≤ 1000000 := by
          have hage := HINV.out
          unfold Ro.inv at hage
          simp only at hage
          have := hage.2.2.2.2.2; omega
        have a0 := HR4.out.cell (i := 0) (v := .int .i64 r1) rfl
        have a1 := HR4.out.cell (i := 1) (v := .int .i64 r2) rfl
        have a2 := HR4.out.cell (i := 2) (v := .int .i64 r3) rfl
        have a3 := HR4.out.cell (i := 3) (v := .int .i64 r4) rfl
        have a4 := HR4.out.cell (i := 4) (v := .int .i64 r5) rfl
        have a5 := HR4.out.cell (i := 5) (v := .int .i64 r6) rfl
        have c0 := HV4.out.cell (i := 0) (v := .slice a p.ws.length c) rfl
        have c1 := HV4.out.cell (i := 1) (v := .int .i64 p.ms) rfl
        have c2 := HV4.out.cell (i := 2) (v := .int .i64 p.num) rfl
        have c3 := HV4.out.cell (i := 3) (v := .int .i64 p.den) rfl
        have c4 := HV4.out.cell (i := 4) (v := .int .i64 p.hold) rfl
        have c5 := HV4.out.cell (i := 5) (v := .int .i64 p.win) rfl
        have yy0 := HROW.out w4 HB5.out 0 (.int .i64 y1) rfl
        have yz0 : w4.cell? (ad.add (k * 2)) = some (.int .i64 y1) := yy0
        clear HR4 HV4 HX4 HB4
        go_upto_region 8 with fail
        go_cut [50] (fun v wx => w4 = wx ∧ v = .bool cd)
        case first =>
          have HG := Box.mk (show ∀ z : Bool, (decide ((r1 = 1 ∧ y1 = 1) ∧ ¬ r6 + 1 < p.win) = z) → Value.bool z = .bool cd from fun z h => by rw [HCD.out, h])
          by_cases h1 : r1 = 1
          · have e1 := beq_i_yes h1
            by_cases h2 : y1 = 1
            · have e2 := beq_i_yes h2
              by_cases h3 : r6 + 1 < p.win
              · have e3 : decide (p.win ≤ r6 + 1) = false := decide_eq_false (by omega)
                go_wp2_with fail
                go_meet
                exact ⟨rfl, HG.out false (decide_eq_false fun h => absurd h3 (by have := h.2; omega))⟩
              · have e3 : decide (p.win ≤ r6 + 1) = true := decide_eq_true (by omega)
                go_wp2_with fail
                go_meet
                exact ⟨rfl, HG.out true (decide_eq_true ⟨⟨h1, h2⟩, h3⟩)⟩
            · have e2 := beq_i_no h2
              go_wp2_with fail
              go_meet
              exact ⟨rfl, HG.out false (decide_eq_false fun h => h2 h.1.2)⟩
          · have e1 := beq_i_no h1
            go_wp2_with fail
            go_meet
            exact ⟨rfl, HG.out false (decide_eq_false fun h => h1 h.1.1)⟩
        case rest =>
          obtain ⟨rfl, rfl⟩ := hcut
          clear HCD
          go_upto_if 50 with fail
          go_cut [8] (fun v wx => v = .int .i64 t1 ∧ Box (VarA wx (gp + 1) #[.int .i64 r1, .int .i64 r2, .int .i64 r3, .int .i64 r4, .int .i64 r5, .int .i64 r6] 28 ∧ VarA wx gp (PlC a c p) 30 ∧ VarA wx q #[.int .i64 x1, .int .i64 x2, .int .i64 x3, .int .i64 x4, .int .i64 x5, .int .i64 x6] 28 ∧ Below gp w1 wx))
          case first =>
            cases cd
            · go_wp2_with fail
              go_meet
              exact ⟨ret_vintL (by rw [HT1.out]; rfl), HC⟩
            · have HT := Box.mk (show (if vd = 2 then s + 1 else 0) = t1 by rw [HT1.out]; rfl)
              clear HT1
              go_wp2_with fail
              refine (pVerdict_eq (p := p) (v := ⟨r4, r5, r6⟩) w4 (HM.out.2.2.1.keepP HB5.out) HPR.out (by have := HINV.out; unfold Ro.inv at this; unfold Wn.rng i64P; simp only at this ⊢; omega) HVD.out).mono ?_
              rintro e w5 ⟨rfl, hb⟩
              have HC5 := Box.mk (show VarA w5 (gp + 1) #[.int .i64 r1, .int .i64 r2, .int .i64 r3, .int .i64 r4, .int .i64 r5, .int .i64 r6] 28 ∧ VarA w5 gp (PlC a c p) 30 ∧ VarA w5 q #[.int .i64 x1, .int .i64 x2, .int .i64 x3, .int .i64 x4, .int .i64 x5, .int .i64 x6] 28 ∧ Below gp w1 w5 from ⟨HC.out.1.keep hb, HC.out.2.1.keep hb, HC.out.2.2.1.keep hb, HC.out.2.2.2.trans (hb.mono (by omega))⟩)
              clear hb
              by_cases h4 : vd = 2
              · have e4 := beq_i_yes h4
                have HTT := Box.mk (show s + 1 = t1 by rw [← HT.out, if_pos h4])
                clear HT
                go_wp2_with fail
                go_meet
                exact ⟨ret_vintL HTT.out, HC5⟩
              · have e4 := beq_i_no h4
                have HTT := Box.mk (show 0 = t1 by rw [← HT.out, if_neg h4])
                clear HT
                go_wp2_with fail
                go_meet
                exact ⟨ret_vintL HTT.out, HC5⟩
          case rest =>
            obtain ⟨rfl, HD⟩ := hcut
            clear HC HB5 a0 a1 a2 a3 a4 a5 c0 c1 c2 c3 c4 c5 yy0 yz0 hgl4 hq4 HVD HT1
            have HB5 := Box.mk (show Below w1.heap.size w1 wc by rw [HGP.out]; exact HD.out.2.2.2)
            have a0 := HD.out.1.cell (i := 0) (v := .int .i64 r1) rfl
            have a1 := HD.out.1.cell (i := 1) (v := .int .i64 r2) rfl
            have a2 := HD.out.1.cell (i := 2) (v := .int .i64 r3) rfl
            have a3 := HD.out.1.cell (i := 3) (v := .int .i64 r4) rfl
            have a4 := HD.out.1.cell (i := 4) (v := .int .i64 r5) rfl
            have a5 := HD.out.1.cell (i := 5) (v := .int .i64 r6) rfl
            have b0 := HD.out.2.2.1.cell (i := 0) (v := .int .i64 x1) rfl
            have b1 := HD.out.2.2.1.cell (i := 1) (v := .int .i64 x2) rfl
            have b2 := HD.out.2.2.1.cell (i := 2) (v := .int .i64 x3) rfl
            have b3 := HD.out.2.2.1.cell (i := 3) (v := .int .i64 x4) rfl
            have b4 := HD.out.2.2.1.cell (i := 4) (v := .int .i64 x5) rfl
            have b5 := HD.out.2.2.1.cell (i := 5) (v := .int .i64 x6) rfl
            have yy0 := HROW.out wc HB5.out 0 (.int .i64 y1) rfl
            have yz0 : wc.cell? (ad.add (k * 2)) = some (.int .i64 y1) := yy0
            have c4 := HD.out.2.1.cell (i := 4) (v := .int .i64 p.hold) rfl
            go_upto_region 12 with fail
            go_cut [11] (fun v wx => wc = wx ∧ v = .bool bt)
            case first =>
              have HG := Box.mk (show ∀ z : Bool, (decide (y1 = 1 ∧ ((x1 = 2 ∧ ¬ r1 = 2) ∨ (x1 = 1 ∧ r2 < x2))) = z) → Value.bool z = .bool bt from fun z h => by rw [HBT.out, h])
              by_cases h1 : y1 = 1
              · have e1 := beq_i_yes h1
                by_cases h2 : x1 = 2
                · have e2 := beq_i_yes h2
                  by_cases h3 : r1 = 2
                  · have e3 := beq_i_yes h3
                    have e4 : (x1 == 1) = false := beq_i_no (by omega)
                    have f3 := bne_i_no h3
                    go_wp2_with fail
                    go_meet
                    exact ⟨rfl, HG.out false (decide_eq_false fun h => by omega)⟩
                  · have e3 := beq_i_no h3
                    have f3 := bne_i_yes h3
                    go_wp2_with fail
                    go_meet
                    exact ⟨rfl, HG.out true (decide_eq_true ⟨h1, .inl ⟨h2, h3⟩⟩)⟩
                · have e2 := beq_i_no h2
                  by_cases h4 : x1 = 1
                  · have e4 := beq_i_yes h4
                    by_cases h5 : r2 < x2
                    · have e5 := decide_eq_true h5
                      go_wp2_with fail
                      go_meet
                      exact ⟨rfl, HG.out true (decide_eq_true ⟨h1, .inr ⟨h4, h5⟩⟩)⟩
                    · have e5 := decide_eq_false h5
                      go_wp2_with fail
                      go_meet
                      exact ⟨rfl, HG.out false (decide_eq_false fun h => by omega)⟩
                  · have e4 := beq_i_no h4
                    go_wp2_with fail
                    go_meet
                    exact ⟨rfl, HG.out false (decide_eq_false fun h => by omega)⟩
              · have e1 := beq_i_no h1
                go_wp2_with fail
                go_meet
                exact ⟨rfl, HG.out false (decide_eq_false fun h => h1 h.1)⟩
            case rest =>
              obtain ⟨rfl, rfl⟩ := hcut
              clear HBT a0 a1 a2 a3 a4 a5 yy0 yz0
              go_upto_if 86 with fail
              go_cut [8] (fun v wx => wc = wx ∧ v = .int .i64 t2)
              case first =>
                cases bt
                · go_wp2_with fail
                  go_meet
                  exact ⟨rfl, ret_vintL (by rw [HT2.out]; rfl)⟩
                · have e6 : decide (t1 < p.hold) = false := decide_eq_false (by have := HF.out.1 rfl; omega)
                  go_wp2_with fail
                  go_meet
                  exact ⟨rfl, ret_vintL (by rw [HT2.out]; rfl)⟩
              case rest =>
                obtain ⟨rfl, rfl⟩ := hcut
                clear HT2 c4
                go_upto_region 17 with fail
                go_cut [99] (fun v wx => wc = wx ∧ v = .bool false)
                case first =>
                  by_cases h1 : x1 = 1
                  · have e1 := beq_i_yes h1
                    have e2 := beq_i_yes (HF.out.2.1 h1)
                    have HN2 := Box.mk (bne_i_no (HF.out.2.1 h1))
                    go_wp2_with fail
                    go_meet
                    exact ⟨rfl, ret_vboolL HN2.out⟩
                  · have e1 := beq_i_no h1
                    go_wp2_with fail
                    go_meet
                    exact ⟨rfl, rfl⟩
                case rest =>
                  obtain ⟨rfl, rfl⟩ := hcut
                  go_upto_region 19 with fail
                  go_cut [107] (fun v wx => wc = wx ∧ v = .bool nl)
                  case first =>
                    have HG := Box.mk (show ∀ z : Bool, (decide (¬ x1 = 1 ∧ ¬ x1 = 4) = z) → Value.bool z = .bool nl from fun z h => by rw [HNL.out, h])
                    by_cases h1 : x1 = 1
                    · have e1 := beq_i_yes h1
                      have f1 := bne_i_no h1
                      go_wp2_with fail
                      go_meet
                      exact ⟨rfl, HG.out false (decide_eq_false fun h => h.1 h1)⟩
                    · have e1 := beq_i_no h1
                      have f1 := bne_i_yes h1
                      by_cases h4 : x1 = 4
                      · have e4 := beq_i_yes h4
                        have f4 := bne_i_no h4
                        go_wp2_with fail
                        go_meet
                        exact ⟨rfl, HG.out false (decide_eq_false fun h => h.2 h4)⟩
                      · have e4 := beq_i_no h4
                        have f4 := bne_i_yes h4
                        go_wp2_with fail
                        go_meet
                        exact ⟨rfl, HG.out true (decide_eq_true ⟨h1, h4⟩)⟩
                  case rest =>
                    obtain ⟨rfl, rfl⟩ := hcut
                    clear HNL
                    go_upto_if 107 with fail
                    go_cut [8] (fun v wx => wc = wx ∧ v = .int .i64 t3)
                    case first =>
                      cases nl
                      · go_wp2_with fail
                        go_meet
                        exact ⟨rfl, ret_vintL (by rw [HT3.out]; rfl)⟩
                      · go_wp2_with fail
                        go_meet
                        exact ⟨rfl, ret_vintL (by rw [HT3.out]; rfl)⟩
                    case rest =>
                      obtain ⟨rfl, rfl⟩ := hcut
                      clear HT3
                      have HN := Box.mk (show VarA (wc.setRow (gp + 1) #[.int .i64 x1, .int .i64 x2, .int .i64 x3, .int .i64 x4, .int .i64 x5, .int .i64 x6]) (gp + 1) #[.int .i64 x1, .int .i64 x2, .int .i64 x3, .int .i64 x4, .int .i64 x5, .int .i64 x6] 28 ∧ VarA (wc.setRow (gp + 1) #[.int .i64 x1, .int .i64 x2, .int .i64 x3, .int .i64 x4, .int .i64 x5, .int .i64 x6]) gp (PlC a c p) 30 ∧ Below gp w1 (wc.setRow (gp + 1) #[.int .i64 x1, .int .i64 x2, .int .i64 x3, .int .i64 x4, .int .i64 x5, .int .i64 x6]) from
                        ⟨setRow_heap _ _ _ _ _ _ HD.out.1, HD.out.2.1.row_other (by omega), below_setRow HD.out.2.2.2 (by omega) _⟩)
                      go_upto_region 21 with fail
                      go_wp2_with (refine wpList_store_row rfl 28 _ _ rfl (gp + 1) #[.int .i64 x1, .int .i64 x2, .int .i64 x3, .int .i64 x4, .int .i64 x5, .int .i64 x6] rfl rfl 28 _ HD.out.1 sizeRo rfl (oneRo ..) ?_)
                      go_roundw
                      case rel => exact ⟨k + 1, by omega, ret_vintL (by rw [HXE.out]; exact HF.out.2.2), by go_num, ⟨by rw [HXE.out]; exact HN.out.1, HN.out.2.1, HN.out.2.2⟩⟩
                      case measure => simp [intOf]; omega
    · go_wp2_with fail
      refine (roAwake_any wr).mono ?_
      rintro e w5 ⟨rfl, hb5⟩
      go_wp2_with fail
      go_ret
      exact ⟨rfl, below_trans HM.out.2.2.2.2.2.2.2 (below_trans HB1.out hb5)⟩
end Go.Proofs.Ytfjnpegpfmaekaa
namespace Go.Proofs.Ytfjnpegpfmaekaa
open Go.RowKit
set_option linter.unusedSimpArgs false

theorem stepV_paused {r2 r3 r4 r5 r6 : Int} {p : Pl} {x : Int × Int} (h : ¬ x.1 = 4) : stepV ⟨4, r2, r3, ⟨r4, r5, r6⟩⟩ p x = ⟨4, r2, r3, ⟨r4, r5, r6⟩⟩ := by
  unfold stepV
  by_cases h1 : x.1 = 1
  · rw [if_pos h1]; unfold tickR; exact if_neg (show ¬ (4 : Int) = 1 by decide)
  · rw [if_neg h1]
    by_cases h2 : x.1 = 2
    · rw [if_pos h2]; unfold obsV; exact if_neg (show ¬ (4 : Int) = 1 by decide)
    · rw [if_neg h2]
      by_cases h3 : x.1 = 3
      · rw [if_pos h3]; unfold obsV; exact if_neg (show ¬ (4 : Int) = 1 by decide)
      · rw [if_neg h3, if_neg h]

theorem rCommand_eq {r R : Ro} {k er : Int} (w : World) (h : cmdV r k = (R, er)) :
    Calls Try.prog 21 #[.agg r.cells, .int .i64 k] w fun e w' => e = .returned (.tuple #[.agg R.cells, .int .i64 er]) ∧ Below w.heap.size w w' := by
  have e1 : (cmdV r k).1 = R := by rw [h]
  have e2 : (cmdV r k).2 = er := by rw [h]
  rw [← e1, ← e2]; exact rCommand_any r k w

set_option maxRecDepth 100000 in
set_option maxHeartbeats 4000000 in
theorem rolloutPaused_any (la : Option Addr) (ln lc : Nat) (ma : Option Addr) (mn mc : Nat) (na : Option Addr) (nn nc : Nat) (w : World) (hl : IntsF w la ln) (hn : ln ≤ maxLen) (hm : IntsF w ma mn) (hmn : mn ≤ maxLen) (hmc : mn ≤ mc) (hma : 0 < mn → ∃ ad, ma = some ad) (hk : IntsF w na nn) (hkn : nn ≤ maxLen) (hkc : nn ≤ nc) (hka : 0 < nn → ∃ ad, na = some ad) :
    Calls Try.prog 8 #[.slice la ln lc, .slice ma mn mc, .slice na nn nc] w fun e w' => e = .returned (.bool true) ∧ Below w.heap.size w w' := by
  have HIN := Box.mk (And.intro hl (And.intro hn (And.intro hm (And.intro hmn (And.intro hmc hma)))))
  have HKN := Box.mk (And.intro hk (And.intro hkn (And.intro hkc hka)))
  clear hl hn hm hmn hmc hma hk hkn hkc hka
  go_enter Try.func8, Try.ntmps8
  go_wp2_with fail
  refine (roMade_any la ln lc ma mn mc w HIN.out.1 HIN.out.2.1 HIN.out.2.2.1 HIN.out.2.2.2.1 HIN.out.2.2.2.2.1 HIN.out.2.2.2.2.2).mono ?_
  rintro e w1 ⟨p, a, c, l, b, d, rfl, hM⟩
  have HM := Box.mk hM
  obtain ⟨R, hR⟩ : ∃ R, runV p l = R := ⟨_, rfl⟩
  have HR := Box.mk hR
  obtain ⟨W, hW⟩ : ∃ W, W = w1.alloc (.cells (PlC a c p) 30) := ⟨_, rfl⟩
  have HB := Box.mk (show Below w1.heap.size w1 W by rw [hW]; exact below_oneF w1 _)
  have HV := Box.mk (show VarA W w1.heap.size (PlC a c p) 30 by rw [hW]; exact VarA.new _ _ _)
  have HK := Box.mk (HKN.out.1.keep (below_trans hM.2.2.2.2.2.2.2 HB.out))
  have HW0 := Box.mk (below_trans hM.2.2.2.2.2.2.2 HB.out)
  clear hM HIN hR
  unfold PlV
  go_upto_region 2 with fail
  change Code.wp _ _ _ _ (w1.alloc (.cells (PlC a c p) 30))
  rw [← hW]
  clear hW
  generalize hgp : w1.heap.size = gp at HV
  clear hgp
  have c0 := HV.out.cell (i := 0) (v := .slice a p.ws.length c) rfl
  have c1 := HV.out.cell (i := 1) (v := .int .i64 p.ms) rfl
  have c2 := HV.out.cell (i := 2) (v := .int .i64 p.num) rfl
  have c3 := HV.out.cell (i := 3) (v := .int .i64 p.den) rfl
  have c4 := HV.out.cell (i := 4) (v := .int .i64 p.hold) rfl
  have c5 := HV.out.cell (i := 5) (v := .int .i64 p.win) rfl
  obtain ⟨r1, r2, r3, ⟨r4, r5, r6⟩⟩ := R
  go_wp2_with fail
  refine (refRun_eq W HM.out.1 (HM.out.2.2.1.keepP HB.out) (HM.out.2.2.2.1.keep HB.out) (by have := HM.out.2.2.2.2.1; omega) HR.out).mono ?_
  rintro e w2 ⟨he, hb⟩
  simp only [Ro.cells] at he
  subst he
  obtain ⟨W2, hW2⟩ : ∃ W2, W2 = w2.alloc (.cells #[.int .i64 r1, .int .i64 r2, .int .i64 r3, .int .i64 r4, .int .i64 r5, .int .i64 r6] 28) := ⟨_, rfl⟩
  have HB2 := Box.mk (show Below W.heap.size W W2 by rw [hW2]; exact below_twoF hb _)
  have HR2 := Box.mk (show VarA W2 w2.heap.size #[.int .i64 r1, .int .i64 r2, .int .i64 r3, .int .i64 r4, .int .i64 r5, .int .i64 r6] 28 by rw [hW2]; exact VarA.new _ _ _)
  have HV2 := Box.mk (HV.out.keep HB2.out)
  have HINT := Box.mk (show IsInts W2 a p.ws c from (HM.out.2.2.1.keepP HB.out).keepP HB2.out)
  have HOK := Box.mk (show p.ok = true ∧ Ro.inv ⟨r1, r2, r3, ⟨r4, r5, r6⟩⟩ p from ⟨HM.out.1, by have h := runV_inv HM.out.1 l l.length (Nat.le_refl _); rw [List.take_of_length_le (Nat.le_refl _), HR.out] at h; exact h⟩)
  clear hb HM HR HB c0 c1 c2 c3 c4 c5 HV
  go_upto_region 3 with fail
  change Code.wp _ _ _ _ (w2.alloc (.cells #[.int .i64 r1, .int .i64 r2, .int .i64 r3, .int .i64 r4, .int .i64 r5, .int .i64 r6] 28))
  rw [← hW2]
  clear hW2
  generalize w2.heap.size = gr at *
  have a0 := HR2.out.cell (i := 0) (v := .int .i64 r1) rfl
  have a1 := HR2.out.cell (i := 1) (v := .int .i64 r2) rfl
  have a2 := HR2.out.cell (i := 2) (v := .int .i64 r3) rfl
  have a3 := HR2.out.cell (i := 3) (v := .int .i64 r4) rfl
  have a4 := HR2.out.cell (i := 4) (v := .int .i64 r5) rfl
  have a5 := HR2.out.cell (i := 5) (v := .int .i64 r6) rfl
  by_cases k1 : r1 = 1
  · subst k1
    have hc : cmdV ⟨1, r2, r3, ⟨r4, r5, r6⟩⟩ 2 = (⟨4, r2, r3, ⟨r4, r5, r6⟩⟩, 0) := rfl
    have HC := Box.mk hc
    clear hc
    go_wp2_with fail
    refine (rCommand_eq (r := ⟨1, r2, r3, ⟨r4, r5, r6⟩⟩) W2 HC.out).mono ?_
    rintro e w3 ⟨he, hb⟩
    simp only [Ro.cells] at he
    subst he
    obtain ⟨W3, hW3⟩ : ∃ W3, W3 = w3.alloc (.cells #[.int .i64 4, .int .i64 r2, .int .i64 r3, .int .i64 r4, .int .i64 r5, .int .i64 r6] 28) := ⟨_, rfl⟩
    have HB3 := Box.mk (show Below W2.heap.size W2 W3 by rw [hW3]; exact below_twoF hb _)
    have HA3 := Box.mk (show VarA W3 w3.heap.size #[.int .i64 4, .int .i64 r2, .int .i64 r3, .int .i64 r4, .int .i64 r5, .int .i64 r6] 28 by rw [hW3]; exact VarA.new _ _ _)
    clear hb HC a0 a1 a2 a3 a4 a5
    go_upto_region 6 with fail
    change Code.wp _ _ _ _ (w3.alloc (.cells #[.int .i64 4, .int .i64 r2, .int .i64 r3, .int .i64 r4, .int .i64 r5, .int .i64 r6] 28))
    rw [← hW3]
    clear hW3
    generalize w3.heap.size = ga at *
    have HB23 := Box.mk (below_trans HB2.out HB3.out)
    go_wp2_with fail
    refine (madeInputs_any na nn nc W3 (HK.out.keep HB23.out) HKN.out.2.1 HKN.out.2.2.1 HKN.out.2.2.2).mono ?_
    rintro e w4 ⟨l2, b2, d2, rfl, hl2, hl3, -, hall, -, hb⟩
    have HB4 := Box.mk (below_trans HB3.out hb)
    have HA4 := Box.mk (HA3.out.keep hb)
    have HL := Box.mk hl2
    have HX := Box.mk (show VarA (w4.alloc (.cells #[.int .i64 4, .int .i64 r2, .int .i64 r3, .int .i64 r4, .int .i64 r5, .int .i64 r6] 28)) w4.heap.size #[.int .i64 4, .int .i64 r2, .int .i64 r3, .int .i64 r4, .int .i64 r5, .int .i64 r6] 28 from VarA.new _ _ _)
    have HBX := Box.mk (below_oneF w4 (.cells #[.int .i64 4, .int .i64 r2, .int .i64 r3, .int .i64 r4, .int .i64 r5, .int .i64 r6] 28))
    have HIN4 := Box.mk (HINT.out.keepP HB4.out)
    have HV4 := Box.mk (HV2.out.keep HB4.out)
    have HR4 := Box.mk (HR2.out.keep HB4.out)
    have HBW := Box.mk (below_trans HW0.out (below_trans HB2.out HB4.out))
    clear hb hl2 hall HA3 HB23 HB3 HK HINT HV2 HR2 HKN HB4 HB2 HW0
    have a0 := HA4.out.cell (i := 0) (v := .int .i64 4) rfl
    have a1 := HA4.out.cell (i := 1) (v := .int .i64 r2) rfl
    have a2 := HA4.out.cell (i := 2) (v := .int .i64 r3) rfl
    have a3 := HA4.out.cell (i := 3) (v := .int .i64 r4) rfl
    have a4 := HA4.out.cell (i := 4) (v := .int .i64 r5) rfl
    have a5 := HA4.out.cell (i := 5) (v := .int .i64 r6) rfl
    obtain ⟨W5, hW5⟩ : ∃ W5, W5 = w4.alloc (.cells #[.int .i64 4, .int .i64 r2, .int .i64 r3, .int .i64 r4, .int .i64 r5, .int .i64 r6] 28) := ⟨_, rfl⟩
    rw [← hW5] at HX HBX
    go_upto_region 8 with fail
    change Code.wp _ _ _ _ (w4.alloc (.cells #[.int .i64 4, .int .i64 r2, .int .i64 r3, .int .i64 r4, .int .i64 r5, .int .i64 r6] 28))
    rw [← hW5]
    clear hW5 a0 a1 a2 a3 a4 a5 HA4
    generalize hgx : w4.heap.size = gx at HX
    have HGX := Box.mk hgx
    clear hgx
    go_wp2_with fail
    go_loopw [14] (fun iv wr => ∃ k : Nat, k ≤ l2.length ∧ iv = .int .i64 k ∧ Box (VarA wr gx #[.int .i64 4, .int .i64 r2, .int .i64 r3, .int .i64 r4, .int .i64 r5, .int .i64 r6] 28 ∧ Below w4.heap.size w4 wr)) (fun iv _ => l2.length - (intOf iv).toNat)
    case atStart => exact ⟨0, Nat.zero_le _, rfl, ⟨HX.out, HBX.out⟩⟩
    case round =>
      clear HX HBX
      obtain ⟨k, hk, rfl, HI⟩ := hrel
      by_cases hlt : k < l2.length
      · obtain ⟨x, rfl, _⟩ := HL.out k hlt
        have HROW := Box.mk (fun w' (hb : Below w4.heap.size w4 w') => (HL.out.keep hb).row hlt)
        generalize l2[k] = y at *
        obtain ⟨y1, y2⟩ := y
        simp only at HROW
        have y0c := HROW.out wr HI.out.2 0 (.int .i64 y1) rfl
        have y0d : wr.cell? (x.add (k * 2)) = some (.int .i64 y1) := by rw [Go.Deep.add_add] at y0c; exact y0c
        have HLE := Box.mk y0d
        clear y0c
        by_cases h4 : y1 = 4
        · go_wp2_with fail
          go_roundw
          case rel => exact ⟨k + 1, by omega, by go_num, HI⟩
          case measure => simp [intOf]; omega
        · have HST := Box.mk (stepV_paused (r2 := r2) (r3 := r3) (r4 := r4) (r5 := r5) (r6 := r6) (p := p) (x := (y1, y2)) h4)
          go_upto_region 12 with fail
          rename_i K hK _
          refine wp_region_last (S := [some (.val (.agg #[.int .i64 4, .int .i64 r2, .int .i64 r3, .int .i64 r4, .int .i64 r5, .int .i64 r6])), some (.val (PlV a c p)), some (.val (.slice (some x) l2.length d2)), some (.val (.int .i64 k)), some (.val (.pointer (some (x.add (k * 2))))), some (.val (.agg #[.int .i64 y1, .int .i64 y2])), some (.val (.agg #[.int .i64 4, .int .i64 r2, .int .i64 r3, .int .i64 r4, .int .i64 r5, .int .i64 r6])), none]) 7
            (by kernel_rfl) (by kernel_rfl) (by kernel_rfl) (by kernel_rfl) rfl rfl rfl ?_ ?_
          · refine ⟨?_, ?_, ?_, ?_, ?_, ?_, ?_, trivial⟩ <;> intro a' w6 hb hf hd
            · exact ⟨wanted_none rfl, loc_load_rowG rfl (hf.base 13 rfl) (HI.out.1.keep hb).row Try.underlying28 rfl sizeRo rfl⟩
            · exact ⟨wanted_none rfl, loc_load_rowG rfl (hf.base 7 rfl) ((HV4.out.keep HI.out.2).keep hb).row Try.underlying30 rfl (sizePl a c p) rfl⟩
            · exact ⟨wanted_none rfl, loc_move rfl (hf.base 12 rfl)⟩
            · exact ⟨wanted_none rfl, loc_move rfl (hf.base 14 rfl)⟩
            · exact ⟨wanted_none rfl, loc_index_G 2 rfl (hd 2 rfl) (hd 3 rfl) hlt (by kernel_rfl) (by kernel_rfl) rfl⟩
            · exact ⟨wanted_none rfl, loc_load_rowG rfl (hd 4 rfl) (HROW.out w6 (below_trans HI.out.2 hb)) Try.underlying24 rfl (sizeIn y1 y2) rfl⟩
            · refine ⟨wanted_none rfl, loc_call rfl (by kernel_rfl) ?_⟩
              show Calls _ _ #[a'.eval (.tmp 53), a'.eval (.tmp 54), a'.eval (.tmp 58)] w6 _
              rw [show a'.eval (.tmp 53) = .agg #[.int .i64 4, .int .i64 r2, .int .i64 r3, .int .i64 r4, .int .i64 r5, .int .i64 r6] from hd 0 rfl, show a'.eval (.tmp 54) = PlV a c p from hd 1 rfl, show a'.eval (.tmp 58) = .agg #[.int .i64 y1, .int .i64 y2] from hd 5 rfl]
              refine (rStep_eq (r := ⟨4, r2, r3, ⟨r4, r5, r6⟩⟩) (x := (y1, y2)) w6 HOK.out.1 (by have := HOK.out.2; unfold Ro.inv at *; simp only at *; omega) ((HIN4.out.keepP HI.out.2).keepP hb) HST.out).mono ?_
              rintro e w7 ⟨rfl, h3⟩
              exact ⟨_, rfl, h3, rfl⟩
          · intro a' w6 hb hf hd
            refine ⟨wanted_none rfl, ?_⟩
            have ev : a'.eval (.tmp 59) = .agg #[.int .i64 4, .int .i64 r2, .int .i64 r3, .int .i64 r4, .int .i64 r5, .int .i64 r6] := hd 6 (by decide) (by decide)
            refine wp_store_row 28 _ _ rfl gx #[.int .i64 4, .int .i64 r2, .int .i64 r3, .int .i64 r4, .int .i64 r5, .int .i64 r6] (hf.base 13 rfl) ev 28 _ (HI.out.1.keep hb) sizeRo rfl (oneRo ..) ?_
            have HN := Box.mk (show VarA (w6.setRow gx #[.int .i64 4, .int .i64 r2, .int .i64 r3, .int .i64 r4, .int .i64 r5, .int .i64 r6]) gx #[.int .i64 4, .int .i64 r2, .int .i64 r3, .int .i64 r4, .int .i64 r5, .int .i64 r6] 28 ∧ Below w4.heap.size w4 (w6.setRow gx #[.int .i64 4, .int .i64 r2, .int .i64 r3, .int .i64 r4, .int .i64 r5, .int .i64 r6]) from
              ⟨setRow_heap _ _ _ _ _ _ (HI.out.1.keep hb), below_setRow (below_trans HI.out.2 hb) (by rw [HGX.out]; exact Nat.le_refl _) _⟩)
            refine hK _ _ ?_
            rw [fr_putAll hf]
            simp only [putAll, ev]
            clear hf hd hb HI HROW HST HLE y0d ev hK
            generalize a'.eval (.tmp 53) = u53
            generalize a'.eval (.tmp 54) = u54
            generalize a'.eval (.tmp 55) = u55
            generalize a'.eval (.tmp 56) = u56
            generalize a'.eval (.tmp 57) = u57
            generalize a'.eval (.tmp 58) = u58
            simp only [Act.put, List.setIfInBounds_toArray, List.set_cons_succ, List.set_cons_zero]
            go_wp2_with fail
            go_roundw
            case rel => exact ⟨k + 1, by omega, by go_num, HN⟩
            case measure => simp [intOf]; omega
      · have hc : cmdV ⟨4, r2, r3, ⟨r4, r5, r6⟩⟩ 3 = (⟨1, r2, r3, ⟨r4, r5, r6⟩⟩, 0) := rfl
        have HC := Box.mk hc
        clear hc HL
        have a0 := HI.out.1.cell (i := 0) (v := .int .i64 4) rfl
        have a1 := HI.out.1.cell (i := 1) (v := .int .i64 r2) rfl
        have a2 := HI.out.1.cell (i := 2) (v := .int .i64 r3) rfl
        have a3 := HI.out.1.cell (i := 3) (v := .int .i64 r4) rfl
        have a4 := HI.out.1.cell (i := 4) (v := .int .i64 r5) rfl
        have a5 := HI.out.1.cell (i := 5) (v := .int .i64 r6) rfl
        go_wp2_with fail
        refine (rCommand_eq (r := ⟨4, r2, r3, ⟨r4, r5, r6⟩⟩) wr HC.out).mono ?_
        rintro e w8 ⟨he, hb⟩
        simp only [Ro.cells] at he
        subst he
        obtain ⟨W8, hW8⟩ : ∃ W8, W8 = w8.alloc (.cells #[.int .i64 1, .int .i64 r2, .int .i64 r3, .int .i64 r4, .int .i64 r5, .int .i64 r6] 28) := ⟨_, rfl⟩
        have HBB := Box.mk (show Below w4.heap.size w4 W8 by rw [hW8]; exact below_twoF (below_trans HI.out.2 hb) _)
        have HBV := Box.mk (show VarA W8 w8.heap.size #[.int .i64 1, .int .i64 r2, .int .i64 r3, .int .i64 r4, .int .i64 r5, .int .i64 r6] 28 by rw [hW8]; exact VarA.new _ _ _)
        have HR8 := Box.mk (HR4.out.keep HBB.out)
        clear hb HC HI a0 a1 a2 a3 a4 a5
        go_upto_region 14 with fail
        change Code.wp _ _ _ _ (w8.alloc (.cells #[.int .i64 1, .int .i64 r2, .int .i64 r3, .int .i64 r4, .int .i64 r5, .int .i64 r6] 28))
        rw [← hW8]
        clear hW8
        generalize w8.heap.size = gb at *
        have a0 := HBV.out.cell (i := 0) (v := .int .i64 1) rfl
        have a1 := HBV.out.cell (i := 1) (v := .int .i64 r2) rfl
        have a2 := HBV.out.cell (i := 2) (v := .int .i64 r3) rfl
        have a3 := HBV.out.cell (i := 3) (v := .int .i64 r4) rfl
        have a4 := HBV.out.cell (i := 4) (v := .int .i64 r5) rfl
        have a5 := HBV.out.cell (i := 5) (v := .int .i64 r6) rfl
        have b0 := HR8.out.cell (i := 0) (v := .int .i64 1) rfl
        have b1 := HR8.out.cell (i := 1) (v := .int .i64 r2) rfl
        have b2 := HR8.out.cell (i := 2) (v := .int .i64 r3) rfl
        have b3 := HR8.out.cell (i := 3) (v := .int .i64 r4) rfl
        have b4 := HR8.out.cell (i := 4) (v := .int .i64 r5) rfl
        have b5 := HR8.out.cell (i := 5) (v := .int .i64 r6) rfl
        go_wp2_with fail
        refine (roAwake_any W8).mono ?_
        rintro e w9 ⟨rfl, hb⟩
        go_wp2_with fail
        go_ret
        exact ⟨rfl, below_trans HBW.out (below_trans HBB.out hb)⟩
  · have hc : cmdV ⟨r1, r2, r3, ⟨r4, r5, r6⟩⟩ 2 = (roS 0, 7) := by
      show (if r1 = 1 then _ else _) = _
      rw [if_neg k1]
    have HC := Box.mk hc
    clear hc k1
    go_wp2_with fail
    refine (rCommand_eq (r := ⟨r1, r2, r3, ⟨r4, r5, r6⟩⟩) W2 HC.out).mono ?_
    rintro e w3 ⟨he, hb⟩
    rw [show (roS 0).cells = #[.int .i64 0, .int .i64 0, .int .i64 0, .int .i64 0, .int .i64 0, .int .i64 0] from rfl] at he
    subst he
    have HB3 := Box.mk (below_twoF (below_trans HW0.out (below_trans HB2.out hb)) (.cells #[.int .i64 0, .int .i64 0, .int .i64 0, .int .i64 0, .int .i64 0, .int .i64 0] 28))
    clear hb HC a0 a1 a2 a3 a4 a5
    go_wp2_with fail
    refine (roAwake_any _).mono ?_
    rintro e w4 ⟨rfl, hb⟩
    go_wp2_with fail
    go_ret
    exact ⟨rfl, below_trans HB3.out hb⟩
end Go.Proofs.Ytfjnpegpfmaekaa
