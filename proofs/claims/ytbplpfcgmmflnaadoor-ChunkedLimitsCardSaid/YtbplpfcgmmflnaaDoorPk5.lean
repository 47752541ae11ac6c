/- Package chunked: Feed. fields, name and awake of the laws; Short. The source of numbers of the laws, with its place: Next, Left, Bytes. wire of the laws on chunked bodies: the bytes that it makes. Append of a string to an own slice of bytes; wire of the laws on chunked bodies, walked. Package chunked: Decode and Encode. awake of the laws on chunked bodies. wire of the laws on chunked bodies, walked. The laws ChunkedDecode and ChunkedTorn, walked. Opening the arguments of the laws on fields. Opening a slice of numbers with its capacity. Opening a slice of numbers; the tables out of the listed variables. Queues: clone, Peek, SameQueue. Queues: Take. Queues: Take. Queues: the reference's Put. Regions of the laws on chunked bodies that call Feed and keep its results. -/
import Derived.Test.YtbplpfcgmmflnaaDoorPk1
import Derived.Test.YtbplpfcgmmflnaaDoorPk2
import Derived.Test.YtbplpfcgmmflnaaDoorPk3
import Derived.Test.YtbplpfcgmmflnaaDoorPk4
import Derived.Test.YtbplpfcgmmflnaaDoorRows
import Derived.WalkKit
import Derived.WalkSpells
import Derived.WalkLawsBesides
import Derived.BigQuiet
import Derived.Deep.QuietTactic
import Derived.Lib.Bytealg
import Derived.Lib.IndexLaws
import Derived.Lib.Hide
import Derived.Laws.IdiomStrings
import Derived.Lib.SlTrimSet
import Derived.Lib.IndexBytes
import Derived.Lib.Split
import Derived.Deep.AppendLies
import Derived.Shelf.Strings.SlTrimAscii
import Derived.Shelf.Strings.SplitShaped
import Derived.Shelf.LaysM
import Derived.Shelf.Strings.BuilderK
import Derived.Shelf.Strconv.Itoa4
import Derived.Test.YtbplpfcgmmflnaaDoorProg
import Derived.Lib.SplitLaws
import Derived.WalkSmall
import Derived.ProofKit
import Derived.OpenShut
import Derived.Lib.Strings
import Derived.SliceStrings
import Derived.Deep.Quiet
import Derived.Tactics
import Derived.KernelRfl
import Derived.Below
import Derived.Laws.Bits64
import Derived.Lib.SlBytesConst
import Derived.Maps.AppendAt
import Derived.Laws.AppendOwnNone
import Derived.Great.BuildSlice
import Derived.Laws.Rows
import Derived.Laws.BitsAllLaws
import Derived.Laws.Shifts
import Derived.Maps.OwnOps
import Derived.Maps.OwnSet
import Derived.Deep.SlicePairs
import Derived.Lib.AppendZerosOnto
import Derived.Lib.AppendStr
import Derived.Laws.CopyOwn
import Derived.OwnWalk
import Derived.Laws.Strings3
import Derived.Lib.ItoaMem
import Derived.Laws.Concat
import Derived.Deep.Matrix
import Derived.IntWalk
import Derived.Sort.Grow
import Derived.Lib.LaidTab
import Derived.LaidSub
import Derived.Lib.ConvBytes
import Derived.Laws.RangeAny
import Derived.Laws.Tables
import Derived.ArgAppend
import Derived.Deep.CutBlock
import Derived.Deep.CutRange
namespace Go.Proofs.YtbplpfcgmmflnaaDoor
open Go.RowKit

theorem isBytes_piece {w : World} {ad : Addr} {l : List UInt8} {c k q : Nat} (h : IsBytes w (some ad) l c) (_hk : k < l.length) (hq : k + q ≤ l.length) : IsBytes w (some (ad.add k)) ((l.drop k).take q) (c - k) := by
  rcases h with ⟨e, _⟩ | ⟨y, e, h1, h2, h3⟩
  · cases e
  · obtain rfl := Option.some.inj e
    refine .inr ⟨_, rfl, by rw [List.length_take, List.length_drop]; omega, by omega, fun j hj => ?_⟩
    rw [List.length_take, List.length_drop] at hj
    have h4 := h3 (k + j) (by omega)
    rw [List.getElem_take, List.getElem_drop, Addr.add_add]
    exact h4
/-- In Feed's loop. -/
structure FeedP (w : World) (room : Int) (s1 : Chk) (v bv : Value) (out : List UInt8) (k : Nat) (W : World) : Prop where
  ok : OkC s1
  var : CVar W w.heap.size s1.ph s1.left s1.tr v
  line : Own (w.heap.size + 2) W v s1.line
  res : CVar W (w.heap.size + 1) 0 0 0 (.slice none 0 0)
  own : Own (w.heap.size + 2) W bv out
  apart : ∀ q q', v.ownBlock = some q → bv.ownBlock = some q' → q ≠ q'
  below : Below w.heap.size w W
  size : w.heap.size + 2 ≤ W.heap.size
  len : out.length ≤ k
  room : out.length = 0 ∨ (out.length : Int) ≤ room
/-- A byte of a line has been read. -/
theorem FeedP.read {w : World} {room : Int} {s1 s2 : Chk} {v v' bv : Value} {out : List UInt8} {k : Nat} {W W' : World} (h : FeedP w room s1 v bv out k W) (ho : OkC s2) (hc : CVar W' w.heap.size s2.ph s2.left s2.tr v') (hl : Own (w.heap.size + 2) W' v' s2.line)
    (hb : v'.ownBlock = v.ownBlock ∨ v'.ownBlock = none ∨ ∃ q, v'.ownBlock = some q ∧ W.heap.size ≤ q) (ht : Touch W W' w.heap.size v.ownBlock) : FeedP w room s2 v' bv out (k + 1) W' := by
  refine ⟨ho, hc, hl, h.res.touch ht (by omega) (fun e => by have := (h.line.lt e.symm).1; omega), h.own.touch ht (by omega) (fun q e e2 => h.apart q q e2.symm e rfl), fun q q' e1 e2 => ?_,
    Below.touch h.below ht (by have := h.size; omega) (Nat.le_refl _) (fun q e => by have := (h.line.lt e).1; omega), Nat.le_trans h.size ht.size, by have := h.len; omega, h.room⟩
  rcases hb with hb | hb | ⟨r, hb, hr⟩
  · exact h.apart q q' (hb ▸ e1) e2
  · rw [hb] at e1; cases e1
  · have h1 : q = r := (Option.some.inj (hb.symm.trans e1)).symm
    have h2 := (h.own.lt e2).2
    omega
/-- Bytes of the body have been read, and the state's bytes left are written. -/
theorem FeedP.data {w : World} {room : Int} {s1 : Chk} {v bv bv' : Value} {out d : List UInt8} {k : Nat} {W W1 W2 : World} (h : FeedP w room s1 v bv out k W) (h1 : s1.ph = 1) (hd : 0 < d.length) (hdl : (d.length : Int) ≤ s1.left) (hdr : (out.length : Int) + d.length ≤ room)
    (ho : Own (w.heap.size + 2) W1 bv' (out ++ d)) (hgr : W.grownBy W1 bv.ownBlock) (hbl : bv'.ownBlock = bv.ownBlock ∨ bv'.ownBlock = some W.heap.size)
    (hc : CVar W2 w.heap.size (if s1.left - d.length = 0 then 2 else 1) (s1.left - d.length) s1.tr v) (hg2 : W1.grownBy W2 (some w.heap.size)) :
    FeedP w room ⟨if s1.left - d.length = 0 then 2 else 1, s1.left - d.length, s1.tr, s1.line⟩ v bv' (out ++ d) (k + d.length) W2 := by
  have hw := h.size
  have hok : OkC ⟨if s1.left - d.length = 0 then 2 else 1, s1.left - d.length, s1.tr, s1.line⟩ := by
    have hd2 := h.ok.data h1
    have ht := h.ok.tr0 (by omega)
    by_cases e : s1.left - d.length = 0
    · simp only [if_pos e]
      exact okC_mk (by decide) h.ok.line h.ok.tr (fun _ => ht) (fun h => absurd h (by decide)) (fun _ => e) (fun _ => h.ok.empty (.inl h1))
    · simp only [if_neg e]
      exact okC_mk (by decide) h.ok.line h.ok.tr (fun _ => ht) (fun _ => by omega) (fun h => absurd rfl h) (fun _ => h.ok.empty (.inl h1))
  have hl1 := h.line.grown hgr (fun q e e2 => h.apart q q e e2.symm rfl)
  refine ⟨hok, hc, hl1.grown hg2 (fun q e e2 => by have := (hl1.lt e).1; have := Option.some.inj e2; omega), ?_, ho.grown hg2 (fun q e e2 => by have := (ho.lt e).1; have := Option.some.inj e2; omega), fun q q' e1 e2 => ?_,
    (h.below.grown hgr h.below.size (fun q e => by have := (h.own.lt e).1; omega)).grown hg2 (by have := hgr.size; omega) (fun q e => by have := Option.some.inj e; omega), by have := hgr.size; have := hg2.size; omega, by have := h.len; rw [List.length_append]; omega, .inr (by rw [List.length_append]; omega)⟩
  · exact (h.res.grownC hgr (fun e => by have := (h.own.lt e.symm).1; omega)).grownC hg2 (fun e => by have := Option.some.inj e; omega)
  · rcases hbl with hb | hb
    · exact h.apart q q' e1 (hb ▸ e2)
    · have h3 : q' = W.heap.size := (Option.some.inj (hb.symm.trans e2)).symm
      have h4 := (h.line.lt e1).2
      omega
theorem Own.freshA {B : Nat} {w : World} {a : Option Addr} {n c : Nat} {l : List UInt8} (h : Own B w (.slice a n c) l) (x : Addr) (hx : a = some x) (hl : l ≠ []) : B ≤ x.block := by
  obtain ⟨_, h2⟩ := h
  rcases h2 with ⟨_, h3⟩ | ⟨g, cap, cur, hv, hg, _⟩
  · exact absurd (List.eq_nil_of_length_eq_zero h3) hl
  · injection hv with e1 _ _
    rw [hx] at e1
    injection e1 with e1
    rw [e1]; exact hg
/-- What the project's Feed returns; the line lies in memory of the call's own. -/
def RetFeedF (w : World) (r : Int × Chk × List UInt8 × Nat) (e : Ending) (w' : World) : Prop :=
  ∃ a c oa oc, e = .returned (.tuple #[.agg #[.int .i64 r.2.1.ph, .int .i64 r.2.1.left, .int .i64 r.2.1.tr, .slice a r.2.1.line.length c], .slice oa r.2.2.1.length oc, .int .i64 r.2.2.2, .int .i64 r.1]) ∧ IsBytes w' a r.2.1.line c ∧ IsBytes w' oa r.2.2.1 oc ∧ Below w.heap.size w w' ∧ ∀ x, a = some x → r.2.1.line ≠ [] → w.heap.size ≤ x.block
set_option maxRecDepth 100000 in
set_option maxHeartbeats 4000000 in
theorem projFeedF_any (s : Chk) (l : List UInt8) (room : Int) (la ba : Option Addr) (lc bc : Nat) (w : World) (h : IsBytes w la s.line lc) (hb : IsBytes w ba l bc) (hs : OkC s) (hl : l.length ≤ 4000000000) (hr0 : -9223372036854775808 ≤ room) (hr1 : room ≤ 9223372036854775807) :
    Calls Tryd.prog 12 #[.agg #[.int .i64 s.ph, .int .i64 s.left, .int .i64 s.tr, .slice la s.line.length lc], .slice ba l.length bc, .int .i64 room] w (RetFeedF w (feedS room s [] 0 l)) := by
  obtain ⟨W2, hW2⟩ : ∃ W2, W2 = (w.alloc (.cells #[.int .i64 s.ph, .int .i64 s.left, .int .i64 s.tr, .slice la s.line.length lc] 27)).alloc (.cells #[.int .i64 0, .int .i64 0, .int .i64 0, .slice none 0 0] 27) := ⟨_, rfl⟩
  have hb0 : Below w.heap.size w W2 := by rw [hW2]; exact below_twoF (below_oneF w _) _
  have hz2 : W2.heap.size = w.heap.size + 2 := by rw [hW2, World.size_alloc, World.size_alloc]
  have HC0 := Box.mk (show CVar W2 w.heap.size s.ph s.left s.tr (.slice la s.line.length lc) by rw [hW2]; exact CVar.keep (heap_alloc_new _ _) (below_oneF _ _))
  have HR0 := Box.mk (show CVar W2 (w.heap.size + 1) 0 0 0 (.slice none 0 0) by
      have h := heap_alloc_new (w.alloc (.cells #[.int .i64 s.ph, .int .i64 s.left, .int .i64 s.tr, .slice la s.line.length lc] 27)) (.cells #[.int .i64 0, .int .i64 0, .int .i64 0, .slice none 0 0] 27)
      rw [World.size_alloc] at h; rw [hW2]; exact h)
  have HB0 := Box.mk hb0
  have HLB := Box.mk (h.keep hb0)
  have HZ2 := Box.mk hz2
  have hlz : s.line.length ≤ 129 := hs.len
  have HBB := Box.mk hb
  have hcapb : l.length ≤ bc := by
    rcases hb with ⟨_, e, e2⟩ | ⟨_, _, h1, _, _⟩
    · subst e; simp
    · exact h1
  have HOK0 := Box.mk hs
  obtain ⟨R, hR⟩ : ∃ R, R = feedS room s [] 0 l := ⟨_, rfl⟩
  rw [← hR]
  have HEQ := Box.mk (show R = feedS room s [] 0 (l.drop 0) from hR)
  clear hR
  clear h hb hs hb0 hz2
  have HW2 := Box.mk hW2
  clear hW2
  go_enter Tryd.func12, Tryd.ntmps12
  go_wp2_with fail
  go_step3
  go_wp2_with (at_builtin; refine wpList_append_ownb _ rfl _ _ rfl rfl (Own.start (w.heap.size + 2) _) rfl (r := s.line) (by rw [← HW2.out]; exact HLB.out) (by simp; omega) (by rw [← HW2.out, HZ2.out]; exact Nat.le_refl _) ?_)
  intro v3 w3 hown hgr _
  have hown : Own (w.heap.size + 2) w3 v3 s.line := by simpa using hown
  have hgr : W2.grownBy w3 none := by rw [HW2.out]; exact hgr
  obtain ⟨na, nc, rfl, _⟩ := hown.val
  have HC3 := Box.mk (HC0.out.grownC hgr (by simp))
  have HR3 := Box.mk (HR0.out.grownC hgr (by simp))
  have HJ := Box.mk (show FeedP w room s (.slice na s.line.length nc) (.slice none 0 0) [] 0 (w3.setCell ⟨w.heap.size, 3, none⟩ (.slice na s.line.length nc)) from
    ⟨HOK0.out, HC3.out.setV, hown.setC (by omega), HR3.out.other (by show w.heap.size + 1 ≠ w.heap.size; omega), Own.start _ _, fun _ _ _ e => (by cases e),
      (HB0.out.grown hgr (by rw [HZ2.out]; omega) (fun q e => by cases e)).setCell (p := ⟨w.heap.size, 3, none⟩) (Nat.le_refl _) _, by rw [World.size_setCell]; have := hgr.size; rw [HZ2.out] at this; exact this, Nat.le_refl _, .inl rfl⟩)
  obtain ⟨hd0, hd1, hd2, hd3⟩ := HC3.out.cells
  have hf3 := HC3.out.frozen (i := 3)
  clear hown hgr HC0 HR0 HB0 HLB
  go_wp2_with fail
  clear hd0 hd1 hd2 hd3 hf3 HC3 HR3
  go_step3
  go_wp2_with fail
  go_loopw [10, 11] (fun v iv wr => ∃ k : Nat, k ≤ l.length ∧ iv = .int .i64 k ∧ ∃ (s1 : Chk) (va : Value) (out : List UInt8), Box (FeedP w room s1 va v out k wr ∧ R = feedS room s1 out k (l.drop k))) (fun _ iv _ => l.length - (intOf iv).toNat)
  case atStart => exact ⟨0, Nat.zero_le _, rfl, s, _, [], ⟨HJ.out, HEQ.out⟩⟩
  case round =>
    clear HJ HEQ HW2
    obtain ⟨k, hk, rfl, s1, va, out, HM⟩ := hrel
    obtain ⟨oa, oc, rfl, hob⟩ := HM.out.1.own.val
    obtain ⟨la2, lc2, rfl, hlb⟩ := HM.out.1.line.val
    have HFP := Box.mk HM.out.1
    have HEQM := Box.mk HM.out.2
    have HOB := Box.mk hob
    have HLB := Box.mk hlb
    obtain ⟨hd0, hd1, hd2, hd3⟩ := HFP.out.var.cells
    have hol : out.length ≤ k := HFP.out.len
    have hszr := HFP.out.below.size
    have hsz2 := HFP.out.size
    have HRM := Box.mk HFP.out.room
    clear hob hlb HM
    obtain ⟨hr0, hr1, hr2, hr3⟩ := HFP.out.res.cells
    have hz0 := HFP.out.res.frozen (i := 0)
    have hz1 := HFP.out.res.frozen (i := 1)
    have hz2 := HFP.out.res.frozen (i := 2)
    have hz3 := HFP.out.res.frozen (i := 3)
    by_cases hlt : k < l.length
    · obtain ⟨bad, rfl, hbc⟩ := isBytes_at (HBB.out.keep HFP.out.below) hlt
      have HEQ2 := Box.mk (show R = feedS room s1 out k (l[k] :: l.drop (k + 1)) by rw [← List.drop_eq_getElem_cons hlt]; exact HEQM.out)
      generalize l[k] = x at *
      by_cases h4 : s1.ph = 4
      · have e4 : (s1.ph == 4) = true := by rw [h4]; rfl
        have HP := Box.mk (show R = (0, s1, out, k) by rw [HEQ2.out, feedS_stop (.inl h4)])
        clear HEQ2 h4 HEQM
        go_wp2_with fail
        (try rw [Exit.noGoto_ret])
        refine bodyPost_ret (results_row_tmp3C rfl _ _ (w.heap.size + 1) _ _ _ _ rfl HFP.out.res.set4 Tryd.underlying27 rfl sizeC) rfl ?_
        exact ⟨la2, lc2, oa, oc, by rw [HP.out]; rfl, by rw [HP.out]; exact HFP.out.res.set4B HLB.out, by rw [HP.out]; exact HFP.out.res.set4B HOB.out, below_set4 HFP.out.below (by omega), by rw [HP.out]; exact fun x e hne => by have := HFP.out.line.freshA x e hne; omega⟩
      · have e4 : (s1.ph == 4) = false := by rw [beq_eq_false_iff_ne]; exact h4
        by_cases h1 : s1.ph = 1
        · have e1 : (s1.ph == 1) = true := by rw [h1]; rfl
          have hlf := HFP.out.ok.data h1
          have hbr : -9223372036854775808 ≤ room - (out.length : Int) ∧ room - (out.length : Int) ≤ 9223372036854775807 := by
            rcases HRM.out with h | h <;> omega
          have hbr1 := hbr.1
          have hbr2 := hbr.2
          clear hbr
          by_cases hr : room ≤ out.length
          · have HP := Box.mk (show R = (0, s1, out, k) by rw [HEQ2.out, feedS_stop (.inr ⟨h1, hr⟩)])
            have hmin : ∀ (ts : Array TypeId) (t : TypeId) (W : World), (Builtin.min_ ts t #[.int .i64 s1.left, .int .i64 (room - (out.length : Int)), .int .i64 ((l.length : Int) - (k : Int))]).run Tryd.prog W = .ok (.int .i64 (room - (out.length : Int))) W := fun ts t W => by
              rw [run_min_int3, if_pos (show room - (out.length : Int) < s1.left by omega), if_neg (by omega)]
            clear HEQ2 h4 h1 HEQM
            go_wp2_with fail
            (try rw [Exit.noGoto_ret])
            refine bodyPost_ret (results_row_tmp3C rfl _ _ (w.heap.size + 1) _ _ _ _ rfl HFP.out.res.set4 Tryd.underlying27 rfl sizeC) rfl ?_
            exact ⟨la2, lc2, oa, oc, by rw [HP.out]; rfl, by rw [HP.out]; exact HFP.out.res.set4B HLB.out, by rw [HP.out]; exact HFP.out.res.set4B HOB.out, below_set4 HFP.out.below (by omega), by rw [HP.out]; exact fun x e hne => by have := HFP.out.line.freshA x e hne; omega⟩
          · have hmq : ∃ q : Nat, (∀ (ts : Array TypeId) (t : TypeId) (W : World), (Builtin.min_ ts t #[.int .i64 s1.left, .int .i64 (room - (out.length : Int)), .int .i64 ((l.length : Int) - (k : Int))]).run Tryd.prog W = .ok (.int .i64 (q : Int)) W) ∧ 1 ≤ q ∧ (q : Int) ≤ s1.left ∧ (out.length : Int) + q ≤ room ∧ k + q ≤ l.length := by
              refine ⟨(if (l.length : Int) - (k : Int) < (if room - (out.length : Int) < s1.left then room - (out.length : Int) else s1.left) then (l.length : Int) - (k : Int) else (if room - (out.length : Int) < s1.left then room - (out.length : Int) else s1.left)).toNat, fun ts t W => ?_, ?_, ?_, ?_, ?_⟩
              · rw [run_min_int3, Int.toNat_of_nonneg]
                (repeat' split) <;> omega
              all_goals ((repeat' split) <;> omega)
            obtain ⟨q, hmin, hq1, hq2, hq3, hq4⟩ := hmq
            obtain ⟨d, hd⟩ : ∃ d, d = (l.drop k).take q := ⟨_, rfl⟩
            have hdl : d.length = q := by rw [hd, List.length_take, List.length_drop]; omega
            have HDL := Box.mk hdl
            have HD := Box.mk hd
            have HDB := Box.mk (show IsBytes wr (some (bad.add k)) d (bc - k) by rw [hd]; exact isBytes_piece (HBB.out.keep HFP.out.below) hlt hq4)
            have H1 := Box.mk h1
            clear hd hdl HEQ2 h4 h1
            go_wp2_with (at_builtin; refine wpList_append_ownb _ rfl _ _ rfl rfl HFP.out.own (r := d) (by show Value.slice (some (bad.add k)) (k + q - k) (bc - k) = _; rw [HDL.out, Nat.add_sub_cancel_left]) HDB.out (by have := HDL.out; omega) (by omega) ?_)
            intro v5 w5 hown hgr hbl
            obtain ⟨np, hnp⟩ : ∃ np : Int, (if s1.left - (q : Int) = 0 then 2 else 1) = np := ⟨_, rfl⟩
            have HNP := Box.mk hnp
            have HOWN := Box.mk hown
            have HGR := Box.mk hgr
            have HBL := Box.mk hbl
            obtain ⟨o2, ho2⟩ : ∃ o2, o2 = out ++ d := ⟨_, rfl⟩
            have HO2 := Box.mk ho2
            have HC5 := Box.mk (HFP.out.var.grownC hgr (fun e => by have := (HFP.out.own.lt e.symm).1; omega))
            obtain ⟨he0, he1, he2, he3⟩ := HC5.out.cells
            obtain ⟨nb, ncp, rfl, _⟩ := hown.val
            clear hown hgr hbl hnp ho2 hd0 hd1 hd2 hd3 hr0 hr1 hr2 hr3 hz0 hz1 hz2 hz3
            go_wp2_with fail
            refine (leave_any w.heap.size s1.ph s1.left s1.tr (s1.left - q) np _ _ HC5.out (by rw [← HNP.out, H1.out])).mono ?_
            rintro e w6 ⟨rfl, hc6, hg6⟩
            have HC6 := Box.mk hc6
            have HG6 := Box.mk hg6
            clear hc6 hg6
            have HN := Box.mk (show FeedP w room ⟨np, s1.left - q, s1.tr, s1.line⟩ (.slice la2 s1.line.length lc2) (.slice nb (out.length + d.length) ncp) o2 (k + q) w6 by
              have hq := HDL.out
              have h9 := HFP.out.data (d := d) (W2 := w6) H1.out (by omega) (by omega) (by omega) HOWN.out HGR.out HBL.out (by rw [hq, HNP.out]; exact HC6.out) HG6.out
              rw [HO2.out, ← List.length_append]
              rw [hq, HNP.out] at h9
              exact h9)
            go_wp2_with fail
            go_roundw
            case rel =>
              refine ⟨k + q, by omega, by go_num, ⟨np, s1.left - q, s1.tr, s1.line⟩, _, o2, ⟨HN.out, ?_⟩⟩
              rw [HEQM.out]
              obtain ⟨q0, hq0⟩ : ∃ q0, q = q0 + 1 := ⟨q - 1, by omega⟩
              have h9 := feedS_block room q0 s1 out k (l.drop k) H1.out (by rw [List.length_drop]; omega) (by omega) (by omega)
              rw [← hq0, HNP.out, List.drop_drop] at h9
              rw [h9, HO2.out, HD.out]
            case measure => simp [intOf]; omega
        · have e1 : (s1.ph == 1) = false := by rw [beq_eq_false_iff_ne]; exact h1
          have HST := Box.mk (And.intro h4 h1)
          obtain ⟨r, hr⟩ : ∃ r, r = stepS s1 x := ⟨_, rfl⟩
          have HREQ := Box.mk hr
          clear hr HEQM h4 h1 hr0 hr1 hr2 hr3 hz0 hz1 hz2 hz3
          go_wp2_with fail
          refine (readLine_any s1 x w.heap.size (w.heap.size + 2) _ _ HFP.out.var HFP.out.line HFP.out.size (by omega) HFP.out.ok HST.out.2 HST.out.1).mono ?_
          rintro e w6 ⟨he, hok, ht⟩
          rw [← HREQ.out] at he hok
          subst he
          have HT := Box.mk ht
          have HOK := Box.mk hok
          clear ht hok hd0 hd1 hd2 hd3
          by_cases h0 : r.1 = 0
          · have er : (r.1 != 0) = false := by rw [h0]; rfl
            obtain ⟨v', hc, ho, hb⟩ := HOK.out h0
            have HN := Box.mk (HFP.out.read (by rw [HREQ.out]; exact okC_step HFP.out.ok HST.out.2 HST.out.1 (by rw [← HREQ.out]; exact h0)) hc ho hb HT.out)
            have HZ := Box.mk h0
            clear hc ho hb h0
            go_wp2_with fail
            go_roundw
            case rel =>
              refine ⟨k + 1, by omega, by go_num, r.2, v', out, ⟨HN.out, ?_⟩⟩
              rw [HEQ2.out, feedS_ok HST.out.1 HST.out.2 (by rw [← HREQ.out]; exact HZ.out), ← HREQ.out]
            case measure => simp [intOf]; omega
          · have er : (r.1 != 0) = true := by rw [bne_iff_ne]; exact h0
            have HP := Box.mk (show R = (r.1, zeroC, [], 0) by rw [HEQ2.out, feedS_err HST.out.1 HST.out.2 (by rw [← HREQ.out]; exact h0), ← HREQ.out])
            have HR7 := Box.mk (HFP.out.res.touch HT.out (by omega) (fun e => by have := (HFP.out.line.lt e.symm).1; omega))
            have HB7 := Box.mk (Below.touch HFP.out.below HT.out (by omega) (Nat.le_refl _) (fun q e => by have := (HFP.out.line.lt e).1; omega))
            obtain ⟨hr0, hr1, hr2, hr3⟩ := HR7.out.cells
            have hz0 := HR7.out.frozen (i := 0)
            have hz1 := HR7.out.frozen (i := 1)
            have hz2 := HR7.out.frozen (i := 2)
            have hz3 := HR7.out.frozen (i := 3)
            clear h0 HEQ2 HREQ HOK
            go_wp2_with fail
            (try rw [Exit.noGoto_ret])
            refine bodyPost_ret (results_row_tmp3C rfl _ _ (w.heap.size + 1) _ _ _ _ rfl HR7.out.set4 Tryd.underlying27 rfl sizeC) rfl ?_
            exact ⟨none, 0, none, 0, by rw [HP.out]; rfl, by rw [HP.out]; exact .inl ⟨rfl, rfl, rfl⟩, by rw [HP.out]; exact .inl ⟨rfl, rfl, rfl⟩, below_set4 HB7.out (by omega), fun x e => by cases e⟩
    · have HP := Box.mk (show R = (0, s1, out, k) by rw [HEQM.out, List.drop_of_length_le (by omega)]; rfl)
      obtain rfl : k = l.length := by omega
      clear HEQM
      go_wp2_with fail
      (try rw [Exit.noGoto_ret])
      refine bodyPost_ret (results_row_tmp3C rfl _ _ (w.heap.size + 1) _ _ _ _ rfl HFP.out.res.set4 Tryd.underlying27 rfl sizeC) rfl ?_
      exact ⟨la2, lc2, oa, oc, by rw [HP.out]; rfl, by rw [HP.out]; exact HFP.out.res.set4B HLB.out, by rw [HP.out]; exact HFP.out.res.set4B HOB.out, below_set4 HFP.out.below (by omega), by rw [HP.out]; exact fun x e hne => by have := HFP.out.line.freshA x e hne; omega⟩
theorem projFeed_any (s : Chk) (l : List UInt8) (room : Int) (la ba : Option Addr) (lc bc : Nat) (w : World) (h : IsBytes w la s.line lc) (hb : IsBytes w ba l bc) (hs : OkC s) (hl : l.length ≤ 4000000000) (hr0 : -9223372036854775808 ≤ room) (hr1 : room ≤ 9223372036854775807) :
    Calls Tryd.prog 12 #[.agg #[.int .i64 s.ph, .int .i64 s.left, .int .i64 s.tr, .slice la s.line.length lc], .slice ba l.length bc, .int .i64 room] w (RetFeed w (feedS room s [] 0 l)) :=
  (projFeedF_any s l room la ba lc bc w h hb hs hl hr0 hr1).mono fun _ _ ⟨a, c, oa, oc, h1, h2, h3, h4, _⟩ => ⟨a, c, oa, oc, h1, h2, h3, h4⟩
end Go.Proofs.YtbplpfcgmmflnaaDoor
namespace Go.Proofs.YtbplpfcgmmflnaaDoor
open Go.RowKit

theorem IntsF.alloc {w : World} {a : Option Addr} {n : Nat} (h : IntsF w a n) (o : Obj) : IntsF (w.alloc o) a n := h.keep (below_oneF w o)
end Go.Proofs.YtbplpfcgmmflnaaDoor
namespace Go.Proofs.YtbplpfcgmmflnaaDoor
open Go.RowKit

/-- The source stands at its number i. -/
def SrcI (w : World) (g : Nat) (a : Option Addr) (n c i : Nat) : Prop :=
  i ≤ n ∧ w.heap[g]? = some (.cells #[.slice a n c, .int .i64 i] 48 (0, 0)) ∧ n ≤ maxLen ∧ IntsF w a n ∧ ∀ x, a = some x → 0 < n → x.block ≠ g
theorem SrcI.src {w : World} {g : Nat} {a : Option Addr} {n c i : Nat} (h : SrcI w g a n c i) : Src w g a n c := ⟨⟨i, h.1, h.2.1⟩, h.2.2.1, h.2.2.2.1, h.2.2.2.2⟩
theorem SrcI.keep {w w' : World} {g : Nat} {a : Option Addr} {n c i : Nat} (h : SrcI w g a n c i) (hb : Below w.heap.size w w') : SrcI w' g a n c i :=
  ⟨h.1, by rw [hb.block g (Array.getElem?_eq_some_iff.1 h.2.1).1]; exact h.2.1, h.2.2.1, h.2.2.2.1.keep hb, h.2.2.2.2⟩
theorem SrcI.grown2 {w w' : World} {g : Nat} {a : Option Addr} {n c i : Nat} {row : Option Nat} (h : SrcI w g a n c i) (hg : w.grownBy w' row) (hne : some g ≠ row) (hne2 : ∀ x, a = some x → 0 < n → some x.block ≠ row) : SrcI w' g a n c i :=
  ⟨h.1, by rw [hg.block g (Array.getElem?_eq_some_iff.1 h.2.1).1 hne]; exact h.2.1, h.2.2.1, h.2.2.2.1.grown hg hne2, h.2.2.2.2⟩

set_option maxRecDepth 100000 in
set_option maxHeartbeats 2000000 in
theorem nextI_any (g m : Nat) (a : Option Addr) (n c i : Nat) (w : World) (h : SrcI w g a n c i) (h0 : 0 < m) (hm : m ≤ 1000000000) :
    Calls Tryd.prog 30 #[.pointer (some ⟨g, 0, none⟩), .int .i64 m] w fun e w' => ∃ k : Nat, k < m ∧ e = .returned (.int .i64 k) ∧ (∃ i2, SrcI w' g a n c i2 ∧ i ≤ i2 ∧ (i < n → i < i2)) ∧ w.grownBy w' (some g) := by
  have H0 := Box.mk h
  obtain ⟨hi, hr, hn, h2, h3⟩ := h
  have HR := Box.mk hr
  have HI := Box.mk h2
  have HA := Box.mk h3
  have HN := Box.mk hn
  have hc0 : w.cell? ⟨g, 0, none⟩ = some (.slice a n c) := by rw [cell_of_row _ _ _ _ _ _ hr]; rfl
  have hc1 : w.cell? ⟨g, 1, none⟩ = some (.int .i64 i) := by rw [cell_of_row _ _ _ _ _ _ hr]; rfl
  unfold maxLen at hn
  clear hr h2 h3
  go_enter Tryd.func30, Tryd.ntmps30
  by_cases hlt : i < n
  · obtain ⟨x, z, rfl, hz, z0, z1⟩ := HI.out i hlt
    have hne := HA.out x rfl (by omega)
    have HNE := Box.mk hne
    clear hne
    have hd : decide (n ≤ i) = false := by simp; omega
    have HZ := Box.mk hz
    clear hz
    go_wp2_with fail
    go_quiet (fail)
    clear hd
    obtain ⟨W, hW⟩ : ∃ W, W = w.drewN nq := ⟨_, rfl⟩
    have HRW := Box.mk (show W.heap[g]? = some (.cells #[.slice (some x) n c, .int .i64 i] 48 (0, 0)) by rw [hW]; exact HR.out)
    rw [← hW]
    have hf := frozen_of_row W g 1 _ _ HRW.out
    have hc0 : W.cell? ⟨g, 0, none⟩ = some (.slice (some x) n c) := by rw [cell_of_row _ _ _ _ _ _ HRW.out]; rfl
    have hc1 : W.cell? ⟨g, 1, none⟩ = some (.int .i64 i) := by rw [cell_of_row _ _ _ _ _ _ HRW.out]; rfl
    have HGW := Box.mk (show w.grownBy W (some g) by rw [hW]; exact ⟨rfl, rfl, rfl, Nat.le_refl _, fun _ _ _ => rfl⟩)
    clear hW
    go_wp2_with fail
    obtain ⟨W2, hW2⟩ : ∃ W2, W2 = W.setCell ⟨g, 1, none⟩ (.int .i64 ((i : Int) + 1)) := ⟨_, rfl⟩
    have HR2 := Box.mk (show W2.heap[g]? = some (.cells #[.slice (some x) n c, .int .i64 ((i : Int) + 1)] 48 (0, 0)) by rw [hW2, heap_setCell_same _ _ _ _ _ _ HRW.out]; simp)
    have HG2 := Box.mk (show w.grownBy W2 (some g) from grownBy_trans HGW.out (by
      rw [hW2]
      exact ⟨rfl, rfl, rfl, by simp [World.setCell], fun k _ hne => heap_setCell_other W ⟨g, 1, none⟩ k _ (fun e => hne (by rw [e]))⟩))
    change Code.wp _ _ _ _ (W.setCell ⟨g, 1, none⟩ (.int .i64 ((i : Int) + 1)))
    rw [← hW2]
    clear hW2 hf hc0 hc1 HGW HRW
    have hc0 : W2.cell? ⟨g, 0, none⟩ = some (.slice (some x) n c) := by rw [cell_of_row _ _ _ _ _ _ HR2.out]; rfl
    have hc1 : W2.cell? ⟨g, 1, none⟩ = some (.int .i64 ((i : Int) + 1)) := by rw [cell_of_row _ _ _ _ _ _ HR2.out]; rfl
    have hz2 : W2.cell? (x.add i) = some (.int .i64 z) := by
      rw [World.cell?_of_block (HG2.out.block _ (lt_cell HZ.out) (by rw [add_blockF]; exact fun e => HNE.out (Option.some.inj e)))]
      exact HZ.out
    have HS := Box.mk (show SrcI W2 g (some x) n c (i + 1) from ⟨hlt, HR2.out, HN.out, HI.out.grown HG2.out (fun y e h e2 => HA.out y e h (Option.some.inj e2)), HA.out⟩)
    obtain ⟨k, hk, hwk⟩ := withI_range z m h0 hm
    have HWK := Box.mk hwk
    clear hwk
    go_quiet ((go_at_call 11; exact Calls.quiet_of_same (withinF _ _ _ h0 hm)))
    go_wp2
    go_ret
    exact ⟨k, hk, ret_int HWK.out, ⟨i + 1, HS.out.keep (below_drewN (Below.refl _ _) _), by omega, fun _ => by omega⟩, grownBy_trans HG2.out ⟨rfl, rfl, rfl, Nat.le_refl _, fun _ _ _ => rfl⟩⟩
  · have hd : decide (n ≤ i) = true := by simp; omega
    go_wp2_with fail
    go_quiet (fail)
    go_wp2
    go_ret
    exact ⟨0, h0, rfl, ⟨i, H0.out.keep (below_drewN (Below.refl _ _) _), Nat.le_refl _, fun e => absurd e hlt⟩, ⟨rfl, rfl, rfl, Nat.le_refl _, fun _ _ _ => rfl⟩⟩

set_option maxRecDepth 100000 in
set_option maxHeartbeats 2000000 in
theorem leftI_any (g : Nat) (a : Option Addr) (n c i : Nat) (w : World) (h : SrcI w g a n c i) :
    Calls Tryd.prog 21 #[.pointer (some ⟨g, 0, none⟩)] w fun e w' => e = .returned (.bool (decide (i < n))) ∧ Below w.heap.size w w' := by
  have hc0 : w.cell? ⟨g, 0, none⟩ = some (.slice a n c) := by rw [cell_of_row _ _ _ _ _ _ h.2.1]; rfl
  have hc1 : w.cell? ⟨g, 1, none⟩ = some (.int .i64 i) := by rw [cell_of_row _ _ _ _ _ _ h.2.1]; rfl
  have hn := h.2.2.1
  have hi := h.1
  unfold maxLen at hn
  clear h
  go_enter Tryd.func21, Tryd.ntmps21
  by_cases hlt : i < n
  · have HD := Box.mk (show decide (i < n) = true from decide_eq_true hlt)
    go_wp2_with fail
    go_quiet (fail)
    go_wp2
    go_ret
    exact ⟨ret_bool (by rw [HD.out]), below_drewN (Below.refl _ _) _⟩
  · have HD := Box.mk (show decide (i < n) = false from decide_eq_false hlt)
    go_wp2_with fail
    go_quiet (fail)
    go_wp2
    go_ret
    exact ⟨ret_bool (by rw [HD.out]), below_drewN (Below.refl _ _) _⟩
set_option maxRecDepth 100000 in
set_option maxHeartbeats 2000000 in
theorem bytesI_any (g m : Nat) (a : Option Addr) (n c i0 : Nat) (w : World) (h : SrcI w g a n c i0) (hm : m ≤ 1000) :
    Calls Tryd.prog 22 #[.pointer (some ⟨g, 0, none⟩), .int .i64 m] w fun e w' => ∃ v l, e = .returned v ∧ Own w.heap.size w' v l ∧ l.length ≤ m ∧ (∃ i2, SrcI w' g a n c i2 ∧ i0 ≤ i2 ∧ (i0 < n → i0 < i2)) ∧ w.grownBy w' (some g) := by
  have H0 := Box.mk h
  have HLOW := Box.mk h.src.low
  have hlt := h.src.lt
  clear h
  go_enter Tryd.func22, Tryd.ntmps22
  go_wp2_with fail
  refine (nextI_any g (m + 1) a n c i0 w H0.out (by omega) (by omega)).mono ?_
  rintro e w1 ⟨k, hk, rfl, hsrc, hg1⟩
  have HS1 := Box.mk hsrc
  have HG1 := Box.mk hg1
  clear hsrc hg1 H0
  go_wp2_with fail
  go_loopw [5, 6] (fun v iv wr => ∃ j : Nat, j ≤ m ∧ iv = .int .i64 j ∧ ∃ l : List UInt8, l.length + j ≤ m ∧ Box (Own w.heap.size wr v l ∧ (∃ i2, SrcI wr g a n c i2 ∧ i0 ≤ i2 ∧ (i0 < n → i0 < i2)) ∧ w.grownBy wr (some g))) (fun _ iv _ => (intOf iv).toNat)
  case atStart => exact ⟨k, by omega, rfl, [], by simp; omega, ⟨Own.start _ _, HS1.out, HG1.out⟩⟩
  case round =>
    clear HS1 HG1
    obtain ⟨j, hj, rfl, l, hl, HM⟩ := hrel
    by_cases hpos : 0 < j
    · go_wp2_with fail
      obtain ⟨i1, hs1, hi1, hi2⟩ := HM.out.2.1
      refine (nextI_any g 7 a n c i1 wr hs1 (by decide) (by decide)).mono ?_
      rintro e w2 ⟨i, hi, rfl, ⟨i3, hsrc, hi3, _⟩, hg2⟩
      clear hs1
      have HO2 := Box.mk (HM.out.1.grown hg2 (fun q e e2 => by have := (HM.out.1.lt e).1; have := Option.some.inj e2; omega))
      have HS2 := Box.mk hsrc
      have HI2 := Box.mk (show i0 ≤ i3 ∧ (i0 < n → i0 < i3) from ⟨by omega, fun e => by have := hi2 e; omega⟩)
      have HG2 := Box.mk (grownBy_trans HM.out.2.2 hg2)
      have hsz := HG2.out.size
      clear hsrc hg2 HM hi1 hi2 hi3
      obtain ⟨y, hy⟩ : ∃ y : UInt8, ∀ hd, (⟨#[97, 98, 13, 10, 48, 59, 32]⟩ : ByteArray)[i]'hd = y := ⟨(⟨#[97, 98, 13, 10, 48, 59, 32]⟩ : ByteArray)[i]'(by show i < 7; exact hi), fun _ => rfl⟩
      have hy1 : (y.toNat : Int) ≤ 255 := by have := y.toNat_lt; omega
      go_wp2_with (at_builtin; refine wpList_append_ownb _ rfl _ _ rfl rfl (HO2.out.keep (below_oneF w2 (.cells #[.int .u8 (y.toNat : Int)] 5))) (r := [y]) rfl (isBytes_oneC w2 y) (by simp; omega) (by simp; omega) ?c3)
      case c3 =>
        intro v' w3 hown hgrow _
        have HO3 := Box.mk hown
        have hgrow2 : w2.grownBy w3 u5.ownBlock := ⟨hgrow.os, hgrow.tape, hgrow.output, Nat.le_trans (by simp) hgrow.size, fun k hk hne => by
          rw [hgrow.block k (by simp; omega) hne]
          exact (below_oneF w2 _).block k hk⟩
        have HS3 := Box.mk (HS2.out.grown2 hgrow2 (fun e => by have := (HO2.out.lt e.symm).1; omega) (fun x e h0 e2 => by have := (HO2.out.lt e2.symm).1; have := HLOW.out x e h0; omega))
        have HG3 := Box.mk (grownBy_new HG2.out hgrow2 (fun i e => (HO2.out.lt e).1))
        clear hown hgrow hgrow2 HO2 HS2 HG2 hy
        go_wp2_with fail
        go_roundw
        case rel => exact ⟨j - 1, by omega, by go_num, l ++ [y], by simp; omega, ⟨HO3.out, ⟨i3, HS3.out, HI2.out⟩, HG3.out⟩⟩
        case measure => simp [intOf]; omega
    · obtain rfl : j = 0 := by omega
      go_wp2_with fail
      go_ret
      exact ⟨_, l, rfl, HM.out.1, by omega, HM.out.2.1, HM.out.2.2⟩
set_option maxHeartbeats 1000000 in
theorem ofI_any (g b : Nat) (l : List ByteArray) (cb : Nat) (a : Option Addr) (n c i : Nat) (w : World) (h : SrcI w g a n c i) (hl : StrsIn w (some ⟨b, 0, none⟩) l) (hb : b ≠ g) (h0 : 0 < l.length) (h1 : l.length ≤ 1000) :
    Calls Tryd.prog 23 #[.pointer (some ⟨g, 0, none⟩), .slice (some ⟨b, 0, none⟩) l.length cb] w fun e w' => ∃ s ∈ l, e = .returned (.string s) ∧ (∃ i2, SrcI w' g a n c i2 ∧ i ≤ i2) ∧ w.grownBy w' (some g) := by
  have HL := Box.mk hl
  have HB := Box.mk hb
  clear hl hb
  go_enter Tryd.func23, Tryd.ntmps23
  go_wp2_with fail
  refine (nextI_any g l.length a n c i w h h0 (by omega)).mono ?_
  rintro e w1 ⟨k, hk, rfl, ⟨i2, hs, hle, _⟩, hg⟩
  obtain ⟨x, hx, hc⟩ := HL.out k hk
  obtain rfl := Option.some.inj hx
  have hc1 : w1.cell? ((⟨b, 0, none⟩ : Addr).add k) = some (.string l[k]) := by
    rw [World.cell?_of_block (hg.block _ (lt_cell hc) (by rw [add_blockF]; exact fun e => HB.out (Option.some.inj e)))]
    exact hc
  rw [Addr.add_lit, Nat.zero_add] at hc1
  have HS := Box.mk hs
  have HG := Box.mk hg
  have HMEM := Box.mk (List.getElem_mem hk)
  clear hs hg hc hx
  go_wp2_with fail
  go_ret
  exact ⟨_, HMEM.out, rfl, ⟨i2, HS.out, hle⟩, HG.out⟩
theorem ofI_n (g b m : Nat) (l : List ByteArray) (cb : Nat) (a : Option Addr) (n c i : Nat) (w : World) (h : SrcI w g a n c i) (hl : StrsIn w (some ⟨b, 0, none⟩) l) (hb : b ≠ g) (hm : l.length = m) (h0 : 0 < m) (h1 : m ≤ 1000) :
    Calls Tryd.prog 23 #[.pointer (some ⟨g, 0, none⟩), .slice (some ⟨b, 0, none⟩) m cb] w fun e w' => ∃ s ∈ l, e = .returned (.string s) ∧ (∃ i2, SrcI w' g a n c i2 ∧ i ≤ i2) ∧ w.grownBy w' (some g) := by
  subst hm
  exact ofI_any g b l cb a n c i w h hl hb h0 h1
end Go.Proofs.YtbplpfcgmmflnaaDoor
namespace Go.Proofs.YtbplpfcgmmflnaaDoor
open Go.RowKit

def extsC : List ByteArray := [⟨#[]⟩, ⟨#[]⟩, ⟨#[59, 97, 61, 98]⟩, ⟨#[59]⟩, ⟨#[59, 32, 120, 9]⟩]
def lastsC : List ByteArray := [⟨#[48]⟩, ⟨#[48, 48, 48]⟩, ⟨#[48, 59, 108, 97, 115, 116]⟩]
def trailsC : List ByteArray := [⟨#[]⟩, ⟨#[]⟩, ⟨#[65, 58, 32, 98, 13, 10]⟩, ⟨#[65, 58, 32, 98, 13, 10, 67, 58, 100, 13, 10]⟩]
/-- Chunks with extensions. -/
inductive WireP : List UInt8 → Prop
  | nil : WireP []
  | snoc (p : List UInt8) (e : ByteArray) (d : List UInt8) : WireP p → e ∈ extsC → d ≠ [] → d.length ≤ 20 → WireP (p ++ (digs 16 d.length ++ e.data.toList ++ [13, 10] ++ d ++ [13, 10]))
/-- A whole body: chunks, the last chunk, the trailer section. -/
def WireW (b : List UInt8) : Prop := ∃ p e t, WireP p ∧ e ∈ lastsC ∧ t ∈ trailsC ∧ b = p ++ e.data.toList ++ [13, 10] ++ t.data.toList ++ [13, 10]
theorem exts_ok : (extsC.all fun e => decide (e.size ≤ 4) && e.data.toList.all (fun c => valB c && !(c == 13) && !(c == 10)) && (e.data.toList.isEmpty || e.data.toList.head? == some 59)) = true := by decide +kernel
theorem ext_parts {e : ByteArray} (h : e ∈ extsC) : e.size ≤ 4 ∧ (∀ c ∈ e.data.toList, valB c = true ∧ ¬ c = 13 ∧ ¬ c = 10) ∧ (e.data.toList = [] ∨ ∃ r, e.data.toList = 59 :: r) := by
  have h1 := List.all_eq_true.1 exts_ok e h
  rw [Bool.and_eq_true, Bool.and_eq_true, decide_eq_true_eq, Bool.or_eq_true] at h1
  refine ⟨h1.1.1, fun c hc => ?_, ?_⟩
  · have h2 := List.all_eq_true.1 h1.1.2 c hc
    simp only [Bool.and_eq_true, Bool.not_eq_true', beq_eq_false_iff_ne] at h2
    exact ⟨h2.1.1, h2.1.2, h2.2⟩
  · rcases h1.2 with h | h
    · exact .inl (List.isEmpty_iff.1 h)
    · cases hq : e.data.toList with
      | nil => exact .inl rfl
      | cons c r => rw [hq] at h; simp at h; exact .inr ⟨r, by rw [h]⟩
/-- The size line with an extension reads as the size. -/
theorem ext_line {n : Nat} (hn : n ≤ 1000000) {e : ByteArray} (h : e ∈ extsC) : Plain (digs 16 n ++ e.data.toList) ∧ (digs 16 n ++ e.data.toList).length ≤ 128 ∧ parseS 16 1000000000 (szS ⟨(digs 16 n ++ e.data.toList).toArray⟩) = ((n : Int), 0) ∧ visS ⟨(digs 16 n ++ e.data.toList).toArray⟩ = true := by
  obtain ⟨h1, h2, h3⟩ := ext_parts h
  have hl := digs16_len n (by omega)
  have hel : e.data.toList.length = e.size := by rw [Array.length_toList]; rfl
  refine ⟨fun x hx => ?_, by rw [List.length_append]; omega, ?_, ?_⟩
  · rcases List.mem_append.1 hx with hx | hx
    · exact plain_digs n x hx
    · exact (h2 x hx).2
  · rcases h3 with h3 | ⟨r, h3⟩
    · rw [h3, List.append_nil, szS_plain (digs_no59 n)]; exact parse_digs (by omega)
    · rw [h3, szS_ext (digs_no59 n)]; exact parse_digs (by omega)
  · unfold visS
    refine List.all_eq_true.2 fun x hx => ?_
    have hx : x ∈ digs 16 n ++ e.data.toList := hx
    rcases List.mem_append.1 hx with hx | hx
    · exact (digs_bytes n x hx).2.2.2
    · exact (h2 x hx).1
theorem feed_wireP {p : List UInt8} (h : WireP p) : ∀ (out : List UInt8) (i : Nat), ∃ o, ∀ r, feedU zeroC out i (p ++ r) = feedU zeroC o (i + p.length) r := by
  induction h with
  | nil => exact fun out i => ⟨out, fun r => by simp⟩
  | snoc p e d _ he hd hl ih =>
    intro out i
    obtain ⟨o, ho⟩ := ih out i
    obtain ⟨h1, h2, h3, h4⟩ := ext_line (n := d.length) (by omega) he
    refine ⟨o ++ d, fun r => ?_⟩
    have e1 : p ++ (digs 16 d.length ++ e.data.toList ++ [13, 10] ++ d ++ [13, 10]) ++ r = p ++ ((digs 16 d.length ++ e.data.toList) ++ 13 :: 10 :: (d ++ 13 :: 10 :: r)) := by simp
    rw [e1, ho, feed_chunk _ d r o (i + p.length) h1 h2 hd h3 h4]
    congr 1
    simp; omega
theorem lasts_ok : (lastsC.all fun e => decide (e.size ≤ 6) && e.data.toList.all (fun c => !(c == 13) && !(c == 10)) && decide (parseS 16 1000000000 (szS e) = (0, 0)) && visS e) = true := by decide +kernel
theorem trails_end (out : List UInt8) (i : Nat) {t : ByteArray} (h : t ∈ trailsC) : ∃ s : Chk, s.ph = 4 ∧ feedU ⟨3, 0, 0, []⟩ out i (t.data.toList ++ [13, 10]) = (0, s, out, i + (t.data.toList ++ [13, 10]).length) := by
  have fa := fun r j => feed_field [65, 58, 32, 98] r out 0 j (fun x hx => by simp at hx; rcases hx with rfl | rfl | rfl | rfl <;> decide) (by decide) (by decide) (by decide) (by decide +kernel)
  have fb := fun r j => feed_field [67, 58, 100] r out 6 j (fun x hx => by simp at hx; rcases hx with rfl | rfl | rfl <;> decide) (by decide) (by decide) (by decide) (by decide +kernel)
  simp only [trailsC, List.mem_cons, List.not_mem_nil, or_false] at h
  rcases h with rfl | rfl | rfl | rfl
  · exact ⟨⟨4, 0, 2, []⟩, rfl, feed_done [] out 0 i (by decide)⟩
  · exact ⟨⟨4, 0, 2, []⟩, rfl, feed_done [] out 0 i (by decide)⟩
  · refine ⟨⟨4, 0, 8, []⟩, rfl, ?_⟩
    have e : ((⟨#[65, 58, 32, 98, 13, 10]⟩ : ByteArray).data.toList ++ [13, 10]) = [65, 58, 32, 98] ++ 13 :: 10 :: [13, 10] := rfl
    rw [e, fa]
    exact feed_done [] out 6 _ (by decide)
  · refine ⟨⟨4, 0, 13, []⟩, rfl, ?_⟩
    have e : ((⟨#[65, 58, 32, 98, 13, 10, 67, 58, 100, 13, 10]⟩ : ByteArray).data.toList ++ [13, 10]) = [65, 58, 32, 98] ++ 13 :: 10 :: ([67, 58, 100] ++ 13 :: 10 :: [13, 10]) := rfl
    rw [e, fa]
    show feedU ⟨3, 0, 6, []⟩ out _ _ = _
    rw [fb]
    exact feed_done [] out 11 _ (by decide)
/-- A whole body is decoded to its end. -/
theorem feed_wireW {b : List UInt8} (h : WireW b) : (feedU zeroC [] 0 b).1 = 0 ∧ (feedU zeroC [] 0 b).2.1.ph = 4 ∧ (feedU zeroC [] 0 b).2.2.2 = b.length := by
  obtain ⟨p, e, t, hp, he, ht, rfl⟩ := h
  obtain ⟨o, ho⟩ := feed_wireP hp [] 0
  have h1 := List.all_eq_true.1 lasts_ok e he
  rw [Bool.and_eq_true, Bool.and_eq_true, Bool.and_eq_true, decide_eq_true_eq, decide_eq_true_eq] at h1
  have hel : e.data.toList.length = e.size := by rw [Array.length_toList]; rfl
  have e1 : p ++ e.data.toList ++ [13, 10] ++ t.data.toList ++ [13, 10] = p ++ (e.data.toList ++ 13 :: 10 :: (t.data.toList ++ [13, 10])) := by simp
  obtain ⟨s, hs4, hs⟩ := trails_end o (0 + p.length + (e.data.toList.length + 2)) ht
  have hfl := feed_last e.data.toList (t.data.toList ++ [13, 10]) o (0 + p.length) (fun x hx => by
    have := List.all_eq_true.1 h1.1.1.2 x hx
    simpa using this) (by have := h1.1.1.1; omega) h1.1.2 h1.2
  rw [e1, ho, hfl, hs]
  exact ⟨rfl, hs4, by simp; omega⟩
theorem decode_wire {b : List UInt8} (h : WireW b) : (decodeS b).1 = 0 ∧ (decodeS b).2.2 = b.length := by
  obtain ⟨h1, h2, h3⟩ := feed_wireW h
  rw [decodeS_eq, if_pos h1, if_pos h2]
  exact ⟨rfl, h3⟩
theorem decode_torn {p q : List UInt8} (h : WireW (p ++ q)) (hq : q ≠ []) : (decodeS p).1 = 4 := by
  obtain ⟨h1, h2, h3⟩ := feed_wireW h
  obtain ⟨h4, h5⟩ := feedU_torn q p zeroC [] 0 hq h1 (by rw [h3]; simp)
  rw [decodeS_eq, if_pos h4, if_neg h5]
end Go.Proofs.YtbplpfcgmmflnaaDoor
namespace Go.Proofs.YtbplpfcgmmflnaaDoor
open Go.RowKit

set_option maxRecDepth 100000 in
theorem own_string_block (w : World) (ty : TypeId) {B : Nat} {v : Value} {l : List UInt8} (h : Own B w v l) (s : ByteArray) (hn : l.length + s.size ≤ 1000000000) (hB : B ≤ w.heap.size) :
    ∃ v' w', (Builtin.append_ #[23, 9] ty #[v, .string s]).run Tryd.prog w = .ok v' w' ∧ Own B w' v' (l ++ s.data.toList) ∧ w.grownBy w' v.ownBlock ∧ (v'.ownBlock = v.ownBlock ∨ v'.ownBlock = some w.heap.size) := by
  obtain ⟨i0, hi, hz0, hz1, hz2⟩ := info_parts Tryd.info5
  obtain ⟨v', w', hr, h2, h3, h4⟩ := Lib.run_append_own_string (P := Tryd.prog) w B 23 9 ty 5 i0 Tryd.underlying23 Tryd.underlying9 hi hz0 hz1 hz2 v l.length (bytesV l) h s (by unfold maxLen; omega) (by omega) hB
  refine ⟨v', w', hr, ?_, h3, ?_⟩
  · unfold Own
    have e : bytesV (l ++ s.data.toList) = bytesV l ++ Lib.strCells s := by unfold bytesV Lib.strCells; rw [List.map_append]
    have e2 : (l ++ s.data.toList).length = l.length + s.size := by rw [List.length_append, Array.length_toList]; rfl
    rw [e, e2]; exact h2
  · rcases h.2 with ⟨rfl, hl⟩ | ⟨g, cap, cur, rfl, hbg, hg, hnc, hcm, hcs, htake⟩
    · by_cases hm : s.size = 0
      · exact .inl (by rw [h4.2 ⟨rfl, hm⟩])
      · rcases h2.2 with ⟨rfl, _⟩ | ⟨g', cap', cur', rfl, hbg', hg', _⟩
        · exact absurd (h4.1 rfl).2 hm
        · right
          have hr2 := run_append_nil_string (P := Tryd.prog) w 23 9 ty 5 i0 (.int .u8 0) Tryd.underlying23 Tryd.underlying9 hi hz0 s (by omega) (by omega) (by rw [hz2]; omega)
          rw [hr] at hr2
          injection hr2 with e1 _
          rw [e1]; rfl
    · by_cases hroom : l.length + s.size ≤ cap
      · have hr2 := Lib.run_append_room_string (P := Tryd.prog) w 23 9 ty 5 i0 Tryd.underlying23 Tryd.underlying9 hi hz1 g l.length cap cur hg s hroom (by omega)
        rw [hr] at hr2
        injection hr2 with e1 _
        rw [e1]; exact .inl rfl
      · have holds : ∀ j u, (bytesV l)[j]? = some u → w.cell? ((⟨g, 0, none⟩ : Addr).add j) = some u := World.ownsRow.cells (g := g) h rfl
        have hr2 := Lib.run_append_grow_string (P := Tryd.prog) w 23 9 ty 5 i0 (.int .u8 0) Tryd.underlying23 Tryd.underlying9 hi hz0 ⟨g, 0, none⟩ l.length cap (bytesV l) (by rw [hz1, bytesV_len, Nat.mul_one]) holds s (by omega) (by omega) (by rw [hz2]; exact growslice_fits (by omega) (by omega))
        rw [hr] at hr2
        injection hr2 with e1 _
        rw [e1]; exact .inr rfl
section
variable {ops : Array Oper} {rest : List Oper} {o : Oper} {act : Act} {Q : Exit → Act → World → Prop}
theorem wpList_append_ownstr (w : World) (hgd : o.guard = none) (s x : Operand) (ho : o.op = .call { callee := .builtin .append, args := #[s, x], argTypes := #[23, 9] })
    {B : Nat} {v : Value} {l : List UInt8} (hs : act.eval s = v) (h : Own B w v l) {t : ByteArray} (hx : act.eval x = .string t) (hn : l.length + t.size ≤ 1000000000) (hB : B ≤ w.heap.size)
    (K : ∀ v' w', Own B w' v' (l ++ t.data.toList) → w.grownBy w' v.ownBlock → (v'.ownBlock = v.ownBlock ∨ v'.ownBlock = some w.heap.size) → wpList Tryd.prog ops Q rest (act.put o.dst v') w') : wpList Tryd.prog ops Q (o :: rest) act w := by
  refine wpList_plain hgd fun K2 hK => ?_
  obtain ⟨v', w', hr, h2, h3, h4⟩ := own_string_block w o.type h t hn hB
  unfold Oper.wp execOp
  simp only [ho, resolve, invoke, builtin, Sem.run_bind, Sem.run_pure, Result.andThen_ok, List.map_toArray, List.map_cons, List.map_nil, hs, hx, hr]
  exact hK _ _ (K v' w' h2 h3 h4)
end
end Go.Proofs.YtbplpfcgmmflnaaDoor
namespace Go.Proofs.YtbplpfcgmmflnaaDoor
open Go.RowKit

def CkOk (w : World) (_mm : Int) : Prop := Tabs w
theorem CkOk.keep {w w' : World} {mm : Int} (h : CkOk w mm) (hb : Below w.heap.size w w') : CkOk w' mm := tabs_below h hb
set_option maxRecDepth 100000 in
set_option maxHeartbeats 2000000 in
theorem projDecode_any (b : List UInt8) (a : Option Addr) (c : Nat) (mm : Int) (w : World) (h : IsBytes w a b c) (hl : b.length ≤ 100000) (_hm : CkOk w mm) :
    Calls Tryd.prog 16 #[.slice a b.length c] w (RetDec w (decodeS b)) := by
  obtain ⟨R, hR⟩ : ∃ R, R = decodeS b := ⟨_, rfl⟩
  rw [← hR]
  have HD := Box.mk (show R = if (feedS b.length zeroC [] 0 b).1 = 0 then
    (if (feedS b.length zeroC [] 0 b).2.1.ph = 4 then (0, (feedS b.length zeroC [] 0 b).2.2.1, (feedS b.length zeroC [] 0 b).2.2.2) else (4, [], 0))
    else ((feedS b.length zeroC [] 0 b).1, [], 0) from hR)
  have HB := Box.mk h
  clear h hR
  go_enter Tryd.func16, Tryd.ntmps16
  go_wp2_with fail
  refine (projFeed_any zeroC b b.length none a 0 c _ (.inl ⟨rfl, rfl, rfl⟩) HB.out okC_zero (by omega) (by omega) (by omega)).mono ?_
  rintro e w1 ⟨na, nc, oa, oc, he, _, hby, hb1⟩
  generalize feedS b.length zeroC [] 0 b = r at *
  obtain ⟨er, s1, out, n⟩ := r
  simp only [] at he hby HD
  subst he
  have hb2 := below_oneF w1 (.cells #[.int .i64 s1.ph, .int .i64 s1.left, .int .i64 s1.tr, .slice na s1.line.length nc] 27)
  have HBY := Box.mk (hby.keep hb2)
  have HB2 := Box.mk (below_trans hb1 hb2)
  clear hby hb1 hb2
  by_cases h0 : er = 0
  · have e0 : (er != 0) = false := by rw [h0]; rfl
    have e1 : (er == 0) = true := by rw [h0]; rfl
    by_cases h4 : s1.ph = 4
    · have HP := Box.mk (show R = (0, out, n) by rw [HD.out, if_pos h0, if_pos h4])
      have e4 : (s1.ph != 4) = false := by rw [h4]; rfl
      clear HD h0 h4
      go_wp2_with fail
      go_ret3
      exact ⟨oa, oc, by rw [HP.out]; rfl, by rw [HP.out]; exact HBY.out, HB2.out⟩
    · have HP := Box.mk (show R = (4, [], 0) by rw [HD.out, if_pos h0, if_neg h4])
      have e4 : (s1.ph != 4) = true := by rw [bne_iff_ne]; exact h4
      clear HD h0 h4
      go_wp2_with fail
      go_ret3
      exact ⟨none, 0, by rw [HP.out]; rfl, by rw [HP.out]; exact .inl ⟨rfl, rfl, rfl⟩, HB2.out⟩
  · have HP := Box.mk (show R = (er, [], 0) by rw [HD.out, if_neg h0])
    have e0 : (er != 0) = true := by rw [bne_iff_ne]; exact h0
    have e1 : (er == 0) = false := by rw [beq_eq_false_iff_ne]; exact h0
    clear HD h0
    go_wp2_with fail
    go_ret3
    exact ⟨none, 0, by rw [HP.out]; rfl, by rw [HP.out]; exact .inl ⟨rfl, rfl, rfl⟩, HB2.out⟩
set_option maxRecDepth 100000 in
set_option maxHeartbeats 2000000 in
theorem appendLine_any (w0 w : World) (v : Value) (l : List UInt8) (s : ByteArray) (h : Own w0.heap.size w v l) (hb : Below w0.heap.size w0 w) (hl : l.length ≤ 900000000) (hs : s.size ≤ 1000) :
    Calls Tryd.prog 27 #[v, .string s] w fun e w' => ∃ v' p, p = l ++ (s.data.toList ++ [13, 10]) ∧ e = .returned v' ∧ Own w0.heap.size w' v' p ∧ Below w0.heap.size w0 w' := by
  have HO := Box.mk h
  have HB := Box.mk hb
  have hsz := hb.size
  clear h hb
  go_enter Tryd.func27, Tryd.ntmps27
  go_wp2_with (at_builtin; refine wpList_append_ownstr _ rfl _ _ rfl rfl HO.out rfl (t := s) (by omega) hsz ?_)
  intro v1 w1 ho1 hg1 _
  have HB1 := Box.mk (HB.out.grown hg1 hsz (fun q e => (HO.out.lt e).1))
  have hel : s.data.toList.length = s.size := by rw [Array.length_toList]; rfl
  obtain ⟨p1, hp1⟩ : ∃ q, q = l ++ s.data.toList := ⟨_, rfl⟩
  rw [← hp1] at ho1
  have hl1 : p1.length ≤ 900001000 := by rw [hp1, List.length_append]; omega
  have HP1 := Box.mk hp1
  have HO1 := Box.mk ho1
  have hsz1 := HB1.out.size
  clear ho1 hg1 hp1 hel
  go_wp2_with (at_builtin; refine wpList_append_ownstr _ rfl _ _ rfl rfl HO1.out rfl (t := crlfB) (by have : crlfB.size = 2 := rfl; omega) hsz1 ?_)
  intro v2 w2 ho2 hg2 _
  have HB2 := Box.mk (HB1.out.grown hg2 hsz1 (fun q e => (HO1.out.lt e).1))
  obtain ⟨p2, hp2⟩ : ∃ q, q = p1 ++ crlfB.data.toList := ⟨_, rfl⟩
  have ho2 : Own w0.heap.size w2 v2 p2 := by rw [hp2]; exact ho2
  have HO2 := Box.mk ho2
  have HP2 := Box.mk hp2
  clear ho2 hg2 hp2
  go_wp2_with fail
  go_ret
  exact ⟨v2, p2, by rw [HP2.out, HP1.out, List.append_assoc]; rfl, rfl, HO2.out, HB2.out⟩
theorem hex_zero : fmtS 16 0 = ⟨#[48]⟩ := by decide +kernel
set_option maxRecDepth 100000 in
set_option maxHeartbeats 4000000 in
theorem projEncode_any (ls : List (List UInt8)) (a : Option Addr) (c : Nat) (mm : Int) (w : World) (h : SlcIn w a ls) (hn : ls.length ≤ 800) (hl : ∀ l ∈ ls, l.length ≤ 1000000) (hm : CkOk w mm) :
    Calls Tryd.prog 18 #[.slice a ls.length c] w fun e w' => ∃ ra rl rc, rl = encodeS ls ∧ e = .returned (.slice ra (List.length rl) rc) ∧ IsBytes w' ra rl rc ∧ Below w.heap.size w w' := by
  have H0 := Box.mk h
  have HL := Box.mk hl
  have HT := Box.mk hm
  have HSZ := Box.mk (fun k => encGo_size (ls.take k) (fun l hl2 => hl l (List.mem_of_mem_take hl2)) ⟨#[]⟩)
  clear h hl hm
  go_enter Tryd.func18, Tryd.ntmps18
  go_wp2_with fail
  go_loopw [3, 8] (fun v iv wr => ∃ k : Nat, k ≤ ls.length ∧ iv = .int .i64 k ∧ ∃ p : List UInt8, Box (Own w.heap.size wr v p ∧ Below w.heap.size w wr ∧ p = (encGo ⟨#[]⟩ (ls.take k)).data.toList)) (fun _ iv _ => ls.length - (intOf iv).toNat)
  case atStart => exact ⟨0, Nat.zero_le _, rfl, [], ⟨Own.start _ _, Below.refl _ _, rfl⟩⟩
  case round =>
    obtain ⟨k, hk, rfl, p, HM⟩ := hrel
    have hsz : p.length ≤ 800054400 := by
      have h1 := HSZ.out k
      have h2 : (ls.take k).length ≤ 800 := by rw [List.length_take]; omega
      have h3 : (⟨#[]⟩ : ByteArray).size = 0 := rfl
      have h4 : p.length = (encGo ⟨#[]⟩ (ls.take k)).size := by rw [HM.out.2.2, Array.length_toList]; rfl
      omega
    have HOP := Box.mk HM.out.1
    have HBP := Box.mk HM.out.2.1
    have HEP := Box.mk HM.out.2.2
    clear HM
    by_cases hlt : k < ls.length
    · obtain ⟨ad, ba, bc, rfl, hc1, hby⟩ := (H0.out.keep HBP.out) k hlt
      have HTK := Box.mk (show encGo ⟨#[]⟩ (ls.take (k + 1)) = encOne (encGo ⟨#[]⟩ (ls.take k)) ls[k] from encGo_take hlt)
      have hll := HL.out _ (List.getElem_mem hlt)
      obtain ⟨ad2, ba2, bc2, ead, hcw, hby2⟩ := H0.out k hlt
      obtain rfl := Option.some.inj ead
      have hcw2 := below_cell HBP.out hcw
      rw [hc1] at hcw2
      obtain ⟨rfl, rfl⟩ : ba = ba2 ∧ bc = bc2 := by
        injection hcw2 with h
        injection h with e1 _ e3
        exact ⟨e1, e3⟩
      clear hcw hcw2
      generalize ls[k] = y at *
      have HBY2 := Box.mk (hby2)
      clear hby hby2
      by_cases hy : y.length = 0
      · have HS1 := Box.mk (show encGo ⟨#[]⟩ (ls.take (k + 1)) = encGo ⟨#[]⟩ (ls.take k) by rw [HTK.out]; unfold encOne; rw [if_pos hy])
        have hy0 : ¬ 0 < y.length := by omega
        clear hy HTK
        go_wp2_with fail
        go_roundw
        case rel => exact ⟨k + 1, by omega, by go_num, p, ⟨HOP.out, HBP.out, by rw [HS1.out]; exact HEP.out⟩⟩
        case measure => simp [intOf]; omega
      · have HS1 := Box.mk (show (encGo ⟨#[]⟩ (ls.take (k + 1))).data.toList = p ++ ((fmtS 16 y.length).data.toList ++ [13, 10]) ++ y ++ [13, 10] by
          rw [HTK.out, HEP.out]; unfold encOne; rw [if_neg hy]
          simp [crlfB])
        have hy0 : 0 < y.length := by omega
        have hfs := fmtS_size (b := 16) (by decide) (y.length : Int) (by omega)
        clear hy HTK
        go_wp2_with fail
        refine (hex_any y.length _ (by omega) (by omega) (tabs_below HT.out HBP.out)).mono ?_
        rintro e w1 ⟨rfl, hb1⟩
        generalize fmtS 16 (y.length : Int) = fx at *
        have HO1 := Box.mk (HOP.out.keep hb1)
        have HB1 := Box.mk (below_trans HBP.out hb1)
        clear hb1
        go_wp2_with fail
        refine (appendLine_any w _ _ p fx HO1.out HB1.out (by omega) (by omega)).mono ?_
        rintro e w2 ⟨v2, p2, hp2, rfl, ho2, hb2⟩
        have hel : fx.data.toList.length = fx.size := by rw [Array.length_toList]; rfl
        have hl2 : p2.length ≤ 800055466 := by rw [hp2]; simp only [List.length_append, List.length_cons, List.length_nil]; omega
        have HP2 := Box.mk hp2
        have HO2 := Box.mk ho2
        have HB2 := Box.mk hb2
        have hsz2 := hb2.size
        clear hp2 ho2 hb2 hel
        go_wp2_with (at_builtin; refine wpList_append_ownb _ rfl _ _ rfl rfl HO2.out rfl (r := y) (HBY2.out.keep HB2.out) (by omega) hsz2 ?_)
        intro v3 w3 ho3 hg3 _
        obtain ⟨p3, hp3⟩ : ∃ q, q = p2 ++ y := ⟨_, rfl⟩
        rw [← hp3] at ho3
        have hl3 : p3.length ≤ 801055466 := by rw [hp3, List.length_append]; omega
        have HP3 := Box.mk hp3
        have HO3 := Box.mk ho3
        have HB3 := Box.mk (HB2.out.grown hg3 hsz2 (fun q e => (HO2.out.lt e).1))
        clear hp3 ho3 hg3
        go_wp2_with fail
        refine (appendLine_any w _ _ p3 ⟨#[]⟩ HO3.out HB3.out (by omega) (by decide)).mono ?_
        rintro e w4 ⟨v4, p4, hp4, rfl, ho4, hb4⟩
        have HP4 := Box.mk hp4
        have HO4 := Box.mk ho4
        have HB4 := Box.mk hb4
        clear hp4 ho4 hb4
        go_wp2_with fail
        go_roundw
        case rel => exact ⟨k + 1, by omega, by go_num, p4, ⟨HO4.out, HB4.out, by rw [HS1.out, HP4.out, HP3.out, HP2.out]; rfl⟩⟩
        case measure => simp [intOf]; omega
    · have HS1 := Box.mk (show encodeS ls = p ++ [48, 13, 10] ++ [13, 10] by
        rw [HEP.out, List.take_of_length_le (by omega)]
        unfold encodeS
        simp [endB])
      go_wp2_with fail
      refine (hex_any 0 _ (by decide) (by decide) (tabs_below HT.out HBP.out)).mono ?_
      rintro e w1 ⟨he, hb1⟩
      rw [hex_zero] at he
      subst he
      have HO1 := Box.mk (HOP.out.keep hb1)
      have HB1 := Box.mk (below_trans HBP.out hb1)
      clear hb1
      go_wp2_with fail
      refine (appendLine_any w _ _ p ⟨#[48]⟩ HO1.out HB1.out (by omega) (by decide)).mono ?_
      rintro e w2 ⟨v2, p2, hp2, rfl, ho2, hb2⟩
      have hl2 : p2.length ≤ 800055466 := by rw [hp2]; simp only [List.length_append, List.length_cons, List.length_nil]; omega
      have HP2 := Box.mk hp2
      have HO2 := Box.mk ho2
      have HB2 := Box.mk hb2
      clear hp2 ho2 hb2
      go_wp2_with fail
      refine (appendLine_any w _ _ p2 ⟨#[]⟩ HO2.out HB2.out (by omega) (by decide)).mono ?_
      rintro e w4 ⟨v4, p4, hp4, rfl, ho4, hb4⟩
      obtain ⟨ra, rc, rfl, hby4⟩ := ho4.val
      have HP4 := Box.mk hp4
      have HY4 := Box.mk hby4
      have HB4 := Box.mk hb4
      clear hp4 ho4 hb4 hby4
      go_wp2_with fail
      go_ret
      exact ⟨ra, p4, rc, by rw [HS1.out, HP4.out, HP2.out]; rfl, rfl, HY4.out, HB4.out⟩
end Go.Proofs.YtbplpfcgmmflnaaDoor
namespace Go.Proofs.YtbplpfcgmmflnaaDoor
open Go.RowKit

def abcL : List UInt8 := [97, 98, 99]
def encA : List UInt8 := [51, 13, 10, 97, 98, 99, 13, 10, 48, 13, 10, 13, 10]
theorem enc_abc : encodeS [abcL] = encA := by decide +kernel
theorem dec_abc : decodeS encA = (0, abcL, 13) := by decide +kernel
theorem row_bytesC {w : World} {g : Nat} {l : List UInt8} {t : TypeId} {fr : Nat × Nat} (h : w.heap[g]? = some (.cells (bytesV l).toArray t fr)) (hl : l.length ≤ maxLen) : IsBytes w (some ⟨g, 0, none⟩) l l.length := by
  refine .inr ⟨_, rfl, Nat.le_refl _, hl, fun j hj => ?_⟩
  rw [Addr.add_lit, Nat.zero_add, cell_of_row _ _ _ _ _ _ h]
  simp [bytesV, hj]
set_option maxRecDepth 100000 in
set_option maxHeartbeats 2000000 in
theorem awakeC_any (mm : Int) (w : World) (hm : CkOk w mm) : Calls Tryd.prog 15 #[] w fun e w' => e = .returned (.bool true) ∧ Below w.heap.size w w' := by
  have kc := fun (w : World) (C : Array Value) (n c : Nat) => Lib.run_convert_bytes_const (P := Tryd.prog) w 23 5 C n c Tryd.underlying23 Tryd.underlying5
  have HM := Box.mk hm
  clear hm
  go_enter Tryd.func15, Tryd.ntmps15
  go_wp2_with fail
  clear kc
  have hb1 := below_oneF w (.cells (bytesV abcL).toArray 5 (3, 4))
  have hby := row_bytesC (heap_alloc_new w (.cells (bytesV abcL).toArray 5 (3, 4))) (by decide)
  have hb2 := below_oneF (w.alloc (.cells (bytesV abcL).toArray 5 (3, 4))) (.cells #[.slice (some ⟨w.heap.size, 0, none⟩) abcL.length 3] 23)
  have hsl := slcIn_build1 hby 23 (0, 0)
  rw [World.size_alloc] at hsl
  have HB2 := Box.mk (below_trans hb1 hb2)
  have HSL := Box.mk hsl
  clear hb1 hby hb2 hsl
  refine (projEncode_any [abcL] (some ⟨w.heap.size + 1, 0, none⟩) 1 mm _ HSL.out (by decide) (fun l hl => by obtain rfl := List.mem_singleton.1 hl; decide) (HM.out.keep HB2.out)).mono ?_
  rintro e w1 ⟨ra, rl, rc, hrl, rfl, hby, hb⟩
  rw [enc_abc] at hrl
  subst hrl
  have HBY := Box.mk hby
  have HB1 := Box.mk (below_trans HB2.out hb)
  clear hby hb HB2 HSL
  go_wp2_with fail
  refine (projDecode_any encA ra rc mm _ HBY.out (by decide) (HM.out.keep HB1.out)).mono ?_
  rintro e w2 ⟨oa, oc, he, hby2, hb2⟩
  rw [dec_abc] at he hby2
  simp only [] at he hby2
  subst he
  have hc1 := conv_bytes (HBY.out.keep hb2)
  have hc2 := conv_bytes hby2
  have hs1 : (⟨encA.toArray⟩ : ByteArray).toList = [51, 13, 10, 97, 98, 99, 13, 10, 48, 13, 10, 13, 10] := by decide +kernel
  have hs2 : (⟨abcL.toArray⟩ : ByteArray).toList = [97, 98, 99] := by decide +kernel
  have HB3 := Box.mk (below_trans HB1.out hb2)
  clear hb2 hby2 HBY HB1
  go_wp2_with fail
  go_ret
  exact ⟨rfl, HB3.out⟩
end Go.Proofs.YtbplpfcgmmflnaaDoor
namespace Go.Proofs.YtbplpfcgmmflnaaDoor
open Go.RowKit

/-- In wire's loop. -/
structure WireJ (w : World) (g : Nat) (a : Option Addr) (m c : Nat) (p : List UInt8) (i : Nat) (v : Value) (W : World) : Prop where
  own : Own (g + 1) W v p
  chunks : WireP p
  len : p.length ≤ 500
  src : SrcI W g a m c i
  below : Below w.heap.size w W
/-- A chunk's bytes d are at hand; what was made so far is p. -/
structure WireQ (w : World) (g : Nat) (a : Option Addr) (m c : Nat) (p d : List UInt8) (vd : Value) (D i : Nat) (v : Value) (W : World) : Prop where
  own : Own (g + 1) W v p
  data : Own D W vd d
  src : SrcI W g a m c i
  below : Below w.heap.size w W
  apart : ∀ k k', v.ownBlock = some k → vd.ownBlock = some k' → k ≠ k'
theorem WireQ.keep {w : World} {g : Nat} {a : Option Addr} {m c : Nat} {p d : List UInt8} {vd : Value} {D i : Nat} {v : Value} {W W' : World} (h : WireQ w g a m c p d vd D i v W) (hb : Below W.heap.size W W') : WireQ w g a m c p d vd D i v W' :=
  ⟨h.own.keep hb, h.data.keep hb, h.src.keep hb, below_trans h.below hb, h.apart⟩
/-- More bytes behind it. -/
theorem WireQ.app {w : World} {g : Nat} {a : Option Addr} {m c : Nat} {p p' d : List UInt8} {vd : Value} {D i : Nat} {v v' : Value} {W W' : World} (h : WireQ w g a m c p d vd D i v W) (hlow : ∀ x, a = some x → 0 < m → x.block < g) (hg : w.heap.size ≤ g)
    (ho : Own (g + 1) W' v' p') (hgr : W.grownBy W' v.ownBlock) (hbl : v'.ownBlock = v.ownBlock ∨ v'.ownBlock = some W.heap.size) : WireQ w g a m c p' d vd D i v' W' := by
  refine ⟨ho, h.data.grown hgr (fun k e e2 => h.apart k k e2.symm e rfl), h.src.grown2 hgr (fun e => by have := (h.own.lt e.symm).1; omega) (fun x e h0 e2 => by have := (h.own.lt e2.symm).1; have := hlow x e h0; omega),
    h.below.grown hgr h.below.size (fun q e => by have := (h.own.lt e).1; omega), fun k k' e1 e2 => ?_⟩
  rcases hbl with hb | hb
  · exact h.apart k k' (hb ▸ e1) e2
  · have h1 : k = W.heap.size := (Option.some.inj (hb.symm.trans e1)).symm
    have h2 := (h.data.lt e2).2
    omega
theorem WireQ.next {w : World} {g : Nat} {a : Option Addr} {m c : Nat} {p d : List UInt8} {vd : Value} {D i i2 : Nat} {v : Value} {W W' : World} (h : WireQ w g a m c p d vd D i v W) (hD : g < D) (hg : w.heap.size ≤ g) (hs : SrcI W' g a m c i2) (hgr : W.grownBy W' (some g)) : WireQ w g a m c p d vd D i2 v W' :=
  ⟨h.own.grown hgr (fun k e e2 => by have := (h.own.lt e).1; have := Option.some.inj e2; omega), h.data.grown hgr (fun k e e2 => by have := (h.data.lt e).1; have := Option.some.inj e2; omega), hs, h.below.grown hgr h.below.size (fun q e => by have := Option.some.inj e; omega), h.apart⟩
theorem Own.low {B B' : Nat} {w : World} {v : Value} {l : List UInt8} (h : Own B w v l) (hB : B' ≤ B) : Own B' w v l := by
  obtain ⟨h1, h2⟩ := h
  refine ⟨h1, ?_⟩
  rcases h2 with h2 | ⟨g, cap, cur, hv, hg, r⟩
  · exact .inl h2
  · exact .inr ⟨g, cap, cur, hv, Nat.le_trans hB hg, r⟩
theorem Own.form {B : Nat} {w : World} {v : Value} {l : List UInt8} (h : Own B w v l) (hl : 0 < l.length) : ∃ g c, v = .slice (some ⟨g, 0, none⟩) l.length c := by
  obtain ⟨_, h2⟩ := h
  rcases h2 with ⟨_, h3⟩ | ⟨g, cap, cur, hv, _⟩
  · omega
  · exact ⟨g, cap, hv⟩
theorem IsBytes.cellAt {w : World} {g c k : Nat} {l : List UInt8} (h : IsBytes w (some ⟨g, 0, none⟩) l c) (hk : k < l.length) : w.cell? ⟨g, k, none⟩ = some (.int .u8 ((l.getD k 0).toNat : Int)) := by
  rcases h with ⟨h1, _⟩ | ⟨y, h1, _, _, h2⟩
  · cases h1
  · obtain rfl := Option.some.inj h1
    have := h2 k hk
    rw [Addr.add_lit, Nat.zero_add] at this
    rw [this]; simp [List.getD, hk]
theorem Own.thawed {B g c n : Nat} {w : World} {l : List UInt8} (h : Own B w (.slice (some ⟨g, 0, none⟩) n c) l) (k : Nat) : w.frozen? ⟨g, k, none⟩ = false := by
  obtain ⟨_, h2⟩ := h
  rcases h2 with ⟨h3, _⟩ | ⟨g', cap, cur, hv, _, hg, _⟩
  · cases h3
  · injection hv with e1 _ _
    injection e1 with e1
    injection e1 with e1 _ _
    subst e1
    simp [World.frozen?, hg]
theorem Own.put8 {B g c n : Nat} {w : World} {l : List UInt8} (h : Own B w (.slice (some ⟨g, 0, none⟩) n c) l) (k : Nat) (x : UInt8) :
    Own B (w.setCell ⟨g, k, none⟩ (.int .u8 (x.toNat : Int))) (.slice (some ⟨g, 0, none⟩) n c) (l.set k x) ∧ w.grownBy (w.setCell ⟨g, k, none⟩ (.int .u8 (x.toNat : Int))) (some g) := by
  obtain ⟨cc, hn⟩ : ∃ cc, Value.slice (some ⟨g, 0, none⟩) n c = .slice (some ⟨g, 0, none⟩) l.length cc := by
    rcases h.2 with ⟨h3, _⟩ | ⟨g', cap, cur, hv, _⟩
    · cases h3
    · injection hv with e1 e2 e3
      exact ⟨c, by rw [e2]⟩
  injection hn with _ e2 _
  subst e2
  have h1 := World.ownsRow.stored h k (.int .u8 (x.toNat : Int))
  refine ⟨?_, h1.2⟩
  unfold Own
  rw [List.length_set]
  have e : bytesV (l.set k x) = (bytesV l).set k (.int .u8 (x.toNat : Int)) := by unfold bytesV; rw [List.map_set]
  rw [e]; exact h1.1
theorem SrcI.at1 {w : World} {g : Nat} {a : Option Addr} {n c i : Nat} (h : SrcI w g a n c i) : (intOf ((w.cell? ⟨g, 1, none⟩).getD undef)).toNat = i := by
  rw [cell_of_row _ _ _ _ _ _ h.2.1]; rfl
set_option maxRecDepth 100000 in
set_option maxHeartbeats 4000000 in
theorem wire_any (a : Option Addr) (n c : Nat) (at_ : Int) (x : UInt8) (w : World) (hi : IntsF w a n) (hn : n ≤ maxLen) (hc : n ≤ c) (ha : 0 < n → ∃ ad, a = some ad) :
    Calls Tryd.prog 9 #[.slice a n c, .int .i64 at_, .int .u8 x.toNat] w fun e w' => ∃ l la lc, e = .returned (.slice la (List.length l) lc) ∧ Own w.heap.size w' (.slice la (List.length l) lc) l ∧ l.length ≤ 600 ∧ 0 < l.length ∧ (¬ bits .and .i64 at_ 1 = 1 → WireW l) ∧ Below w.heap.size w w' := by
  have HLOW := Box.mk (show ∀ x, a = some x → 0 < n → x.block < w.heap.size from fun x e h0 => by
    obtain ⟨y, z, e2, hc, _⟩ := hi 0 h0
    rw [e] at e2
    obtain rfl := Option.some.inj e2
    have := lt_cell hc
    rw [add_blockF] at this; exact this)
  go_enter Tryd.func9, Tryd.ntmps9
  go_wp2_with fail
  refine (cut_any a n c 80 w hi hn hc (by decide) ha).mono ?_
  rintro e w1 ⟨m, hm80, hmn, rfl, hi2, rfl⟩
  have HJ := Box.mk (show WireJ w w.heap.size a m c [] 0 (.slice none 0 0) (w.alloc (.cells #[.slice a m c, .int .i64 0] 48)) from
    ⟨Own.start _ _, WireP.nil, by simp, ⟨Nat.zero_le _, heap_alloc_new _ _, by unfold maxLen; omega, hi2.keep (below_oneF _ _), fun x e h0 => by have := HLOW.out x e (by omega); omega⟩, below_oneF _ _⟩)
  clear hi hn hc ha hi2
  go_wp2_with fail
  go_loopw [8] (fun v wr => ∃ p i, Box (WireJ w w.heap.size a m c p i v wr)) (fun _ wr => m - (intOf ((wr.cell? ⟨w.heap.size, 1, none⟩).getD undef)).toNat)
  case atStart => exact ⟨[], 0, HJ⟩
  case round =>
    clear HJ
    obtain ⟨p, i, HM⟩ := hrel
    obtain ⟨oa, oc, rfl, hob⟩ := HM.out.own.val
    have hpl := HM.out.len
    have HAT := Box.mk HM.out.src.at1
    clear hob
    go_wp2_with fail
    refine (leftI_any w.heap.size a m c i wr HM.out.src).mono ?_
    rintro e w2 ⟨he, hb2⟩
    have HO2 := Box.mk (HM.out.own.keep hb2)
    have HS2 := Box.mk (HM.out.src.keep hb2)
    have HB2 := Box.mk (below_trans HM.out.below hb2)
    have HW2 := Box.mk HM.out.chunks
    clear hb2 HM
    by_cases hgo : i < m ∧ p.length < 400
    · rw [decide_eq_true hgo.1] at he
      subst he
      have h400 := hgo.2
      have HIM := Box.mk hgo.1
      clear hgo
      go_wp2_with fail
      refine (bytesI_any w.heap.size 20 a m c i w2 HS2.out (by decide)).mono ?_
      rintro e w3 ⟨v9, d, rfl, hown9, hdl, ⟨i2, hsrc, hi2, hi3⟩, hg3⟩
      obtain ⟨da, dc, rfl, hdb⟩ := hown9.val
      have hg1 : w.heap.size < w2.heap.size := (Array.getElem?_eq_some_iff.1 HS2.out.2.1).1
      have HO3 := Box.mk (HO2.out.grown hg3 (fun q e e2 => by have := (HO2.out.lt e).1; have := Option.some.inj e2; omega))
      have HQ := Box.mk (show WireQ w w.heap.size a m c p d (.slice da d.length dc) w2.heap.size i2 (.slice oa p.length oc) w3 from
        ⟨HO3.out, hown9, hsrc, HB2.out.grown hg3 HB2.out.size (fun q e => by have := Option.some.inj e; omega), fun q q' e1 e2 => by have := (HO2.out.lt e1).2; have := (hown9.lt e2).1; omega⟩)
      clear hown9 hsrc hg3 hdb HO2 HS2 HB2 HO3
      by_cases hd : d = []
      · have HD0 := Box.mk (show d.length = 0 by rw [hd]; rfl)
        have ed : ((d.length : Int) == 0) = true := by rw [HD0.out]; rfl
        clear hd
        go_wp2_with fail
        go_roundw
        case rel => exact ⟨p, i2, ⟨HQ.out.own, HW2.out, hpl, HQ.out.src, HQ.out.below⟩⟩
        case measure =>
          rw [HQ.out.src.at1, HAT.out]
          have h1 := hi3 HIM.out
          have h2 := HIM.out
          omega
      · have HDN := Box.mk hd
        have ed : ((d.length : Int) == 0) = false := by
          rw [beq_eq_false_iff_ne]
          have := List.length_pos_iff.2 hd; omega
        clear hd
        go_wp2_with fail
        have hdv := HQ.out.data.bytes
        have hsl := slcIn_build1 hdv 23 (0, 0)
        have hb4 := below_oneF w3 (.cells #[.slice da d.length dc] 23)
        refine (refEncode_any [d] (some ⟨w3.heap.size, 0, none⟩) 1 _ hsl (by simp) (fun l hl => by obtain rfl := List.mem_singleton.1 hl; omega)).mono ?_
        rintro e w4 ⟨ra, rl, rc, hrl, rfl, hby, hb5⟩
        have HQ4 := Box.mk (HQ.out.keep (below_trans hb4 hb5))
        obtain ⟨dg, hdg⟩ : ∃ dg, dg = digs 16 d.length := ⟨_, rfl⟩
        have hdgl : dg.length ≤ 64 := by rw [hdg]; exact digs16_len d.length (by omega)
        have hrl2 : rl = dg ++ 13 :: 10 :: (d ++ 13 :: 10 :: [48, 13, 10, 13, 10]) := by
          rw [hrl, encodeS_eq, encL, if_neg HDN.out, encL, ← hdg]
        have hrn : rl.length = dg.length + d.length + 9 := by rw [hrl2]; simp; omega
        have HDG := Box.mk hdg
        have hcap : rl.length ≤ rc := by
          rcases hby with ⟨_, e, _⟩ | ⟨_, _, h1, _, _⟩
          · rw [e] at hrn; simp at hrn
          · exact h1
        obtain ⟨rad, rfl⟩ : ∃ rad, ra = some rad := by
          rcases hby with ⟨_, e, _⟩ | ⟨y, e, _⟩
          · rw [e] at hrn; simp at hrn
          · exact ⟨y, e⟩
        have HBD := Box.mk (show IsBytes w4 (some rad) dg rc by
          have h1 := isBytes_take hby dg.length
          rw [hrl2, List.take_left] at h1
          exact h1)
        have hcap2 : dg.length ≤ rc := by omega
        obtain ⟨N, hN⟩ : ∃ N, N = rl.length := ⟨_, rfl⟩
        have e38 : (N : Int) - 5 - (d.length : Int) - 4 = (dg.length : Int) := by omega
        have hNN : N = dg.length + d.length + 9 := by omega
        rw [← hN] at hcap ⊢
        have hN1 : N ≤ 200 := by omega
        have hN2 : 9 + d.length ≤ N := by omega
        clear hrl hby hb4 hb5 hsl hdv HQ hdg hrl2 hrn hN hNN
        have HLM := Box.mk (show ∀ x, a = some x → 0 < m → x.block < w.heap.size from fun x e h0 => HLOW.out x e (by omega))
        have hsz4 := HQ4.out.below.size
        have hg4 : w.heap.size < w4.heap.size := (Array.getElem?_eq_some_iff.1 HQ4.out.src.2.1).1
        go_wp2_with (at_builtin; refine wpList_append_ownb _ rfl _ _ rfl rfl HQ4.out.own rfl (r := dg) HBD.out (by omega) (by omega) ?_)
        intro v5 w5 hown hgr hbl
        obtain ⟨p5, hp5⟩ : ∃ q, q = p ++ dg := ⟨_, rfl⟩
        rw [← hp5] at hown
        have HP5 := Box.mk hp5
        have hq1 : p5.length ≤ 464 := by rw [hp5, List.length_append]; omega
        clear hp5
        have HQ5 := Box.mk (HQ4.out.app HLM.out (Nat.le_refl _) hown hgr hbl)
        have hg5 : w.heap.size < w5.heap.size := (Array.getElem?_eq_some_iff.1 HQ5.out.src.2.1).1
        clear hown hgr hbl HQ4 HBD e38 hcap hcap2 hN1 hN2
        go_wp2_with fail
        obtain ⟨W6, hW6⟩ : ∃ W6, W6 = w5.alloc (.cells (extsC.map Value.string).toArray 9) := ⟨_, rfl⟩
        have HB6 := Box.mk (show Below w5.heap.size w5 W6 by rw [hW6]; exact below_oneF w5 _)
        have HL6 := Box.mk (show StrsIn W6 (some ⟨w5.heap.size, 0, none⟩) extsC by rw [hW6]; exact strsIn_newF w5 extsC 9)
        change Calls _ _ _ (w5.alloc (.cells (extsC.map Value.string).toArray 9)) _
        rw [← hW6]
        clear hW6
        have HQ6 := Box.mk (HQ5.out.keep HB6.out)
        refine (ofI_n w.heap.size w5.heap.size 5 extsC 5 a m c i2 W6 HQ6.out.src HL6.out (by omega) rfl (by decide) (by decide)).mono ?_
        rintro e w7 ⟨ext, hext, rfl, ⟨i3, hs3, hle3⟩, hg7⟩
        have HQ7 := Box.mk (HQ6.out.next hg1 (Nat.le_refl _) hs3 hg7)
        have HXT := Box.mk hext
        have hxs := (ext_parts hext).1
        have hg7b : w.heap.size < w7.heap.size := (Array.getElem?_eq_some_iff.1 HQ7.out.src.2.1).1
        clear hs3 hg7 hext HQ5 HQ6 HB6 HL6
        go_wp2_with (at_builtin; refine wpList_append_ownstr _ rfl _ _ rfl rfl HQ7.out.own rfl (t := ext) (by omega) (by omega) ?_)
        intro v8 w8 hown hgr hbl
        have hel : ext.data.toList.length = ext.size := by rw [Array.length_toList]; rfl
        obtain ⟨p8, hp8⟩ : ∃ q, q = p5 ++ ext.data.toList := ⟨_, rfl⟩
        rw [← hp8] at hown
        have HP8 := Box.mk hp8
        have hq2 : p8.length ≤ 468 := by rw [hp8, List.length_append]; omega
        clear hp8
        have HQ8 := Box.mk (HQ7.out.app HLM.out (Nat.le_refl _) hown hgr hbl)
        have hg8 : w.heap.size < w8.heap.size := (Array.getElem?_eq_some_iff.1 HQ8.out.src.2.1).1
        clear hown hgr hbl HQ7 hel
        go_wp2_with (at_builtin; refine wpList_append_ownstr _ rfl _ _ rfl rfl HQ8.out.own rfl (t := crlfB) (by have : crlfB.size = 2 := rfl; omega) (by omega) ?_)
        intro v9 w9 hown hgr hbl
        obtain ⟨p9, hp9⟩ : ∃ q, q = p8 ++ crlfB.data.toList := ⟨_, rfl⟩
        have hown : Own (w.heap.size + 1) w9 v9 p9 := by rw [hp9]; exact hown
        have HP9 := Box.mk hp9
        have hq3 : p9.length ≤ 470 := by rw [hp9, List.length_append]; show _ + 2 ≤ _; omega
        clear hp9
        have HQ9 := Box.mk (HQ8.out.app HLM.out (Nat.le_refl _) hown hgr hbl)
        have hg9 : w.heap.size < w9.heap.size := (Array.getElem?_eq_some_iff.1 HQ9.out.src.2.1).1
        have HDB := Box.mk HQ9.out.data.bytes
        clear hown hgr hbl HQ8
        go_wp2_with (at_builtin; refine wpList_append_ownb _ rfl _ _ rfl rfl HQ9.out.own rfl (r := d) HDB.out (by omega) (by omega) ?_)
        intro v10 w10 hown hgr hbl
        obtain ⟨p10, hp10⟩ : ∃ q, q = p9 ++ d := ⟨_, rfl⟩
        rw [← hp10] at hown
        have HP10 := Box.mk hp10
        have hq4 : p10.length ≤ 490 := by rw [hp10, List.length_append]; omega
        clear hp10
        have HQ10 := Box.mk (HQ9.out.app HLM.out (Nat.le_refl _) hown hgr hbl)
        have hg10 : w.heap.size < w10.heap.size := (Array.getElem?_eq_some_iff.1 HQ10.out.src.2.1).1
        clear hown hgr hbl HQ9 HDB
        go_wp2_with (at_builtin; refine wpList_append_ownstr _ rfl _ _ rfl rfl HQ10.out.own rfl (t := crlfB) (by have : crlfB.size = 2 := rfl; omega) (by omega) ?_)
        intro v11 w11 hown hgr hbl
        obtain ⟨p11, hp11⟩ : ∃ q, q = p10 ++ crlfB.data.toList := ⟨_, rfl⟩
        have hown : Own (w.heap.size + 1) w11 v11 p11 := by rw [hp11]; exact hown
        have HP11 := Box.mk hp11
        have hq5 : p11.length ≤ 500 := by rw [hp11, List.length_append]; show _ + 2 ≤ _; omega
        clear hp11
        have HQ11 := Box.mk (HQ10.out.app HLM.out (Nat.le_refl _) hown hgr hbl)
        clear hown hgr hbl HQ10
        have HWN := Box.mk (show WireP p11 by
          have h1 := WireP.snoc p ext d HW2.out HXT.out HDN.out hdl
          rw [← HDG.out] at h1
          have e : p11 = p ++ (dg ++ ext.data.toList ++ [13, 10] ++ d ++ [13, 10]) := by rw [HP11.out, HP10.out, HP9.out, HP8.out, HP5.out]; simp [crlfB]
          rw [e]; exact h1)
        go_wp2_with fail
        go_roundw
        case rel => exact ⟨p11, i3, ⟨HQ11.out.own, HWN.out, hq5, HQ11.out.src, HQ11.out.below⟩⟩
        case measure =>
          rw [HQ11.out.src.at1, HAT.out]
          have h1 := hi3 HIM.out
          have h2 := HIM.out
          omega
    · have hcase : (i < m ∧ 400 ≤ p.length) ∨ ¬ i < m := by omega
      have HQ := Box.mk (show WireQ w w.heap.size a m c p [] (.slice none 0 0) (w.heap.size + 1) i (.slice oa p.length oc) w2 from
        ⟨HO2.out, Own.start _ _, HS2.out, HB2.out, fun k k' _ e2 => by cases e2⟩)
      have HLM := Box.mk (show ∀ x, a = some x → 0 < m → x.block < w.heap.size from fun x e h0 => HLOW.out x e (by omega))
      clear HO2 HS2 HB2 hgo HAT
      have hg2 : w.heap.size < w2.heap.size := (Array.getElem?_eq_some_iff.1 HQ.out.src.2.1).1
      rcases hcase with hc1 | hc1
      case' inl => rw [decide_eq_true hc1.1] at he
      case' inr => rw [decide_eq_false hc1] at he
      all_goals
        subst he
        try (have h400 := hc1.2)
        clear hc1
        go_wp2_with fail
        obtain ⟨W3, hW3⟩ : ∃ W3, W3 = w2.alloc (.cells (lastsC.map Value.string).toArray 9) := ⟨_, rfl⟩
        have HB3 := Box.mk (show Below w2.heap.size w2 W3 by rw [hW3]; exact below_oneF w2 _)
        have HL3 := Box.mk (show StrsIn W3 (some ⟨w2.heap.size, 0, none⟩) lastsC by rw [hW3]; exact strsIn_newF w2 lastsC 9)
        change Calls _ _ _ (w2.alloc (.cells (lastsC.map Value.string).toArray 9)) _
        rw [← hW3]
        clear hW3
        have HQ3 := Box.mk (HQ.out.keep HB3.out)
        refine (ofI_n w.heap.size w2.heap.size 3 lastsC 3 a m c i W3 HQ3.out.src HL3.out (by omega) rfl (by decide) (by decide)).mono ?_
        rintro e w4 ⟨s1, hs1, rfl, ⟨i3, hs3, hle3⟩, hg4⟩
        have HQ4 := Box.mk (HQ3.out.next (Nat.lt_succ_self _) (Nat.le_refl _) hs3 hg4)
        have HS1 := Box.mk hs1
        have hz1 : s1.size ≤ 6 := of_decide_eq_true (List.all_eq_true.1 (show (lastsC.all fun e => decide (e.size ≤ 6)) = true by decide +kernel) s1 hs1)
        have hg4 : w.heap.size < w4.heap.size := (Array.getElem?_eq_some_iff.1 HQ4.out.src.2.1).1
        clear hs3 hle3 hs1 HQ HQ3 HB3 HL3
        go_wp2_with (at_builtin; refine wpList_append_ownstr _ rfl _ _ rfl rfl HQ4.out.own rfl (t := s1) (by omega) (by omega) ?_)
        intro v5 w5 hown hgr hbl
        have hel : s1.data.toList.length = s1.size := by rw [Array.length_toList]; rfl
        obtain ⟨p5, hp5⟩ : ∃ q, q = p ++ s1.data.toList := ⟨_, rfl⟩
        rw [← hp5] at hown
        have HP5 := Box.mk hp5
        have hq1 : p5.length ≤ 506 := by rw [hp5, List.length_append]; omega
        clear hp5 hel
        have HQ5 := Box.mk (HQ4.out.app HLM.out (Nat.le_refl _) hown hgr hbl)
        have hg5 : w.heap.size < w5.heap.size := (Array.getElem?_eq_some_iff.1 HQ5.out.src.2.1).1
        clear hown hgr hbl HQ4
        go_wp2_with (at_builtin; refine wpList_append_ownstr _ rfl _ _ rfl rfl HQ5.out.own rfl (t := crlfB) (by have : crlfB.size = 2 := rfl; omega) (by omega) ?_)
        intro v6 w6 hown hgr hbl
        obtain ⟨p6, hp6⟩ : ∃ q, q = p5 ++ crlfB.data.toList := ⟨_, rfl⟩
        have hown : Own (w.heap.size + 1) w6 v6 p6 := by rw [hp6]; exact hown
        have HP6 := Box.mk hp6
        have hq2 : p6.length ≤ 508 := by rw [hp6, List.length_append]; show _ + 2 ≤ _; omega
        clear hp6
        have HQ6 := Box.mk (HQ5.out.app HLM.out (Nat.le_refl _) hown hgr hbl)
        have hg6 : w.heap.size < w6.heap.size := (Array.getElem?_eq_some_iff.1 HQ6.out.src.2.1).1
        clear hown hgr hbl HQ5
        go_wp2_with fail
        obtain ⟨W7, hW7⟩ : ∃ W7, W7 = w6.alloc (.cells (trailsC.map Value.string).toArray 9) := ⟨_, rfl⟩
        have HB7 := Box.mk (show Below w6.heap.size w6 W7 by rw [hW7]; exact below_oneF w6 _)
        have HL7 := Box.mk (show StrsIn W7 (some ⟨w6.heap.size, 0, none⟩) trailsC by rw [hW7]; exact strsIn_newF w6 trailsC 9)
        change Calls _ _ _ (w6.alloc (.cells (trailsC.map Value.string).toArray 9)) _
        rw [← hW7]
        clear hW7
        have HQ7 := Box.mk (HQ6.out.keep HB7.out)
        refine (ofI_n w.heap.size w6.heap.size 4 trailsC 4 a m c i3 W7 HQ7.out.src HL7.out (by omega) rfl (by decide) (by decide)).mono ?_
        rintro e w8 ⟨t1, ht1, rfl, ⟨i4, hs4, hle4⟩, hg8⟩
        have HQ8 := Box.mk (HQ7.out.next (Nat.lt_succ_self _) (Nat.le_refl _) hs4 hg8)
        have HT1 := Box.mk ht1
        have hz2 : t1.size ≤ 11 := of_decide_eq_true (List.all_eq_true.1 (show (trailsC.all fun e => decide (e.size ≤ 11)) = true by decide +kernel) t1 ht1)
        have hg8 : w.heap.size < w8.heap.size := (Array.getElem?_eq_some_iff.1 HQ8.out.src.2.1).1
        clear hs4 hle4 ht1 HQ6 HQ7 HB7 HL7
        go_wp2_with (at_builtin; refine wpList_append_ownstr _ rfl _ _ rfl rfl HQ8.out.own rfl (t := t1) (by omega) (by omega) ?_)
        intro v9 w9 hown hgr hbl
        have hel : t1.data.toList.length = t1.size := by rw [Array.length_toList]; rfl
        obtain ⟨p9, hp9⟩ : ∃ q, q = p6 ++ t1.data.toList := ⟨_, rfl⟩
        rw [← hp9] at hown
        have HP9 := Box.mk hp9
        have hq3 : p9.length ≤ 519 := by rw [hp9, List.length_append]; omega
        clear hp9 hel
        have HQ9 := Box.mk (HQ8.out.app HLM.out (Nat.le_refl _) hown hgr hbl)
        have hg9 : w.heap.size < w9.heap.size := (Array.getElem?_eq_some_iff.1 HQ9.out.src.2.1).1
        clear hown hgr hbl HQ8
        go_wp2_with (at_builtin; refine wpList_append_ownstr _ rfl _ _ rfl rfl HQ9.out.own rfl (t := crlfB) (by have : crlfB.size = 2 := rfl; omega) (by omega) ?_)
        intro v10 w10 hown hgr hbl
        obtain ⟨p10, hp10⟩ : ∃ q, q = p9 ++ crlfB.data.toList := ⟨_, rfl⟩
        have hown : Own (w.heap.size + 1) w10 v10 p10 := by rw [hp10]; exact hown
        have HP10 := Box.mk hp10
        have hq4 : p10.length ≤ 521 := by rw [hp10, List.length_append]; show _ + 2 ≤ _; omega
        have hq5 : 2 ≤ p10.length := by rw [hp10, List.length_append]; show 2 ≤ _ + 2; omega
        clear hp10
        have HQ10 := Box.mk (HQ9.out.app HLM.out (Nat.le_refl _) hown hgr hbl)
        clear hown hgr hbl HQ9
        have HWN := Box.mk (show WireW p10 from ⟨p, s1, t1, HW2.out, HS1.out, HT1.out, by rw [HP10.out, HP9.out, HP6.out, HP5.out]; rfl⟩)
        obtain ⟨og, fc, rfl⟩ := HQ10.out.own.form (by omega)
        have HB10 := Box.mk HQ10.out.own.bytes
        clear hown
        go_wp2_with fail
        · obtain ⟨k, hk, hke⟩ := withI_range (at_ / 2) p10.length (by omega) (by omega)
          refine (withinF _ p10.length w10 (by omega) (by omega)).mono ?_
          rintro e w11 ⟨he, rfl⟩
          rw [hke] at he
          subst he
          have hcell := HB10.out.cellAt hk
          have hfz := HQ10.out.own.thawed k
          have HST := Box.mk (HQ10.out.own.put8 k x)
          have hgz : og ≠ w.heap.size := by have := (HQ10.out.own.lt (k := og) rfl).1; omega
          go_wp2_with fail
          go_ret
          exact ⟨p10.set k x, some ⟨og, 0, none⟩, fc, by rw [List.length_set]; rfl, by rw [List.length_set]; exact HST.out.1.low (by omega), by rw [List.length_set]; omega, by rw [List.length_set]; omega,
            fun hno => absurd (by first | assumption | exact eq_of_beq (by assumption)) hno, HQ10.out.below.grown HST.out.2 HQ10.out.below.size (fun q e => by have := Option.some.inj e; have := (HQ10.out.own.lt (k := og) rfl).1; omega)⟩
        · go_ret
          exact ⟨p10, _, _, rfl, HQ10.out.own.low (by omega), by omega, by omega, fun _ => HWN.out, HQ10.out.below⟩
end Go.Proofs.YtbplpfcgmmflnaaDoor
namespace Go.Proofs.YtbplpfcgmmflnaaDoor
open Go.RowKit

theorem torn_flag : ¬ bits .and .i64 0 1 = 1 := by decide
set_option maxRecDepth 100000 in
set_option maxHeartbeats 4000000 in
theorem chunkedDecode_any (a : Option Addr) (n c : Nat) (at_ : Int) (x : UInt8) (raw more : List UInt8) (ra ma : Option Addr) (rc mc : Nat) (wild : Bool) (w : World) (hi : IntsF w a n) (hn : n ≤ maxLen) (hc : n ≤ c) (ha : 0 < n → ∃ ad, a = some ad)
    (hr : IsBytes w ra raw rc) (hm : IsBytes w ma more mc) (ht : Tabs w) :
    Calls Tryd.prog 5 #[.slice a n c, .int .i64 at_, .int .u8 x.toNat, .slice ra raw.length rc, .slice ma more.length mc, .bool wild] w fun e w' => e = .returned (.bool true) ∧ Below w.heap.size w w' := by
  have HI := Box.mk hi
  have HN := Box.mk (And.intro hn (And.intro hc ha))
  have HR := Box.mk hr
  have HM := Box.mk hm
  have HT := Box.mk ht
  clear hi hn hc ha hr hm ht
  go_enter Tryd.func5, Tryd.ntmps5
  go_wp2_with fail
  refine (wire_any a n c at_ x _ HI.out HN.out.1 HN.out.2.1 HN.out.2.2).mono ?_
  rintro e w1 ⟨b, ba, bc, rfl, hown, hbl, _, _, hb1⟩
  have HO := Box.mk hown
  have HB1 := Box.mk hb1
  have hsz1 := hb1.size
  clear hown hb1 HI HN
  go_wp2_with fail
  refine (short_any more ma mc 20 _ (HM.out.keep HB1.out) (by decide)).mono ?_
  rintro e w2 ⟨s, hs, hsl, rfl, hsb, rfl⟩
  have HSB := Box.mk hsb
  clear hs hsb HM
  go_wp2_with (at_builtin; refine wpList_append_ownb _ rfl _ _ rfl rfl HO.out rfl (r := s) HSB.out (by omega) hsz1 ?_)
  intro v3 w3 hown hgr _
  obtain ⟨b3, hb3⟩ : ∃ q, q = b ++ s := ⟨_, rfl⟩
  rw [← hb3] at hown
  have hl3 : b3.length ≤ 620 := by rw [hb3, List.length_append]; omega
  have HB3 := Box.mk (HB1.out.grown hgr hsz1 (fun q e => (HO.out.lt e).1))
  have HO3 := Box.mk hown
  clear hown hgr hb3 HSB HO
  obtain ⟨fa, fc, rfl, hfb⟩ := HO3.out.val
  have HF3 := Box.mk hfb
  clear hfb
  cases wild
  · go_wp2_with fail
    refine (projDecode_any b3 fa fc 0 _ HF3.out (by omega) (tabs_below HT.out HB3.out)).mono ?_
    rintro e w4 ⟨oa, oc, he, hby, hb4⟩
    generalize hd : decodeS b3 = R at *
    have HD := Box.mk hd
    clear hd
    obtain ⟨er, out, k⟩ := R
    simp only [] at he hby
    subst he
    have HY4 := Box.mk hby
    have HB4 := Box.mk (below_trans HB3.out hb4)
    have HBB := Box.mk ((HF3.out).keep hb4)
    clear hby hb4
    go_wp2_with fail
    refine (refDecode_any b3 fa fc _ HBB.out (by omega)).mono ?_
    rintro e w5 ⟨oa2, oc2, he, hby, hb5⟩
    rw [HD.out] at he hby
    simp only [] at he hby
    subst he
    have HB5 := Box.mk (below_trans HB4.out hb5)
    have hc1 := conv_bytes (HY4.out.keep hb5)
    have hc2 := conv_bytes hby
    clear hby hb5
    go_wp2_with fail
    refine (awakeC_any 0 _ (tabs_below HT.out HB5.out)).mono ?_
    rintro e w6 ⟨rfl, hb6⟩
    have HB6 := Box.mk (below_trans HB5.out hb6)
    clear hb6 hc1 hc2
    go_wp2_with fail
    go_ret
    exact ⟨rfl, HB6.out⟩
  · go_wp2_with fail
    refine (short_any raw ra rc 400 _ (HR.out.keep HB3.out) (by decide)).mono ?_
    rintro e w3b ⟨s2, hs2, hsl2, rfl, hsb2, rfl⟩
    have HS2 := Box.mk hsb2
    clear hs2 hsb2
    go_wp2_with fail
    refine (projDecode_any s2 ra rc 0 _ HS2.out (by omega) (tabs_below HT.out HB3.out)).mono ?_
    rintro e w4 ⟨oa, oc, he, hby, hb4⟩
    generalize hd : decodeS s2 = R at *
    have HD := Box.mk hd
    clear hd
    obtain ⟨er, out, k⟩ := R
    simp only [] at he hby
    subst he
    have HY4 := Box.mk hby
    have HB4 := Box.mk (below_trans HB3.out hb4)
    have HBB := Box.mk ((HS2.out).keep hb4)
    clear hby hb4
    go_wp2_with fail
    refine (refDecode_any s2 ra rc _ HBB.out (by omega)).mono ?_
    rintro e w5 ⟨oa2, oc2, he, hby, hb5⟩
    rw [HD.out] at he hby
    simp only [] at he hby
    subst he
    have HB5 := Box.mk (below_trans HB4.out hb5)
    have hc1 := conv_bytes (HY4.out.keep hb5)
    have hc2 := conv_bytes hby
    clear hby hb5
    go_wp2_with fail
    refine (awakeC_any 0 _ (tabs_below HT.out HB5.out)).mono ?_
    rintro e w6 ⟨rfl, hb6⟩
    have HB6 := Box.mk (below_trans HB5.out hb6)
    clear hb6 hc1 hc2
    go_wp2_with fail
    go_ret
    exact ⟨rfl, HB6.out⟩
set_option maxRecDepth 100000 in
set_option maxHeartbeats 4000000 in
theorem chunkedTorn_any (a : Option Addr) (n c : Nat) (m : Int) (w : World) (hi : IntsF w a n) (hn : n ≤ maxLen) (hc : n ≤ c) (ha : 0 < n → ∃ ad, a = some ad) (ht : Tabs w) :
    Calls Tryd.prog 7 #[.slice a n c, .int .i64 m] w fun e w' => e = .returned (.bool true) ∧ Below w.heap.size w w' := by
  have HI := Box.mk hi
  have HN := Box.mk (And.intro hn (And.intro hc ha))
  have HT := Box.mk ht
  clear hi hn hc ha ht
  go_enter Tryd.func7, Tryd.ntmps7
  go_wp2_with fail
  refine (wire_any a n c 0 0 _ HI.out HN.out.1 HN.out.2.1 HN.out.2.2).mono ?_
  rintro e w1 ⟨b, ba, bc, rfl, hown, hbl, hb0, hw, hb1⟩
  have HB1 := Box.mk hb1
  have HW := Box.mk (hw torn_flag)
  have HBY := Box.mk hown.bytes
  obtain ⟨bg, hbg⟩ : ∃ bg, ba = some bg := by
    obtain ⟨g, cc, e⟩ := hown.form hb0
    injection e with e1 _ _
    exact ⟨_, e1⟩
  subst hbg
  have hcap : b.length ≤ bc := by
    rcases hown.bytes with ⟨e, _⟩ | ⟨_, _, h1, _⟩
    · cases e
    · exact h1
  clear hown hb1 hw HI HN
  go_wp2_with fail
  refine (projDecode_any b (some bg) bc 0 _ HBY.out (by omega) (tabs_below HT.out HB1.out)).mono ?_
  rintro e w2 ⟨oa, oc, he, hby, hb2⟩
  have hdw := decode_wire HW.out
  generalize decodeS b = R at *
  obtain ⟨er, out, k⟩ := R
  simp only [] at he hdw
  obtain ⟨rfl, rfl⟩ := hdw
  subst he
  have HB2 := Box.mk (below_trans HB1.out hb2)
  have HY2 := Box.mk (HBY.out.keep hb2)
  clear hby hb2 HBY
  obtain ⟨q, hq, hqe⟩ := withI_range m b.length (by omega) (by omega)
  go_wp2_with fail
  refine (withinF m b.length _ (by omega) (by omega)).mono ?_
  rintro e w3 ⟨he, rfl⟩
  rw [hqe] at he
  subst he
  obtain ⟨p, hp⟩ : ∃ p, p = b.take q := ⟨_, rfl⟩
  have hpl : p.length = q := by rw [hp, List.length_take]; omega
  have HP := Box.mk hp
  have HPB := Box.mk (show IsBytes w3 (some bg) p bc by rw [hp]; exact isBytes_take HY2.out q)
  have HPD := Box.mk (show (decodeS p).1 = 4 from decode_torn (q := b.drop q) (by rw [hp, List.take_append_drop]; exact HW.out) (by
    intro e
    have h2 := congrArg List.length e
    rw [List.length_drop] at h2
    simp at h2
    omega))
  have hcall := projDecode_any p (some bg) bc 0 w3 HPB.out (by omega) (tabs_below HT.out HB2.out)
  rw [hpl] at hcall
  have HCALL := Box.mk hcall
  clear hcall hp hpl hqe
  go_wp2_with fail
  refine HCALL.out.mono ?_
  rintro e w4 ⟨oa4, oc4, he, _, hb4⟩
  have hd4 := HPD.out
  generalize decodeS p = R4 at *
  obtain ⟨er4, out4, k4⟩ := R4
  simp only [] at he hd4
  subst hd4
  subst he
  have HB4 := Box.mk (below_trans HB2.out hb4)
  clear hb4 HCALL
  go_wp2_with fail
  refine (awakeC_any 0 _ (tabs_below HT.out HB4.out)).mono ?_
  rintro e w6 ⟨rfl, hb6⟩
  have HB6 := Box.mk (below_trans HB4.out hb6)
  clear hb6
  go_wp2_with fail
  go_ret
  exact ⟨rfl, HB6.out⟩
end Go.Proofs.YtbplpfcgmmflnaaDoor
namespace Go.Proofs.YtbplpfcgmmflnaaDoor
open Go.ChangeShapes Go.WideShapes Go.ChangeAt Go.RowKit

theorem i64_ofF {x : Int} (h : (Lit.int .i64 x).wf = true) : -9223372036854775808 ≤ x ∧ x ≤ 9223372036854775807 := bounds_i64 h
theorem open_intsf {H : Type} {enc : TypeId × Value → H} {W : World} {a : Option Addr} {len cap : Nat} {d : DataW H} {ps : List MemPlace} {base : Nat}
    (h : DataW.Trod enc Tryd.prog W base (fun _ => true) true 22 (.slice a len cap) d ps) : IntsF W a len ∧ len ≤ maxLen := by
  obtain ⟨fuel, hf⟩ := h
  rcases open_ints Tryd.underlying22 Tryd.underlying3 (by kernel_rfl) hf with ⟨hcs, _⟩ | ⟨x, l, c, zs, hcs, _, hl, hm, hz, _, hcell, hwz⟩
  · simp [Value.cells] at hcs
    obtain ⟨rfl, rfl, rfl⟩ := hcs
    exact ⟨fun k hk => absurd hk (Nat.not_lt_zero _), Nat.zero_le _⟩
  · simp [Value.cells] at hcs
    obtain ⟨rfl, rfl, rfl⟩ := hcs
    have hz' : zs.length = cap := by simpa using hz
    refine ⟨fun k hk => ?_, Nat.le_trans hl hm⟩
    have hk' : k < zs.length := by omega
    have e : zs.getD k 0 = zs[k] := by rw [List.getD_eq_getElem?_getD, List.getElem?_eq_getElem hk']; rfl
    refine ⟨x, zs[k], rfl, by rw [hcell k hk', e], i64_ofF (hwz zs[k] (List.getElem_mem _))⟩
end Go.Proofs.YtbplpfcgmmflnaaDoor
namespace Go.Proofs.YtbplpfcgmmflnaaDoor
open Go.ChangeShapes Go.WideShapes Go.ChangeAt Go.RowKit

theorem open_intsC {H : Type} {enc : TypeId × Value → H} {W : World} {a : Option Addr} {len cap : Nat} {d : DataW H} {ps : List MemPlace} {base : Nat}
    (h : DataW.Trod enc Tryd.prog W base (fun _ => true) true 22 (.slice a len cap) d ps) : IntsF W a len ∧ len ≤ maxLen ∧ len ≤ cap ∧ (0 < len → ∃ ad, a = some ad) := by
  obtain ⟨fuel, hf⟩ := h
  rcases open_ints Tryd.underlying22 Tryd.underlying3 (by kernel_rfl) hf with ⟨hcs, _⟩ | ⟨x, l, c, zs, hcs, _, hl, hm, hz, _, hcell, hwz⟩
  · simp [Value.cells] at hcs
    obtain ⟨rfl, rfl, rfl⟩ := hcs
    exact ⟨fun k hk => absurd hk (Nat.not_lt_zero _), Nat.zero_le _, Nat.le_refl _, fun h => absurd h (Nat.lt_irrefl _)⟩
  · simp [Value.cells] at hcs
    obtain ⟨rfl, rfl, rfl⟩ := hcs
    have hz' : zs.length = cap := by simpa using hz
    refine ⟨fun k hk => ?_, Nat.le_trans hl hm, hl, fun _ => ⟨x, rfl⟩⟩
    have hk' : k < zs.length := by omega
    have e : zs.getD k 0 = zs[k] := by rw [List.getD_eq_getElem?_getD, List.getElem?_eq_getElem hk']; rfl
    refine ⟨x, zs[k], rfl, by rw [hcell k hk', e], i64_ofF (hwz zs[k] (List.getElem_mem _))⟩
end Go.Proofs.YtbplpfcgmmflnaaDoor
namespace Go.Proofs.YtbplpfcgmmflnaaDoor
open Go.ChangeShapes Go.WideShapes Go.ChangeAt Go.RowKit

def dB64 : List Int := [0, 1, 56, 2, 57, 49, 28, 3, 61, 58, 42, 50, 38, 29, 17, 4, 62, 47, 59, 36, 45, 43, 51, 22, 53, 39, 33, 30, 24, 18, 12, 5, 63, 55, 48, 27, 60, 41, 37, 16, 46, 35, 44, 21, 52, 32, 23, 11, 54, 26, 40, 15, 34, 20, 31, 10, 25, 14, 19, 9, 13, 8, 7, 6]
/-- The tables of the library out of the list of laid variables. -/
theorem tabs_of_laid {W : World} {l : List (String × DataW Unit)} (h : laidMetH Tryd.prog l W)
    (e1 : l.filter (fun x => x.1 == "internal/strconv.uint64pow10") = [("internal/strconv.uint64pow10", Lib.tabData .u64 Lib.pow10Tab)])
    (e2 : l.filter (fun x => x.1 == "math/bits.deBruijn64tab") = [("math/bits.deBruijn64tab", Lib.tabData .u8 dB64)]) : Tabs W := by
  have h1 := h.filter (fun x => x.1 == "internal/strconv.uint64pow10")
  have h2 := h.filter (fun x => x.1 == "math/bits.deBruijn64tab")
  rw [e1] at h1
  rw [e2] at h2
  rw [MakeChecks.laidMetH_plain _ _ _ (by kernel_rfl)] at h1 h2
  have t1 := Lib.tabIs_of_head (g := 0) (t := 100) (e := 84) (n := 20) (by kernel_rfl) (by kernel_rfl) (by kernel_rfl) (by kernel_rfl) (by kernel_rfl) (by kernel_rfl) h1
  have t2 := Lib.tabIs_of_head (g := 3) (t := 114) (e := 5) (n := 64) (by kernel_rfl) (by kernel_rfl) (by kernel_rfl) (by kernel_rfl) (by kernel_rfl) (by kernel_rfl) h2
  refine ⟨t1, t2.cell (by kernel_rfl) 15 (by decide), lt_cell (t1.cell (by kernel_rfl) 0 (by decide))⟩
end Go.Proofs.YtbplpfcgmmflnaaDoor
namespace Go.Proofs.YtbplpfcgmmflnaaDoor
open Go.RowKit

theorem bytesV_append (l r : List UInt8) : bytesV (l ++ r) = bytesV l ++ bytesV r := by unfold bytesV; rw [List.map_append]
theorem bytesV_oneQ (l : List UInt8) : ∀ v ∈ bytesV l, v.oneCell' = true := by
  intro v hv
  unfold bytesV at hv
  obtain ⟨c, _, rfl⟩ := List.mem_map.1 hv
  rfl
end Go.Proofs.YtbplpfcgmmflnaaDoor
namespace Go.Proofs.YtbplpfcgmmflnaaDoor
open Go.RowKit

theorem sizeOf_u8Q (W : World) : (sizeOf 5).run Tryd.prog W = .ok 1 W := by
  have h : (Tryd.prog.info? 5).map (·.size) = some 1 := by kernel_rfl
  cases hq : Tryd.prog.info? 5 with
  | none => rw [hq] at h; cases h
  | some i => rw [hq] at h; simp at h; simp [sizeOf, typeInfo, hq, h]

section
variable {Q : Exit → Act → World → Prop} {a : Act} {w : World} {o : Oper} {s : Spec}
theorem run_part_q (W : World) (x : Addr) (len cap n : Nat) (hn : n ≤ len) :
    (Instr.sliceAt 23 (.slice (some x) len cap) (some (.int .i64 (n : Int))) none none).run Tryd.prog W = .ok (.slice (some (if cap = n then x else x.add n)) (len - n) (cap - n)) W := by
  have es : (sizeOf (Tryd.prog.elem 23)).run Tryd.prog W = .ok 1 W := by rw [show Tryd.prog.elem 23 = 5 by kernel_rfl]; exact sizeOf_u8Q W
  rw [run_sliceAt_slice W 23 _ _ _ _ (by kernel_rfl), run_slice_l W 23 _ _ _ (by kernel_rfl) .i64 (n : Int) (by omega) (by omega), es]
  simp only [Result.andThen, sliced, Int.toNat_natCast, Nat.mul_one]
  split <;> rfl
theorem part_bytes_q {w : World} {x : Addr} {l : List UInt8} {cap n : Nat} (h : IsBytes w (some x) l cap) (hn : n ≤ l.length) : IsBytes w (some (if cap = n then x else x.add n)) (l.drop n) (cap - n) := by
  rcases h with ⟨h, _⟩ | ⟨y, hy, h1, h2, h3⟩
  · cases h
  · obtain rfl := Option.some.inj hy
    refine .inr ⟨_, rfl, by simp; omega, by omega, fun j hj => ?_⟩
    have hj' : j < l.length - n := by simpa using hj
    rw [if_neg (by omega), List.getElem_drop, ← h3 (n + j) (by omega)]
    congr 1
    unfold Addr.add
    by_cases h0 : n = 0
    · subst h0; simp
    · by_cases hj0 : j = 0
      · subst hj0; simp [h0]
      · simp [h0, hj0, Nat.add_assoc]
/-- l from place i on. -/
theorem part_q {w : World} {a : Option Addr} {l : List UInt8} {cap i : Nat} (h : IsBytes w a l cap) (hi : i ≤ l.length) :
    ∃ a' c', (∀ W, (Instr.sliceAt 23 (.slice a l.length cap) (some (.int .i64 (i : Int))) none none).run Tryd.prog W = .ok (.slice a' (l.length - i) c') W) ∧ IsBytes w a' (l.drop i) c' := by
  cases a with
  | some x => exact ⟨_, _, fun W => run_part_q W x l.length cap i hi, part_bytes_q h hi⟩
  | none =>
    rcases h with ⟨_, rfl, rfl⟩ | ⟨x, h, _⟩
    · have h0 : i = 0 := by simpa using hi
      subst h0
      refine ⟨none, 0, fun W => ?_, .inl ⟨rfl, rfl, rfl⟩⟩
      have es : (sizeOf (Tryd.prog.elem 23)).run Tryd.prog W = .ok 1 W := by rw [show Tryd.prog.elem 23 = 5 by kernel_rfl]; exact sizeOf_u8Q W
      rw [run_sliceAt_slice W 23 _ _ _ _ (by kernel_rfl), run_slice_l W 23 _ _ _ (by kernel_rfl) .i64 ((0 : Nat) : Int) (by omega) (by simp), es]
      rfl
    · cases h
theorem loc_from {x y : Operand} (ho : o.op = .slice 23 x (some y) none none) {l : List UInt8} {i : Nat} (hx : BytesV w (a.eval x) l) (hy : a.eval y = .int .i64 i) (hi : i ≤ l.length) (hs : ∀ v, BytesV w v (l.drop i) → s.p v w) :
    o.wp Tryd.prog a w (fun a' w' => ∃ v, a' = a.put o.dst v ∧ Below w.heap.size w w' ∧ s.p v w') Q := by
  obtain ⟨ad, c, h1, h2⟩ := hx
  obtain ⟨a', c', h3, h4⟩ := part_q h2 hi
  refine loc_run (v := .slice a' (l.length - i) c') ?_ (Below.refl _ _) (hs _ ⟨a', c', by rw [List.length_drop], h4⟩)
  unfold execOp
  simp only [ho, h1, hy, Option.map_some, Option.map_none, Sem.run_bind, h3, Result.andThen_ok, Sem.run_pure]
end
end Go.Proofs.YtbplpfcgmmflnaaDoor
namespace Go.Proofs.YtbplpfcgmmflnaaDoor
open Go.RowKit

def Spec.bytesL (l : List UInt8) : Spec := ⟨fun v w => BytesV w v l, fun _ _ _ h hb => h.keep hb⟩
end Go.Proofs.YtbplpfcgmmflnaaDoor
namespace Go.Proofs.YtbplpfcgmmflnaaDoor
open Go.RowKit

section
variable {a : Act} {w : World} {o : Oper} {K : Act → World → Prop} {Q : Exit → Act → World → Prop}
/-- APPEND of a slice of bytes that is read, to a slice in a block of its own. -/
theorem wp_append_ownb {x y : Operand} (ho : o.op = .call { callee := .builtin .append, args := #[x, y], argTypes := #[23, 23] }) {B : Nat} {l r : List UInt8} (hx : Own B w (a.eval x) l) (hy : BytesV w (a.eval y) r)
    (hn : l.length + r.length ≤ 140737488355328) (hB : B ≤ w.heap.size)
    (h : ∀ v' w', Own B w' v' (l ++ r) → w.grownBy w' (a.eval x).ownBlock → (v'.ownBlock = (a.eval x).ownBlock ∨ v'.ownBlock = some w.heap.size) → K (a.put o.dst v') w') : o.wp Tryd.prog a w K Q := by
  obtain ⟨i0, hi, hz0, hz1, hz2⟩ := info_parts Tryd.info5
  obtain ⟨ya, yc, hy1, hy2⟩ := hy
  have key : ∃ v' w', (Builtin.append_ #[23, 23] o.type #[a.eval x, .slice ya r.length yc]).run Tryd.prog w = .ok v' w' ∧ Own B w' v' (l ++ r) ∧ w.grownBy w' (a.eval x).ownBlock ∧ (v'.ownBlock = (a.eval x).ownBlock ∨ v'.ownBlock = some w.heap.size) := by
    rcases hy2 with ⟨rfl, rfl, rfl⟩ | ⟨ad, rfl, hr1, hr2, hr3⟩
    · exact ⟨_, w, run_append_owned_none w B 23 o.type 5 i0 1 Tryd.underlying23 hi (a.eval x) l.length (bytesV l) hx, by rw [List.append_nil]; exact hx, World.grownBy.refl _ _, .inl rfl⟩
    · obtain ⟨v', w', h1, h2, h3, _, h5⟩ := run_append_own_at (P := Tryd.prog) w B 23 o.type 5 i0 (.int .u8 0) 1 1 Tryd.underlying23 hi hz0 hz1 hz2 rfl (by decide) (a.eval x) l.length (bytesV l) hx ad r.length yc (bytesV r) (by rw [bytesV_len, Nat.mul_one])
        (fun j u hj => by
          unfold bytesV at hj
          rw [List.getElem?_map] at hj
          obtain ⟨c', hc', rfl⟩ := Option.map_eq_some_iff.1 hj
          obtain ⟨hlt, rfl⟩ := List.getElem?_eq_some_iff.1 hc'
          exact hr3 j hlt) (bytesV_oneQ r) (by unfold maxLen; omega) (by omega) hB
      refine ⟨v', w', h1, ?_, h3, h5⟩
      unfold Own
      rw [List.length_append, bytesV_append]
      exact h2
  obtain ⟨v', w', h1, h2, h3, h4⟩ := key
  unfold Oper.wp execOp
  simp only [ho]
  simp [resolve, invoke, builtin, hy1, h1, Result.andThen]
  exact h v' w' h2 h3 h4
end
def Spec.own (B : Nat) (l : List UInt8) : Spec := ⟨fun v w => Own B w v l, fun _ _ _ h hb => h.keep hb⟩
theorem loc_upto_val {Q : Exit → Act → World → Prop} {a : Act} {w : World} {o : Oper} {s : Spec} {x y : Operand} (ho : o.op = .slice 23 x none (some y) none) {ad : Option Addr} {n c k : Nat} (hx : a.eval x = .slice ad n c) (hy : a.eval y = .int .i64 k) (hk : k ≤ n) (hc : n ≤ c) (hs : s.p (.slice ad k c) w) :
    o.wp Tryd.prog a w (fun a' w' => ∃ v, a' = a.put o.dst v ∧ Below w.heap.size w w' ∧ s.p v w') Q := by
  have es : (sizeOf (Tryd.prog.elem 23)).run Tryd.prog w = .ok 1 w := by rw [show Tryd.prog.elem 23 = 5 by kernel_rfl]; exact sizeOf_u8Q w
  refine loc_run (v := .slice ad k c) ?_ (Below.refl _ _) hs
  have hrun : (Instr.sliceAt 23 (.slice ad n c) none (some (.int .i64 (k : Int))) none).run Tryd.prog w = .ok (.slice ad k c) w := by
    rw [run_sliceAt_slice w 23 _ _ _ _ (by kernel_rfl), run_slice_h w 23 _ _ _ (by kernel_rfl) .i64 (k : Int) (by omega) (by omega), es]
    have ha : Option.map (fun x : Addr => x.add 0) ad = ad := by cases ad <;> simp [Addr.add]
    simp [Result.andThen, sliced, ha]
  unfold execOp
  simp only [ho, hx, hy, Option.map_some, Option.map_none, Sem.run_bind, hrun, Result.andThen_ok, Sem.run_pure]
end Go.Proofs.YtbplpfcgmmflnaaDoor
namespace Go.Proofs.YtbplpfcgmmflnaaDoor
open Go.RowKit

theorem feedS_le (room : Int) : ∀ (l : List UInt8) (s : Chk) (out : List UInt8) (i : Nat), (feedS room s out i l).2.2.2 ≤ i + l.length
  | [], s, out, i => by rw [feedS_nil]; simp
  | x :: r, s, out, i => by
    by_cases h : s.ph = 4 ∨ s.ph = 1 ∧ room ≤ out.length
    · rw [feedS_stop h]; show i ≤ _; omega
    · by_cases h1 : s.ph = 1
      · rw [feedS, if_neg h, if_pos h1]
        have := feedS_le room r ⟨if s.left - 1 = 0 then 2 else 1, s.left - 1, s.tr, s.line⟩ (out ++ [x]) (i + 1)
        rw [List.length_cons]; omega
      · by_cases h0 : (stepS s x).1 = 0
        · rw [feedS, if_neg h, if_neg h1, if_pos h0]
          have := feedS_le room r (stepS s x).2 out (i + 1)
          rw [List.length_cons]; omega
        · rw [feedS, if_neg h, if_neg h1, if_neg h0]; simp
def AgV (s : Chk) (w : World) (v : Value) : Prop := ∃ a c, v = .agg #[.int .i64 s.ph, .int .i64 s.left, .int .i64 s.tr, .slice a s.line.length c] ∧ IsBytes w a s.line c
def Spec.agf (s : Chk) : Spec := ⟨fun v w => AgV s w v, fun _ _ _ h hb => by
  obtain ⟨a, c, h1, h2⟩ := h
  exact ⟨a, c, h1, h2.keep hb⟩⟩
def FedV (er : Int) (s : Chk) (out : List UInt8) (k : Nat) (w : World) (v : Value) : Prop := ∃ a c oa oc, v = .tuple #[.agg #[.int .i64 s.ph, .int .i64 s.left, .int .i64 s.tr, .slice a s.line.length c], .slice oa out.length oc, .int .i64 k, .int .i64 er] ∧ IsBytes w a s.line c ∧ IsBytes w oa out oc
def Spec.fed (er : Int) (s : Chk) (out : List UInt8) (k : Nat) : Spec := ⟨fun v w => FedV er s out k w v, fun _ _ _ h hb => by
  obtain ⟨a, c, oa, oc, h1, h2, h3⟩ := h
  exact ⟨a, c, oa, oc, h1, h2.keep hb, h3.keep hb⟩⟩
def CNew (B : Nat) (w : World) (v : Value) : Prop := ∃ g, v = .pointer (some ⟨g, 0, none⟩) ∧ B ≤ g ∧ CVar w g 0 0 0 (.slice none 0 0)
def Spec.cnew (B : Nat) : Spec := ⟨fun v w => CNew B w v, fun _ _ _ h hb => by
  obtain ⟨g, h1, h2, h3⟩ := h
  exact ⟨g, h1, h2, h3.keep hb⟩⟩
def CSt (B : Nat) (s : Chk) (w : World) (v : Value) : Prop := ∃ g a c, v = .pointer (some ⟨g, 0, none⟩) ∧ B ≤ g ∧ CVar w g s.ph s.left s.tr (.slice a s.line.length c) ∧ IsBytes w a s.line c
def Spec.cst (B : Nat) (s : Chk) : Spec := ⟨fun v w => CSt B s w v, fun _ _ _ h hb => by
  obtain ⟨g, a, c, h1, h2, h3, h4⟩ := h
  exact ⟨g, a, c, h1, h2, h3.keep hb, h4.keep hb⟩⟩
section
variable {Q : Exit → Act → World → Prop} {act : Act} {w : World} {o : Oper} {s : Spec}
theorem loc_allocC (ho : o.op = .alloc 27) {B : Nat} (hB : B ≤ w.heap.size) (hs : ∀ v w', CNew B w' v → s.p v w') :
    o.wp Tryd.prog act w (fun a' w' => ∃ v, a' = act.put o.dst v ∧ Below w.heap.size w w' ∧ s.p v w') Q := by
  have hz : (Tryd.prog.info? 27).bind (·.zero) = some (.agg #[.int .i64 0, .int .i64 0, .int .i64 0, .slice none 0 0]) := by kernel_rfl
  refine loc_run (v := .pointer (some ⟨w.heap.size, 0, none⟩)) (w' := w.alloc (.cells #[.int .i64 0, .int .i64 0, .int .i64 0, .slice none 0 0] 27)) ?_ (below_oneF _ _) (hs _ _ ⟨_, rfl, hB, heap_alloc_new _ _⟩)
  cases hq : Tryd.prog.info? 27 with
  | none => rw [hq] at hz; cases hz
  | some i =>
    rw [hq] at hz
    simp only [Option.bind_some] at hz
    unfold execOp
    simp [ho, Instr.alloc, zeroValue, typeInfo, hq, hz, newRow, newVar, Value.cells]
theorem loc_extract40 {x : Operand} (ho : o.op = .extract x 0) {v0 v1 v2 v3 : Value} (hx : act.eval x = .tuple #[v0, v1, v2, v3]) (hs : s.p v0 w) :
    o.wp Tryd.prog act w (fun a' w' => ∃ v, a' = act.put o.dst v ∧ Below w.heap.size w w' ∧ s.p v w') Q :=
  loc_run (v := v0) (by unfold execOp; simp [ho, hx, Instr.extract]) (Below.refl _ _) hs
theorem loc_extract41 {x : Operand} (ho : o.op = .extract x 1) {v0 v1 v2 v3 : Value} (hx : act.eval x = .tuple #[v0, v1, v2, v3]) (hs : s.p v1 w) :
    o.wp Tryd.prog act w (fun a' w' => ∃ v, a' = act.put o.dst v ∧ Below w.heap.size w w' ∧ s.p v w') Q :=
  loc_run (v := v1) (by unfold execOp; simp [ho, hx, Instr.extract]) (Below.refl _ _) hs
theorem loc_extract42 {x : Operand} (ho : o.op = .extract x 2) {v0 v1 v2 v3 : Value} (hx : act.eval x = .tuple #[v0, v1, v2, v3]) (hs : s.p v2 w) :
    o.wp Tryd.prog act w (fun a' w' => ∃ v, a' = act.put o.dst v ∧ Below w.heap.size w w' ∧ s.p v w') Q :=
  loc_run (v := v2) (by unfold execOp; simp [ho, hx, Instr.extract]) (Below.refl _ _) hs
theorem loc_extract43 {x : Operand} (ho : o.op = .extract x 3) {v0 v1 v2 v3 : Value} (hx : act.eval x = .tuple #[v0, v1, v2, v3]) (hs : s.p v3 w) :
    o.wp Tryd.prog act w (fun a' w' => ∃ v, a' = act.put o.dst v ∧ Below w.heap.size w w' ∧ s.p v w') Q :=
  loc_run (v := v3) (by unfold execOp; simp [ho, hx, Instr.extract]) (Below.refl _ _) hs
end
/-- The row of a variable is written: what lies elsewhere stays. -/
theorem fed_row {w : World} {g : Nat} {p l t : Int} {va : Option Addr} {n vc : Nat} {cs : Array Value} {er : Int} {s : Chk} {out : List UInt8} {k : Nat} {v : Value} (h : CVar w g p l t (.slice va n vc)) (f : FedV er s out k w v) : FedV er s out k (w.setRow g cs) v := by
  obtain ⟨a, c, oa, oc, h1, h2, h3⟩ := f
  exact ⟨a, c, oa, oc, h1, h.setRB h2 _, h.setRB h3 _⟩
theorem bytesV_row {w : World} {g : Nat} {p l t : Int} {va : Option Addr} {n vc : Nat} {cs : Array Value} {out : List UInt8} {v : Value} (h : CVar w g p l t (.slice va n vc)) (f : BytesV w v out) : BytesV (w.setRow g cs) v out := by
  obtain ⟨a, c, h1, h2⟩ := f
  exact ⟨a, c, h1, h.setRB h2 _⟩
/-- In the law's loop: two states at gx and gy, the bytes that are left. -/
structure LawF (w0 : World) (gx gy : Nat) (s : Chk) (xa ya : Option Addr) (xc yc : Nat) (b : List UInt8) (ba : Option Addr) (bc : Nat) (W : World) : Prop where
  ok : OkC s
  x : CVar W gx s.ph s.left s.tr (.slice xa s.line.length xc)
  y : CVar W gy s.ph s.left s.tr (.slice ya s.line.length yc)
  xl : IsBytes W xa s.line xc
  yl : IsBytes W ya s.line yc
  rest : IsBytes W ba b bc
  len : b.length ≤ 1000
  below : Below w0.heap.size w0 W
theorem LawF.keep {w0 : World} {gx gy : Nat} {s : Chk} {xa ya : Option Addr} {xc yc : Nat} {b : List UInt8} {ba : Option Addr} {bc : Nat} {W W' : World} (h : LawF w0 gx gy s xa ya xc yc b ba bc W) (hb : Below W.heap.size W W') : LawF w0 gx gy s xa ya xc yc b ba bc W' :=
  ⟨h.ok, h.x.keep hb, h.y.keep hb, h.xl.keep hb, h.yl.keep hb, h.rest.keep hb, h.len, below_trans h.below hb⟩
end Go.Proofs.YtbplpfcgmmflnaaDoor
