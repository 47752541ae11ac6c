/- OfRequest, OfReply and Persistent of the reference. The fields that the laws on framing make. OfRequest, OfReply and Persistent of package framing, and what they call. awake of the laws on framing. The law FramingRequest. Opening the arguments of the laws on fields. Contracts of the reference's functions that write a number. FormatRequestLine of the reference. FormatStatusLine of the reference. -/
import Derived.Test.YtkbnkiflabncjaaDoorPk1
import Derived.Test.YtkbnkiflabncjaaDoorPk2
import Derived.Test.YtkbnkiflabncjaaDoorRows
import Derived.WalkKit
import Derived.WalkSpells
import Derived.WalkLawsBesides
import Derived.BigQuiet
import Derived.Deep.QuietTactic
import Derived.Lib.Bytealg
import Derived.Lib.IndexLaws
import Derived.Lib.Hide
import Derived.Laws.IdiomStrings
import Derived.Lib.SlTrimSet
import Derived.Lib.IndexBytes
import Derived.Lib.Split
import Derived.Deep.AppendLies
import Derived.Shelf.Strings.SlTrimAscii
import Derived.Shelf.Strings.SplitShaped
import Derived.Shelf.LaysM
import Derived.Shelf.Strings.BuilderK
import Derived.Test.YtkbnkiflabncjaaDoorProg
import Derived.Lib.SplitLaws
import Derived.WalkSmall
import Derived.ProofKit
import Derived.OpenShut
import Derived.Lib.Strings
import Derived.SliceStrings
import Derived.Deep.Quiet
import Derived.Tactics
import Derived.KernelRfl
import Derived.Below
import Derived.Laws.Bits64
import Derived.Lib.SlBytesConst
import Derived.Maps.AppendAt
import Derived.Laws.AppendOwnNone
import Derived.Great.BuildSlice
import Derived.Laws.Rows
import Derived.Laws.BitsAllLaws
import Derived.Laws.Shifts
import Derived.Maps.OwnOps
import Derived.Maps.OwnSet
import Derived.Deep.SlicePairs
import Derived.Lib.AppendZerosOnto
import Derived.Lib.AppendStr
import Derived.Laws.CopyOwn
import Derived.OwnWalk
import Derived.Laws.Strings3
import Derived.Laws.Concat
import Derived.Lib.ItoaMem
import Derived.Deep.RegionHeld3
import Derived.IntWalk
namespace Go.Proofs.YtkbnkiflabncjaaDoor
open Go.RowKit

def headN : ByteArray := ⟨#[72, 69, 65, 68]⟩
theorem litHead : ([72, 69, 65, 68] : List UInt8) = headN.toList := by rw [ByteArray.toList_eq]; rfl
def noBody (method : ByteArray) (st : Int) : Bool := decide (method = headN) || (decide (100 ≤ st) && decide (st ≤ 199)) || decide (st = 204) || decide (st = 304)
def replyS (method : ByteArray) (st v : Int) (l : List Fld) : Int × Int × Int := if noBody method st = true then (1, 0, 0) else frameS v l 4
def persS (v : Int) (l : List Fld) : Bool := !inFoldL (listL (valuesL l cnN)) closeN && (decide (v = 1) || inFoldL (listL (valuesL l cnN)) aliveN)

set_option maxRecDepth 100000 in
set_option maxHeartbeats 2000000 in
theorem refOfReq_any (m t : ByteArray) (v : Int) (l : List Fld) (a : Option Addr) (cap : Nat) (fr : Bool) (ba : Option Addr) (bn bc : Nat) (w : World) (h : FldsIn w a l) (hz : ShortF l) (hl : l.length ≤ 1000000) (ht : total (valuesL l teN) ≤ 4000000000) :
    Calls Tryd.prog 10 #[.agg #[.string m, .string t, .int .i64 v, .slice a l.length cap, .bool fr, .slice ba bn bc]] w fun e w' => e = .returned (frameV (frameS v l 1)) ∧ Below w.heap.size w w' := by
  have hbw := below_twoF (below_oneF w (.cells #[.string m, .string t, .int .i64 v, .slice a l.length cap, .bool fr, .slice ba bn bc] 27)) (.cells #[.int .i64 0, .int .i64 0] 30)
  have HB := Box.mk hbw
  have HR := Box.mk (show KVar ((w.alloc (.cells #[.string m, .string t, .int .i64 v, .slice a l.length cap, .bool fr, .slice ba bn bc] 27)).alloc (.cells #[.int .i64 0, .int .i64 0] 30)) (w.heap.size + 1) 0 0 by
    have h := heap_alloc_new (w.alloc (.cells #[.string m, .string t, .int .i64 v, .slice a l.length cap, .bool fr, .slice ba bn bc] 27)) (.cells #[.int .i64 0, .int .i64 0] 30)
    rw [World.size_alloc] at h; exact h)
  have H0 := Box.mk (And.intro (h.keep hbw) (And.intro hz ht))
  clear h hz ht hbw
  go_enter Tryd.func10, Tryd.ntmps10
  go_wp2_with fail
  refine (refFrame_any v l 1 a cap _ H0.out.1 H0.out.2.1 hl H0.out.2.2).mono ?_
  rintro e w1 ⟨he, hb1⟩
  have HB1 := Box.mk (below_trans HB.out hb1)
  have HR1 := Box.mk (HR.out.keep hb1)
  generalize hq : frameS v l 1 = q at *
  have HP := Box.mk hq
  obtain ⟨k, n, er⟩ := q
  simp only [frameV] at he
  clear hb1 HB HR hq H0
  subst he
  go_wp2_with (refine wpList_store_row rfl 30 _ _ rfl (w.heap.size + 1) #[.int .i64 k, .int .i64 n] rfl rfl 30 _ HR1.out sizeK rfl (oneK _ _) ?_)
  (try simp only [Exit.inBlock, Exit.then])
  refine bodyPost_ret (results_row_tmpF rfl _ _ (w.heap.size + 1) _ _ _ _ rfl (setRow_heap _ _ _ _ _ _ HR1.out) Tryd.underlying30 rfl sizeK) rfl ?_
  exact ⟨by rw [HP.out]; rfl, below_setRow HB1.out (by omega) _⟩

theorem noBody_cases (method : ByteArray) (st : Int) : noBody method st = true ∧ (method = headN ∨ ¬ method = headN ∧ 100 ≤ st ∧ st ≤ 199 ∨ ¬ method = headN ∧ st = 204 ∨ ¬ method = headN ∧ st = 304) ∨ noBody method st = false ∧ ¬ method = headN ∧ (st < 100 ∨ 199 < st ∧ ¬ st = 204 ∧ ¬ st = 304) := by
  unfold noBody
  by_cases h0 : method = headN
  · exact .inl ⟨by simp [h0], .inl h0⟩
  · by_cases h1 : 100 ≤ st ∧ st ≤ 199
    · exact .inl ⟨by simp [h1.1, h1.2], .inr (.inl ⟨h0, h1.1, h1.2⟩)⟩
    · by_cases h2 : st = 204
      · exact .inl ⟨by simp [h2], .inr (.inr (.inl ⟨h0, h2⟩))⟩
      · by_cases h3 : st = 304
        · exact .inl ⟨by simp [h3], .inr (.inr (.inr ⟨h0, h3⟩))⟩
        · refine .inr ⟨?_, h0, by omega⟩
          simp [h0, h2, h3]; omega

set_option maxRecDepth 100000 in
set_option maxHeartbeats 4000000 in
theorem refOfReply_any (method : ByteArray) (st : Int) (r : ByteArray) (v : Int) (l : List Fld) (a : Option Addr) (cap : Nat) (ba : Option Addr) (bn bc : Nat) (w : World) (h : FldsIn w a l) (hz : ShortF l) (hl : l.length ≤ 1000000) (ht : total (valuesL l teN) ≤ 4000000000) :
    Calls Tryd.prog 14 #[.string method, .agg #[.int .i64 st, .string r, .int .i64 v, .slice a l.length cap, .slice ba bn bc]] w fun e w' => e = .returned (frameV (replyS method st v l)) ∧ Below w.heap.size w w' := by
  have hbw := below_twoF (below_oneF w (.cells #[.int .i64 st, .string r, .int .i64 v, .slice a l.length cap, .slice ba bn bc] 36)) (.cells #[.int .i64 0, .int .i64 0] 30)
  have HB := Box.mk hbw
  have HR := Box.mk (show KVar ((w.alloc (.cells #[.int .i64 st, .string r, .int .i64 v, .slice a l.length cap, .slice ba bn bc] 36)).alloc (.cells #[.int .i64 0, .int .i64 0] 30)) (w.heap.size + 1) 0 0 by
    have h := heap_alloc_new (w.alloc (.cells #[.int .i64 st, .string r, .int .i64 v, .slice a l.length cap, .slice ba bn bc] 36)) (.cells #[.int .i64 0, .int .i64 0] 30)
    rw [World.size_alloc] at h; exact h)
  have H0 := Box.mk (And.intro (h.keep hbw) (And.intro hz ht))
  clear h hz ht hbw
  rcases noBody_cases method st with ⟨hn, hc⟩ | ⟨hn, h0, hst⟩
  · have HP := Box.mk (show replyS method st v l = (1, 0, 0) by unfold replyS; rw [if_pos hn])
    rcases hc with h0 | ⟨h0, h1, h2⟩ | ⟨h0, h1⟩ | ⟨h0, h1⟩
    · have hm : (method.toList == [72, 69, 65, 68]) = true := by rw [litHead, toList_eq]; simp; exact h0
      clear h0 hn
      go_enter Tryd.func14, Tryd.ntmps14
      go_wp2_with (refine wpList_store_row rfl 30 _ _ rfl (w.heap.size + 1) #[.int .i64 1, .int .i64 0] rfl rfl 30 _ HR.out sizeK rfl (oneK _ _) ?_)
      (try simp only [Exit.inBlock, Exit.then])
      refine bodyPost_ret (results_row_tmpF rfl _ _ (w.heap.size + 1) _ _ _ _ rfl (setRow_heap _ _ _ _ _ _ HR.out) Tryd.underlying30 rfl sizeK) rfl ?_
      exact ⟨by rw [HP.out]; rfl, below_setRow HB.out (by omega) _⟩
    · have hm : (method.toList == [72, 69, 65, 68]) = false := by rw [litHead, toList_eq]; simp; exact h0
      clear h0 hn
      go_enter Tryd.func14, Tryd.ntmps14
      go_wp2_with (refine wpList_store_row rfl 30 _ _ rfl (w.heap.size + 1) #[.int .i64 1, .int .i64 0] rfl rfl 30 _ HR.out sizeK rfl (oneK _ _) ?_)
      (try simp only [Exit.inBlock, Exit.then])
      refine bodyPost_ret (results_row_tmpF rfl _ _ (w.heap.size + 1) _ _ _ _ rfl (setRow_heap _ _ _ _ _ _ HR.out) Tryd.underlying30 rfl sizeK) rfl ?_
      exact ⟨by rw [HP.out]; rfl, below_setRow HB.out (by omega) _⟩
    · have hm : (method.toList == [72, 69, 65, 68]) = false := by rw [litHead, toList_eq]; simp; exact h0
      clear h0 hn
      subst h1
      go_enter Tryd.func14, Tryd.ntmps14
      go_wp2_with (refine wpList_store_row rfl 30 _ _ rfl (w.heap.size + 1) #[.int .i64 1, .int .i64 0] rfl rfl 30 _ HR.out sizeK rfl (oneK _ _) ?_)
      (try simp only [Exit.inBlock, Exit.then])
      refine bodyPost_ret (results_row_tmpF rfl _ _ (w.heap.size + 1) _ _ _ _ rfl (setRow_heap _ _ _ _ _ _ HR.out) Tryd.underlying30 rfl sizeK) rfl ?_
      exact ⟨by rw [HP.out]; rfl, below_setRow HB.out (by omega) _⟩
    · have hm : (method.toList == [72, 69, 65, 68]) = false := by rw [litHead, toList_eq]; simp; exact h0
      clear h0 hn
      subst h1
      go_enter Tryd.func14, Tryd.ntmps14
      go_wp2_with (refine wpList_store_row rfl 30 _ _ rfl (w.heap.size + 1) #[.int .i64 1, .int .i64 0] rfl rfl 30 _ HR.out sizeK rfl (oneK _ _) ?_)
      (try simp only [Exit.inBlock, Exit.then])
      refine bodyPost_ret (results_row_tmpF rfl _ _ (w.heap.size + 1) _ _ _ _ rfl (setRow_heap _ _ _ _ _ _ HR.out) Tryd.underlying30 rfl sizeK) rfl ?_
      exact ⟨by rw [HP.out]; rfl, below_setRow HB.out (by omega) _⟩
  · have HP0 := Box.mk (show replyS method st v l = frameS v l 4 by unfold replyS; rw [if_neg (by rw [hn]; decide)])
    have hm : (method.toList == [72, 69, 65, 68]) = false := by rw [litHead, toList_eq]; simp; exact h0
    clear h0 hn
    rcases hst with hst | ⟨hst, h2, h3⟩
    · have e2 : (st == 204) = false := by rw [beq_eq_false_iff_ne]; omega
      have e3 : (st == 304) = false := by rw [beq_eq_false_iff_ne]; omega
      go_enter Tryd.func14, Tryd.ntmps14
      go_wp2_with fail
      refine (refFrame_any v l 4 a cap _ H0.out.1 H0.out.2.1 hl H0.out.2.2).mono ?_
      rintro e w1 ⟨he, hb1⟩
      have HB1 := Box.mk (below_trans HB.out hb1)
      have HR1 := Box.mk (HR.out.keep hb1)
      generalize hq : frameS v l 4 = q at *
      have HP := Box.mk (HP0.out)
      obtain ⟨k, n, er⟩ := q
      simp only [frameV] at he
      clear hb1 HB HR hq H0 HP0
      subst he
      go_wp2_with (refine wpList_store_row rfl 30 _ _ rfl (w.heap.size + 1) #[.int .i64 k, .int .i64 n] rfl rfl 30 _ HR1.out sizeK rfl (oneK _ _) ?_)
      (try simp only [Exit.inBlock, Exit.then])
      refine bodyPost_ret (results_row_tmpF rfl _ _ (w.heap.size + 1) _ _ _ _ rfl (setRow_heap _ _ _ _ _ _ HR1.out) Tryd.underlying30 rfl sizeK) rfl ?_
      exact ⟨by rw [HP.out]; rfl, below_setRow HB1.out (by omega) _⟩
    · have e2 : (st == 204) = false := by rw [beq_eq_false_iff_ne]; exact h2
      have e3 : (st == 304) = false := by rw [beq_eq_false_iff_ne]; exact h3
      clear h2 h3
      go_enter Tryd.func14, Tryd.ntmps14
      go_wp2_with fail
      refine (refFrame_any v l 4 a cap _ H0.out.1 H0.out.2.1 hl H0.out.2.2).mono ?_
      rintro e w1 ⟨he, hb1⟩
      have HB1 := Box.mk (below_trans HB.out hb1)
      have HR1 := Box.mk (HR.out.keep hb1)
      generalize hq : frameS v l 4 = q at *
      have HP := Box.mk (HP0.out)
      obtain ⟨k, n, er⟩ := q
      simp only [frameV] at he
      clear hb1 HB HR hq H0 HP0
      subst he
      go_wp2_with (refine wpList_store_row rfl 30 _ _ rfl (w.heap.size + 1) #[.int .i64 k, .int .i64 n] rfl rfl 30 _ HR1.out sizeK rfl (oneK _ _) ?_)
      (try simp only [Exit.inBlock, Exit.then])
      refine bodyPost_ret (results_row_tmpF rfl _ _ (w.heap.size + 1) _ _ _ _ rfl (setRow_heap _ _ _ _ _ _ HR1.out) Tryd.underlying30 rfl sizeK) rfl ?_
      exact ⟨by rw [HP.out]; rfl, below_setRow HB1.out (by omega) _⟩

set_option maxRecDepth 100000 in
set_option maxHeartbeats 2000000 in
theorem refPersistent_any (v : Int) (l : List Fld) (a : Option Addr) (cap : Nat) (w : World) (h : FldsIn w a l) (hz : ShortF l) (hl : l.length ≤ 1000000) (ht : total (valuesL l cnN) ≤ 4000000000) :
    Calls Tryd.prog 16 #[.int .i64 v, .slice a l.length cap] w fun e w' => e = .returned (.bool (persS v l)) ∧ Below w.heap.size w w' := by
  have HXZ := Box.mk (show ∀ y ∈ listL (valuesL l cnN), y.size ≤ maxLen from fun y hy => by
    have := listL_small hy
    unfold maxLen; omega)
  have hxl : (listL (valuesL l cnN)).length ≤ 4000000000 := Nat.le_trans (listL_length _) ht
  have HP0 := Box.mk (show persS v l = (!inFoldL (listL (valuesL l cnN)) closeN && (decide (v = 1) || inFoldL (listL (valuesL l cnN)) aliveN)) from rfl)
  have H0 := Box.mk (And.intro h (And.intro hz ht))
  clear h hz ht
  go_enter Tryd.func16, Tryd.ntmps16
  go_wp2_with fail
  refine (refElements_any _ l cnN a cap H0.out.1 H0.out.2.1 (by decide) hl H0.out.2.2).mono ?_
  rintro e w1 ⟨a1, c1, rfl, hs1, hb1⟩
  have HB1 := Box.mk hb1
  have HS1 := Box.mk (StrsIn.of_at hs1)
  clear hb1 hs1
  generalize listL (valuesL l cnN) = x at *
  go_wp2_with fail
  refine (inFold_big x closeN a1 c1 _ HS1.out HXZ.out (by decide) hxl).mono ?_
  rintro e w2 ⟨he, hb2⟩
  have HB2 := Box.mk (below_trans HB1.out hb2)
  have HS2 := Box.mk (HS1.out.keep hb2)
  clear hb2 HB1 HS1
  cases hc : inFoldL x closeN with
  | true =>
    have HP := Box.mk (show persS v l = false by rw [HP0.out, hc]; rfl)
    rw [hc] at he
    subst he
    clear hc HP0
    go_wp2_with fail
    go_ret
    exact ⟨ret_bool HP.out.symm, HB2.out⟩
  | false =>
    have HP1 := Box.mk (show persS v l = (decide (v = 1) || inFoldL x aliveN) by rw [HP0.out, hc]; rfl)
    rw [hc] at he
    subst he
    clear hc HP0
    by_cases hv : v = 1
    · have HP := Box.mk (show persS v l = true by rw [HP1.out, hv]; rfl)
      have ev : (v == 1) = true := by rw [hv]; rfl
      clear hv HP1
      go_wp2_with fail
      go_ret
      exact ⟨ret_bool HP.out.symm, HB2.out⟩
    · have HP := Box.mk (show persS v l = inFoldL x aliveN by rw [HP1.out, decide_eq_false hv]; rfl)
      have ev : (v == 1) = false := by rw [beq_eq_false_iff_ne]; exact hv
      clear hv HP1
      go_wp2_with fail
      refine (inFold_big x aliveN a1 c1 _ HS2.out HXZ.out (by decide) hxl).mono ?_
      rintro e w3 ⟨rfl, hb3⟩
      have HB3 := Box.mk (below_trans HB2.out hb3)
      clear hb3
      generalize inFoldL x aliveN = bb at *
      go_wp2_with fail
      go_ret
      exact ⟨ret_bool HP.out.symm, HB3.out⟩
end Go.Proofs.YtkbnkiflabncjaaDoor
namespace Go.Proofs.YtkbnkiflabncjaaDoor
open Go.RowKit

def fNames : List ByteArray := [⟨#[67, 111, 110, 116, 101, 110, 116, 45, 76, 101, 110, 103, 116, 104]⟩, ⟨#[99, 111, 110, 116, 101, 110, 116, 45, 108, 101, 110, 103, 116, 104]⟩, ⟨#[84, 114, 97, 110, 115, 102, 101, 114, 45, 69, 110, 99, 111, 100, 105, 110, 103]⟩, ⟨#[84, 82, 65, 78, 83, 70, 69, 82, 45, 69, 78, 67, 79, 68, 73, 78, 71]⟩, ⟨#[67, 111, 110, 110, 101, 99, 116, 105, 111, 110]⟩, ⟨#[99, 111, 110, 110, 101, 99, 116, 105, 111, 110]⟩]
def fVals : List ByteArray := [⟨#[53]⟩, ⟨#[48]⟩, ⟨#[48, 48, 53]⟩, ⟨#[53, 44, 32, 53]⟩, ⟨#[45, 49]⟩, ⟨#[]⟩, ⟨#[49, 48, 48, 48, 48, 48, 48, 48, 48, 49]⟩, ⟨#[99, 104, 117, 110, 107, 101, 100]⟩, ⟨#[67, 104, 117, 110, 107, 101, 100]⟩, ⟨#[103, 122, 105, 112, 44, 32, 99, 104, 117, 110, 107, 101, 100]⟩, ⟨#[99, 104, 117, 110, 107, 101, 100, 44, 32, 99, 104, 117, 110, 107, 101, 100]⟩, ⟨#[99, 108, 111, 115, 101]⟩, ⟨#[107, 101, 101, 112, 45, 97, 108, 105, 118, 101]⟩, ⟨#[120, 44, 32, 67, 108, 111, 115, 101]⟩]
theorem fNames_ok : (fNames.all fun s => decide (s.size ≤ 1000)) = true := by decide +kernel
theorem fVals_ok : (fVals.all fun s => decide (s.size ≤ 1000)) = true := by decide +kernel
def TinyF (f : Fld) : Prop := f.1.size ≤ 1000 ∧ f.2.size ≤ 1000
theorem tiny_of {s v : ByteArray} (hs : s ∈ fNames) (hv : v ∈ fVals) : TinyF (s, v) :=
  ⟨of_decide_eq_true (List.all_eq_true.1 fNames_ok s hs), of_decide_eq_true (List.all_eq_true.1 fVals_ok v hv)⟩
theorem MadeF.tiny {f : Fld} (h : MadeF f) : TinyF f := h.2
theorem smallF_tiny {l : List Fld} (h : ∀ f ∈ l, TinyF f) : SmallF l := fun f hf => ⟨Nat.le_trans (h f hf).1 (by decide), Nat.le_trans (h f hf).2 (by decide)⟩

set_option maxRecDepth 100000 in
set_option maxHeartbeats 4000000 in
theorem framed_any (b : Option Addr) (n cb : Nat) (w : World) (hi : IntsF w b n) (hn : n ≤ maxLen) :
    Calls Tryd.prog 7 #[.slice b n cb] w fun e w' => ∃ l a c, e = .returned (.slice a (List.length l) c) ∧ FldsC w' a l c ∧ l.length ≤ c ∧ l.length ≤ 5 ∧ (∀ f ∈ l, TinyF f) ∧ (∀ x, a = some x → w.heap.size ≤ x.block) ∧ Below w.heap.size w w' := by
  have HS0 := Box.mk (src_box (c := cb) hi hn)
  have HB0 := Box.mk (below_oneF w (.cells #[.slice b n cb, .int .i64 0] 39))
  have HLOW := Box.mk (show ∀ x, b = some x → 0 < n → x.block < w.heap.size from fun x e h0 => by
    obtain ⟨y, z, e2, hc, _⟩ := hi 0 h0
    rw [e] at e2
    obtain rfl := Option.some.inj e2
    have := lt_cell hc
    rw [add_blockF] at this; exact this)
  clear hi hn
  go_enter Tryd.func7, Tryd.ntmps7
  go_wp2_with fail
  obtain ⟨W0, hW0⟩ : ∃ W0, W0 = w.alloc (.cells #[.slice b n cb, .int .i64 0] 39) := ⟨_, rfl⟩
  have hs0 : w.heap.size < W0.heap.size := by rw [hW0, World.size_alloc]; omega
  rw [← hW0] at HS0 HB0 ⊢
  clear hW0
  generalize hg : w.heap.size = g at *
  have HG := Box.mk hg
  clear hg
  refine (srcFieldsS_any g 2 b n cb W0 HS0.out (by decide)).mono ?_
  rintro e w1 ⟨v1, y, rfl, hy, hyl, hyf, hsrc, hg1⟩
  have HY := Box.mk hy
  have HYF := Box.mk (show ∀ f ∈ y, TinyF f from fun f hf => (hyf f hf).made.tiny)
  have HS1 := Box.mk hsrc
  have HG1 := Box.mk hg1
  clear hy hyf hsrc hg1 HS0
  go_wp2_with fail
  refine (next_any g 4 b n cb w1 HS1.out (by decide) (by decide)).mono ?_
  rintro e w2 ⟨k, hk, rfl, hsrc, hg2⟩
  have HY2 := Box.mk (HY.out.grown hg2 (fun q e e2 => by have := (HY.out.lt e).1; have := Option.some.inj e2; omega))
  have HS2 := Box.mk hsrc
  have HG2 := Box.mk (grownBy_trans HG1.out hg2)
  clear hsrc hg2 HY HS1 HG1
  go_wp2_with fail
  go_loopw [4, 5] (fun v iv wr => ∃ j : Nat, j ≤ 3 ∧ iv = .int .i64 j ∧ ∃ l : List Fld, l.length + j ≤ 5 ∧ Box (OwnF W0.heap.size wr v l ∧ (∀ f ∈ l, TinyF f) ∧ Src wr g b n cb ∧ W0.grownBy wr (some g))) (fun _ iv _ => (intOf iv).toNat)
  case atStart => exact ⟨k, by omega, rfl, y, by omega, ⟨HY2.out, HYF.out, HS2.out, HG2.out⟩⟩
  case round =>
    clear HY2 HYF HS2 HG2
    obtain ⟨j, hj, rfl, l, hl, HM⟩ := hrel
    have hszr := HM.out.2.2.2.size
    by_cases hpos : 0 < j
    · go_wp2_with fail
      obtain ⟨W, hW⟩ : ∃ W, W = wr.alloc (.cells (fNames.map Value.string).toArray 9) := ⟨_, rfl⟩
      have HBW := Box.mk (show Below wr.heap.size wr W by rw [hW]; exact below_oneF wr _)
      have HL := Box.mk (show StrsIn W (some ⟨wr.heap.size, 0, none⟩) fNames by rw [hW]; exact strsIn_newF wr fNames 9)
      change Calls _ _ _ (wr.alloc (.cells (fNames.map Value.string).toArray 9)) _
      rw [← hW]
      clear hW
      refine (of_n g wr.heap.size 6 fNames 6 b n cb W (HM.out.2.2.1.keep HBW.out) HL.out (by omega) rfl (by decide) (by decide)).mono ?_
      rintro e w3 ⟨s, hs, rfl, hsrc, hg3⟩
      have HNM := Box.mk hs
      have HO3 := Box.mk ((HM.out.1.keep HBW.out).grown hg3 (fun q e e2 => by have := (HM.out.1.lt e).1; have := Option.some.inj e2; omega))
      have HS3 := Box.mk hsrc
      have HG3 := Box.mk (grownBy_trans HM.out.2.2.2 (grownBy_trans (grownBy_below HBW.out) hg3))
      have HALL := Box.mk HM.out.2.1
      have hsz3 := HG3.out.size
      clear hs hsrc hg3 HM HBW HL
      go_wp2_with fail
      obtain ⟨W, hW⟩ : ∃ W, W = w3.alloc (.cells (fVals.map Value.string).toArray 9) := ⟨_, rfl⟩
      have HBW := Box.mk (show Below w3.heap.size w3 W by rw [hW]; exact below_oneF w3 _)
      have HL := Box.mk (show StrsIn W (some ⟨w3.heap.size, 0, none⟩) fVals by rw [hW]; exact strsIn_newF w3 fVals 9)
      change Calls _ _ _ (w3.alloc (.cells (fVals.map Value.string).toArray 9)) _
      rw [← hW]
      clear hW
      refine (of_n g w3.heap.size 14 fVals 14 b n cb W (HS3.out.keep HBW.out) HL.out (by omega) rfl (by decide) (by decide)).mono ?_
      rintro e w4 ⟨u, hu, rfl, hsrc, hg4⟩
      have HALL4 := Box.mk (show ∀ f ∈ l ++ [((s, u) : Fld)], TinyF f from fun f hf => by
        rcases List.mem_append.1 hf with h1 | h1
        · exact HALL.out f h1
        · obtain rfl := List.mem_singleton.1 h1; exact tiny_of HNM.out hu)
      have HO4 := Box.mk ((HO3.out.keep HBW.out).grown hg4 (fun q e e2 => by have := (HO3.out.lt e).1; have := Option.some.inj e2; omega))
      have HS4 := Box.mk hsrc
      have HG4 := Box.mk (grownBy_trans HG3.out (grownBy_trans (grownBy_below HBW.out) hg4))
      have hsz4 := HG4.out.size
      clear hu hsrc hg4 HO3 HS3 HG3 HBW HL HALL HNM
      go_wp2_with (at_builtin; refine wpList_append_ownf _ rfl _ _ rfl rfl (HO4.out.keep (below_oneF w4 (.cells #[.string s, .string u] 47))) rfl (y := (s, u)) ?c1 ?c2 (by omega) (by simp; omega) ?c3)
      case c3 =>
        intro v' w5 hown hgrow
        have HO5 := Box.mk hown
        have hgrow2 : w4.grownBy w5 u4.ownBlock := ⟨hgrow.os, hgrow.tape, hgrow.output, Nat.le_trans (by simp) hgrow.size, fun k hk hne => by
          rw [hgrow.block k (by simp; omega) hne]
          exact (below_oneF w4 _).block k hk⟩
        have HS5 := Box.mk (HS4.out.grown hgrow2 (fun e => by have := (HO4.out.lt e.symm).1; omega) (fun x e h0 e2 => by have := (HO4.out.lt e2.symm).1; have := HLOW.out x e h0; omega))
        have HG5 := Box.mk (grownBy_new HG4.out hgrow2 (fun i e => (HO4.out.lt e).1))
        clear hown hgrow hgrow2 HO4 HS4 HG4
        go_wp2_with fail
        go_roundw
        case rel => exact ⟨j - 1, by omega, by go_num, l ++ [(s, u)], by simp; omega, ⟨HO5.out, HALL4.out, HS5.out, HG5.out⟩⟩
        case measure => simp [intOf]; omega
    · obtain rfl : j = 0 := by omega
      go_wp2_with fail
      have hlo := HM.out.1
      obtain ⟨a', c', rfl, hs, hc⟩ := HM.out.1.shape
      have hfr : ∀ x, a' = some x → W0.heap.size ≤ x.block := fun x e => (hlo.lt (k := x.block) (by rw [e]; rfl)).1
      clear hlo
      go_ret
      have hb := HM.out.2.2.2
      have hgg := HG.out
      exact ⟨l, a', c', rfl, hs, hc, by omega, HM.out.2.1, fun x e => by have := hfr x e; omega, by rw [hgg]; exact HB0.out.grown hb (by omega) (fun q e => by have := Option.some.inj e; omega)⟩
end Go.Proofs.YtkbnkiflabncjaaDoor
namespace Go.Proofs.YtkbnkiflabncjaaDoor
open Go.RowKit

/-- What package bytealg holds. -/
def MaxOk (w : World) (mm : Int) : Prop := w.cell? ⟨0, 0, none⟩ = some (.int .i64 mm)
theorem MaxOk.keep {w w' : World} {mm : Int} (h : MaxOk w mm) (hb : Below w.heap.size w w') : MaxOk w' mm := below_cell hb h
def clP : ByteArray := ⟨#[67, 111, 110, 116, 101, 110, 116, 45, 76, 101, 110, 103, 116, 104]⟩
def teP : ByteArray := ⟨#[84, 114, 97, 110, 115, 102, 101, 114, 45, 69, 110, 99, 111, 100, 105, 110, 103]⟩
def cnP : ByteArray := ⟨#[67, 111, 110, 110, 101, 99, 116, 105, 111, 110]⟩
theorem low_cl : lowS clP = lowS clN := by decide +kernel
theorem low_te : lowS teP = lowS teN := by decide +kernel
theorem low_cn : lowS cnP = lowS cnN := by decide +kernel
theorem foldS_low {a n m : ByteArray} (h : lowS n = lowS m) : foldS a n = foldS a m := by unfold foldS; rw [h]
theorem valuesL_low {n m : ByteArray} (l : List Fld) (h : lowS n = lowS m) : valuesL l n = valuesL l m := by
  unfold valuesL; simp only [foldS_low h]
theorem hasL_low {n m : ByteArray} (l : List Fld) (h : lowS n = lowS m) : hasL l n = hasL l m := by
  unfold hasL; simp only [foldS_low h]
theorem fValues_low {n m : ByteArray} (e : lowS n = lowS m) (l : List Fld) (a : Option Addr) (cap : Nat) (w : World) (h : FldsIn w a l) (hz : ShortF l) (hn : n.size ≤ maxLen) (hl : l.length ≤ 1000000) :
    Calls Tryd.prog 29 #[.slice a l.length cap, .string n] w (RetStrs w (valuesL l m)) := by
  rw [← valuesL_low l e]; exact fValues_any l n a cap w h hz hn hl
theorem fHas_low {n m : ByteArray} (e : lowS n = lowS m) (l : List Fld) (a : Option Addr) (cap : Nat) (w : World) (h : FldsIn w a l) (hz : ShortF l) (hn : n.size ≤ maxLen) (hl : l.length ≤ 1000000) :
    Calls Tryd.prog 30 #[.slice a l.length cap, .string n] w fun e w' => e = .returned (.bool (hasL l m)) ∧ Below w.heap.size w w' := by
  rw [← hasL_low l e]; exact fHas_any l n a cap w h hz hn hl
theorem fElements_low {n m : ByteArray} (e : lowS n = lowS m) (w : World) (mm : Int) (l : List Fld) (a : Option Addr) (cap : Nat) (h : FldsIn w a l) (hz : ShortF l) (hn : n.size ≤ maxLen) (hl : l.length ≤ 1000000) (hm : MaxOk w mm) (ht : total (valuesL l m) ≤ 4000000000) :
    Calls Tryd.prog 23 #[.slice a l.length cap, .string n] w (RetStrs w (listL (valuesL l m))) := by
  rw [← valuesL_low l e]; exact fElements_any w mm l n a cap h hz hn hl hm (by rw [valuesL_low l e]; exact ht)

set_option maxHeartbeats 1000000 in
theorem hasWord_any (y n : ByteArray) (c : Nat) (w : World) (hc : w.cell? ⟨c, 0, none⟩ = some (.string n)) (hy : y.size ≤ maxLen) (hn : n.size ≤ maxLen) :
    Calls Tryd.prog 39 #[.string y, .pointer (some ⟨c, 0, none⟩)] w fun e w' => e = .returned (.bool (foldS y n)) ∧ Below w.heap.size w w' := by
  go_enter Tryd.func39, Tryd.ntmps39
  go_wp2_with fail
  refine (fold_any y n _ hy hn).mono ?_
  rintro e w1 ⟨rfl, hb⟩
  have HB := Box.mk hb
  clear hb
  generalize hr : foldS y n = r at *
  have HR := Box.mk hr
  clear hr
  go_wp2_with fail
  go_ret
  exact ⟨ret_bool HR.out.symm, HB.out⟩

set_option maxRecDepth 100000 in
set_option maxHeartbeats 2000000 in
theorem indexWord_any (l : List ByteArray) (n : ByteArray) (a : Option Addr) (cap c : Nat) (w : World) (h : StrsIn w a l) (hz : ∀ x ∈ l, x.size ≤ maxLen) (hc : w.cell? ⟨c, 0, none⟩ = some (.string n)) (hn : n.size ≤ maxLen) (hl : l.length ≤ 4000000000) :
    Calls Tryd.prog 52 #[.slice a l.length cap, .func (.func 39) #[] #[.pointer (some ⟨c, 0, none⟩)]] w
      fun e w' => ∃ i : Int, e = .returned (.int .i64 i) ∧ decide (0 ≤ i) = inFoldL l n ∧ Below w.heap.size w w' := by
  have H0 := Box.mk h
  have HZ := Box.mk hz
  have HC := Box.mk hc
  clear h hz hc
  go_enter Tryd.func52, Tryd.ntmps52
  go_wp2_with fail
  go_loopw [8] (fun iv wr => ∃ k : Nat, k ≤ l.length ∧ iv = .int .i64 k ∧ Box (Below w.heap.size w wr ∧ ∀ f ∈ l.take k, foldS f n = false)) (fun iv _ => l.length - (intOf iv).toNat)
  case atStart => exact ⟨0, Nat.zero_le _, rfl, ⟨Below.refl _ _, by simp⟩⟩
  case round =>
    obtain ⟨k, hk, rfl, HM⟩ := hrel
    by_cases hlt : k < l.length
    · obtain ⟨x, rfl, hx1⟩ := (H0.out.keep HM.out.1) k hlt
      have HSZ := Box.mk (HZ.out _ (List.getElem_mem hlt))
      have HMEM := Box.mk (List.getElem_mem hlt)
      have HTK := Box.mk (show l.take (k + 1) = l.take k ++ [l[k]] from List.take_succ_eq_append_getElem hlt)
      generalize l[k] = f at *
      have HC1 := Box.mk (below_cell HM.out.1 HC.out)
      by_cases hin : foldS f n = true
      · have HIN := Box.mk hin
        have HR := Box.mk (show inFoldL l n = true from List.any_eq_true.2 ⟨f, HMEM.out, hin⟩)
        clear hin
        go_wp2_with fail
        refine (hasWord_any f n c _ HC1.out HSZ.out hn).mono ?_
        rintro e w1 ⟨he, hb1⟩
        rw [HIN.out] at he
        subst he
        have HB1 := Box.mk (below_trans HM.out.1 hb1)
        clear hb1
        go_wp2_with fail
        go_ret
        exact ⟨(k : Int), rfl, by rw [HR.out]; simp, HB1.out⟩
      · have HIN := Box.mk (show foldS f n = false by simpa using hin)
        clear hin
        go_wp2_with fail
        refine (hasWord_any f n c _ HC1.out HSZ.out hn).mono ?_
        rintro e w1 ⟨he, hb1⟩
        rw [HIN.out] at he
        subst he
        have HM1 := Box.mk (show Below w.heap.size w w1 ∧ ∀ f ∈ l.take (k + 1), foldS f n = false from ⟨below_trans HM.out.1 hb1, by
          rw [HTK.out]
          intro y hy
          rcases List.mem_append.1 hy with h | h
          · exact HM.out.2 y h
          · simp at h; rw [h]; exact HIN.out⟩)
        clear hb1
        go_wp2_with fail
        go_roundw
        case rel => exact ⟨k + 1, by omega, by go_num, HM1⟩
        case measure => simp [intOf]; omega
    · have HR := Box.mk (inFoldL_no hk hlt HM.out.2)
      go_wp2_with fail
      go_ret
      exact ⟨-1, rfl, by rw [HR.out]; rfl, HM.out.1⟩

set_option maxHeartbeats 1000000 in
theorem containsWord_any (l : List ByteArray) (n : ByteArray) (a : Option Addr) (cap c : Nat) (w : World) (h : StrsIn w a l) (hz : ∀ x ∈ l, x.size ≤ maxLen) (hc : w.cell? ⟨c, 0, none⟩ = some (.string n)) (hn : n.size ≤ maxLen) (hl : l.length ≤ 4000000000) :
    Calls Tryd.prog 38 #[.slice a l.length cap, .func (.func 39) #[] #[.pointer (some ⟨c, 0, none⟩)]] w
      fun e w' => e = .returned (.bool (inFoldL l n)) ∧ Below w.heap.size w w' := by
  have H0 := Box.mk h
  have HZ := Box.mk hz
  have HC := Box.mk hc
  clear h hz hc
  go_enter Tryd.func38, Tryd.ntmps38
  go_wp2_with fail
  refine (indexWord_any l n a cap c _ H0.out HZ.out HC.out hn hl).mono ?_
  rintro e w1 ⟨i, rfl, hi, hb⟩
  have HI := Box.mk hi
  clear hi
  go_wp2_with fail
  go_ret
  exact ⟨ret_bool HI.out, hb⟩

set_option maxHeartbeats 1000000 in
theorem contains_any (l : List ByteArray) (n : ByteArray) (a : Option Addr) (cap : Nat) (w : World) (h : StrsIn w a l) (hz : ∀ x ∈ l, x.size ≤ maxLen) (hn : n.size ≤ maxLen) (hl : l.length ≤ 4000000000) :
    Calls Tryd.prog 24 #[.slice a l.length cap, .string n] w fun e w' => e = .returned (.bool (inFoldL l n)) ∧ Below w.heap.size w w' := by
  have HB := Box.mk (below_oneF w (.cells #[.string n] 9))
  have HC := Box.mk (show (w.alloc (.cells #[.string n] 9)).cell? ⟨w.heap.size, 0, none⟩ = some (.string n) by rw [new_cellF]; rfl)
  have H0 := Box.mk (h.keep HB.out)
  have HZ := Box.mk hz
  clear h hz
  go_enter Tryd.func24, Tryd.ntmps24
  go_wp2_with fail
  refine (containsWord_any l n a cap _ _ H0.out HZ.out HC.out hn hl).mono ?_
  rintro e w1 ⟨rfl, hb⟩
  have HB1 := Box.mk (below_trans HB.out hb)
  clear hb
  generalize hr : inFoldL l n = r at *
  have HR := Box.mk hr
  clear hr
  go_wp2_with fail
  go_ret
  exact ⟨ret_bool HR.out.symm, HB1.out⟩

set_option maxHeartbeats 1000000 in
theorem isChunked_any (x : List ByteArray) (a : Option Addr) (cap : Nat) (w : World) (h : StrsAt w a x) (hz : ∀ y ∈ x, y.size ≤ maxLen) (hl : x.length ≤ 4000000000) :
    Calls Tryd.prog 31 #[.slice a x.length cap] w fun e w' => e = .returned (.bool (chunkedB x)) ∧ Below w.heap.size w w' := by
  by_cases hx : x.length = 1
  · obtain ⟨y, rfl⟩ : ∃ y, x = [y] := by
      match x, hx with
      | [y], _ => exact ⟨y, rfl⟩
    have hyz := hz y (by simp)
    obtain ⟨b3, o3, e3, hc3⟩ := h 0 (by simp)
    subst e3
    simp only [List.getElem_cons_zero, Nat.add_zero] at hc3
    have HP := Box.mk (show chunkedB [y] = foldS y chunkedN from rfl)
    clear hx h hz hl
    rw [show ([y] : List ByteArray).length = 1 from rfl]
    go_enter Tryd.func31, Tryd.ntmps31
    go_wp2_with fail
    refine (fold_any y chunkedN _ hyz (by decide)).mono ?_
    rintro e w1 ⟨rfl, hb⟩
    have HB := Box.mk hb
    clear hb hc3
    generalize hr : foldS y chunkedN = r at *
    have HR := Box.mk hr
    clear hr
    go_wp2_with fail
    go_ret
    exact ⟨ret_bool HP.out.symm, HB.out⟩
  · have HP := Box.mk (chunkedB_ne hx)
    have ex : (((x.length : Nat) : Int) == 1) = false := by rw [beq_eq_false_iff_ne]; omega
    clear hx h hz
    go_enter Tryd.func31, Tryd.ntmps31
    go_wp2_with fail
    go_ret
    exact ⟨ret_bool HP.out.symm, Below.refl _ _⟩

def lenS (y : ByteArray) : Int × Int × Int :=
  if (parseS 10 1000000000 y).2 = 0 then (2, (parseS 10 1000000000 y).1, 0) else if (parseS 10 1000000000 y).2 = 2 then (0, 0, 5) else (0, 0, (parseS 10 1000000000 y).2)

set_option maxRecDepth 100000 in
set_option maxHeartbeats 2000000 in
theorem ofLength_any (y : ByteArray) (w : World) (hy : y.size ≤ maxLen) :
    Calls Tryd.prog 32 #[.string y] w fun e w' => e = .returned (frameV (lenS y)) ∧ Below w.heap.size w w' := by
  have HB := Box.mk (below_oneF w (.cells #[.int .i64 0, .int .i64 0] 30))
  have HR := Box.mk (show KVar (w.alloc (.cells #[.int .i64 0, .int .i64 0] 30)) w.heap.size 0 0 from heap_alloc_new _ _)
  have HP0 := Box.mk (show lenS y = if (parseS 10 1000000000 y).2 = 0 then (2, (parseS 10 1000000000 y).1, 0) else if (parseS 10 1000000000 y).2 = 2 then (0, 0, 5) else (0, 0, (parseS 10 1000000000 y).2) from rfl)
  go_enter Tryd.func32, Tryd.ntmps32
  go_wp2_with fail
  refine (parseDecimal_any y 1000000000 _ hy (by decide) (by decide)).mono ?_
  rintro e w1 ⟨he, rfl⟩
  generalize parseS 10 1000000000 y = pp at *
  obtain ⟨n, er⟩ := pp
  simp only [] at HP0
  subst he
  by_cases h0 : er = 0
  · have HP := Box.mk (show lenS y = (2, n, 0) by rw [HP0.out, if_pos h0])
    have e0 : (er == 0) = true := by rw [h0]; rfl
    clear HP0 h0
    go_wp2_with (refine wpList_store_row rfl 30 _ _ rfl (w.heap.size) #[.int .i64 2, .int .i64 n] rfl rfl 30 _ HR.out sizeK rfl (oneK _ _) ?_)
    (try simp only [Exit.inBlock, Exit.then])
    refine bodyPost_ret (results_row_tmpF rfl _ _ (w.heap.size) _ _ _ _ rfl (setRow_heap _ _ _ _ _ _ HR.out) Tryd.underlying30 rfl sizeK) rfl ?_
    exact ⟨by rw [HP.out]; rfl, below_setRow HB.out (Nat.le_refl _) _⟩
  · have e0 : (er == 0) = false := by rw [beq_eq_false_iff_ne]; exact h0
    by_cases h2 : er = 2
    · have HP := Box.mk (show lenS y = (0, 0, 5) by rw [HP0.out, if_neg h0, if_pos h2])
      have e2 : (er == 2) = true := by rw [h2]; rfl
      clear HP0 h0 h2
      go_wp2_with (refine wpList_store_row rfl 30 _ _ rfl (w.heap.size) #[.int .i64 0, .int .i64 0] rfl rfl 30 _ HR.out sizeK rfl (oneK _ _) ?_)
      (try simp only [Exit.inBlock, Exit.then])
      refine bodyPost_ret (results_row_tmpF rfl _ _ (w.heap.size) _ _ _ _ rfl (setRow_heap _ _ _ _ _ _ HR.out) Tryd.underlying30 rfl sizeK) rfl ?_
      exact ⟨by rw [HP.out]; rfl, below_setRow HB.out (Nat.le_refl _) _⟩
    · have HP := Box.mk (show lenS y = (0, 0, er) by rw [HP0.out, if_neg h0, if_neg h2])
      have e2 : (er == 2) = false := by rw [beq_eq_false_iff_ne]; exact h2
      clear HP0 h0 h2
      go_wp2_with (refine wpList_store_row rfl 30 _ _ rfl (w.heap.size) #[.int .i64 0, .int .i64 0] rfl rfl 30 _ HR.out sizeK rfl (oneK _ _) ?_)
      (try simp only [Exit.inBlock, Exit.then])
      refine bodyPost_ret (results_row_tmpF rfl _ _ (w.heap.size) _ _ _ _ rfl (setRow_heap _ _ _ _ _ _ HR.out) Tryd.underlying30 rfl sizeK) rfl ?_
      exact ⟨by rw [HP.out]; rfl, below_setRow HB.out (Nat.le_refl _) _⟩

theorem frameS_one {v : Int} {l : List Fld} {k0 : Int} {y : ByteArray} (h : hasL l teN = false) (h2 : valuesL l clN = [y]) : frameS v l k0 = lenS y := by
  rw [frameS_len h h2]
  unfold lenS
  by_cases h0 : (parseS 10 1000000000 y).2 = 0
  · rw [if_neg (by rw [h0]; simp), if_pos h0, if_pos h0]
  · by_cases h2 : (parseS 10 1000000000 y).2 = 2
    · rw [if_pos (.inr h2), if_neg h0, if_pos h2]
    · rw [if_neg (by simp [h2]), if_neg h0, if_neg h0, if_neg h2]

set_option maxRecDepth 100000 in
set_option maxHeartbeats 4000000 in
theorem ofFields_any (v : Int) (l : List Fld) (a : Option Addr) (cap : Nat) (mm : Int) (w : World) (h : FldsIn w a l) (hz : ShortF l) (hl : l.length ≤ 1000000) (ht : total (valuesL l teN) ≤ 4000000000) (hm : MaxOk w mm) :
    Calls Tryd.prog 20 #[.int .i64 v, .slice a l.length cap] w fun e w' => e = .returned (frameV (frameS v l 1)) ∧ Below w.heap.size w w' := by
  have HB := Box.mk (below_oneF w (.cells #[.int .i64 0, .int .i64 0] 30))
  have HR := Box.mk (show KVar (w.alloc (.cells #[.int .i64 0, .int .i64 0] 30)) w.heap.size 0 0 from heap_alloc_new _ _)
  have H0 := Box.mk (And.intro (h.keep HB.out) (And.intro hz ht))
  have HMX := Box.mk hm
  have HVS := Box.mk (fun (n y : ByteArray) => valuesL_small hz (n := n) (y := y))
  have hcl : (valuesL l clN).length ≤ 1000000 := Nat.le_trans (valuesL_len l clN) hl
  clear h hz ht hm
  go_enter Tryd.func20, Tryd.ntmps20
  go_wp2_with fail
  refine (fValues_low low_cl l a cap _ H0.out.1 H0.out.2.1 (by decide) hl).mono ?_
  rintro e w1 ⟨a1, c1, rfl, hs1, hb1⟩
  have HB1 := Box.mk (below_trans HB.out hb1)
  have HR1 := Box.mk (HR.out.keep hb1)
  have HS1 := Box.mk hs1
  have HF1 := Box.mk (H0.out.1.keep hb1)
  clear hb1 hs1 HB HR
  go_wp2_with fail
  refine (fHas_low low_te l a cap _ HF1.out H0.out.2.1 (by decide) hl).mono ?_
  rintro e w2 ⟨he, hb2⟩
  have HB2 := Box.mk (below_trans HB1.out hb2)
  have HR2 := Box.mk (HR1.out.keep hb2)
  have HS2 := Box.mk (HS1.out.keep hb2)
  have HF2 := Box.mk (HF1.out.keep hb2)
  have HM2 := Box.mk (HMX.out.keep HB2.out)
  clear hb2 HB1 HR1 HS1 HF1 HMX
  cases hte : hasL l teN with
  | true =>
    have HTE := Box.mk hte
    rw [HTE.out] at he
    subst he
    clear hte
    have HP0 := Box.mk (frameS_te (v := v) (k0 := 1) HTE.out)
    by_cases hv : v = 0
    · have HP := Box.mk (show frameS v l 1 = (0, 0, 5) by rw [HP0.out, if_pos (.inl hv)])
      have ev : (v != 0) = false := by rw [hv]; rfl
      clear hv HP0 HS2 HF2 HTE HVS
      generalize (valuesL l clN).length = q at *
      go_wp2_with (refine wpList_store_row rfl 30 _ _ rfl (w.heap.size) #[.int .i64 0, .int .i64 0] rfl rfl 30 _ HR2.out sizeK rfl (oneK _ _) ?_)
      (try simp only [Exit.inBlock, Exit.then])
      refine bodyPost_ret (results_row_tmpF rfl _ _ (w.heap.size) _ _ _ _ rfl (setRow_heap _ _ _ _ _ _ HR2.out) Tryd.underlying30 rfl sizeK) rfl ?_
      exact ⟨by rw [HP.out]; rfl, below_setRow HB2.out (Nat.le_refl _) _⟩
    · have ev : (v != 0) = true := by rw [bne_iff_ne]; exact hv
      by_cases hc : 0 < (valuesL l clN).length
      · have HP := Box.mk (show frameS v l 1 = (0, 0, 5) by rw [HP0.out, if_pos (.inr (.inl hc))])
        clear hv HP0 HS2 HF2 HTE HVS
        generalize (valuesL l clN).length = q at *
        have eq : (((q : Nat) : Int) == 0) = false := by rw [beq_eq_false_iff_ne]; omega
        go_wp2_with (refine wpList_store_row rfl 30 _ _ rfl (w.heap.size) #[.int .i64 0, .int .i64 0] rfl rfl 30 _ HR2.out sizeK rfl (oneK _ _) ?_)
        (try simp only [Exit.inBlock, Exit.then])
        refine bodyPost_ret (results_row_tmpF rfl _ _ (w.heap.size) _ _ _ _ rfl (setRow_heap _ _ _ _ _ _ HR2.out) Tryd.underlying30 rfl sizeK) rfl ?_
        exact ⟨by rw [HP.out]; rfl, below_setRow HB2.out (Nat.le_refl _) _⟩
      · have HP1 := Box.mk (show frameS v l 1 = if chunkedB (listL (valuesL l teN)) = false then (0, 0, 5) else (3, 0, 0) by
          rw [HP0.out]
          by_cases hf : chunkedB (listL (valuesL l teN)) = false
          · rw [if_pos (.inr (.inr hf)), if_pos hf]
          · rw [if_neg hf, if_neg]
            rintro (h | h | h)
            · exact hv h
            · exact hc h
            · exact hf h)
        have HXZ := Box.mk (show ∀ y ∈ listL (valuesL l teN), y.size ≤ maxLen from fun y hy => by
          have := listL_small hy
          have := H0.out.2.2
          unfold maxLen; omega)
        have hxl : (listL (valuesL l teN)).length ≤ 4000000000 := Nat.le_trans (listL_length _) H0.out.2.2
        clear hv HP0 HS2 HTE HVS
        generalize (valuesL l clN).length = q at *
        have eq : (((q : Nat) : Int) == 0) = true := by rw [beq_iff_eq]; omega
        go_wp2_with fail
        refine (fElements_low low_te _ mm l a cap HF2.out H0.out.2.1 (by decide) hl HM2.out H0.out.2.2).mono ?_
        rintro e w3 ⟨a3, c3, rfl, hs3, hb3⟩
        have HB3 := Box.mk (below_trans HB2.out hb3)
        have HR3 := Box.mk (HR2.out.keep hb3)
        have HS3 := Box.mk hs3
        clear hb3 HB2 HR2 HF2 hs3 HM2
        generalize listL (valuesL l teN) = x at *
        go_wp2_with fail
        refine (isChunked_any x a3 c3 _ HS3.out HXZ.out hxl).mono ?_
        rintro e w4 ⟨he, hb4⟩
        have HB4 := Box.mk (below_trans HB3.out hb4)
        have HR4 := Box.mk (HR3.out.keep hb4)
        clear hb4 HB3 HR3 HS3 HXZ
        cases hf : chunkedB x with
        | false =>
          have HP := Box.mk (show frameS v l 1 = (0, 0, 5) by rw [HP1.out, if_pos hf])
          rw [hf] at he
          subst he
          clear hf HP1
          go_wp2_with (refine wpList_store_row rfl 30 _ _ rfl (w.heap.size) #[.int .i64 0, .int .i64 0] rfl rfl 30 _ HR4.out sizeK rfl (oneK _ _) ?_)
          (try simp only [Exit.inBlock, Exit.then])
          refine bodyPost_ret (results_row_tmpF rfl _ _ (w.heap.size) _ _ _ _ rfl (setRow_heap _ _ _ _ _ _ HR4.out) Tryd.underlying30 rfl sizeK) rfl ?_
          exact ⟨by rw [HP.out]; rfl, below_setRow HB4.out (Nat.le_refl _) _⟩
        | true =>
          have HP := Box.mk (show frameS v l 1 = (3, 0, 0) by rw [HP1.out, if_neg (by rw [hf]; decide)])
          rw [hf] at he
          subst he
          clear hf HP1
          go_wp2_with (refine wpList_store_row rfl 30 _ _ rfl (w.heap.size) #[.int .i64 3, .int .i64 0] rfl rfl 30 _ HR4.out sizeK rfl (oneK _ _) ?_)
          (try simp only [Exit.inBlock, Exit.then])
          refine bodyPost_ret (results_row_tmpF rfl _ _ (w.heap.size) _ _ _ _ rfl (setRow_heap _ _ _ _ _ _ HR4.out) Tryd.underlying30 rfl sizeK) rfl ?_
          exact ⟨by rw [HP.out]; rfl, below_setRow HB4.out (Nat.le_refl _) _⟩
  | false =>
    have HTE := Box.mk hte
    rw [HTE.out] at he
    subst he
    clear hte
    match hcv : valuesL l clN with
    | [] =>
      have HP := Box.mk (frameS_none (v := v) (k0 := 1) HTE.out hcv)
      rw [hcv] at hcl
      rw [show ([] : List ByteArray).length = 0 from rfl]
      clear hcv HS2 HF2 HTE HVS
      go_wp2_with (refine wpList_store_row rfl 30 _ _ rfl (w.heap.size) #[.int .i64 1, .int .i64 0] rfl rfl 30 _ HR2.out sizeK rfl (oneK _ _) ?_)
      (try simp only [Exit.inBlock, Exit.then])
      refine bodyPost_ret (results_row_tmpF rfl _ _ (w.heap.size) _ _ _ _ rfl (setRow_heap _ _ _ _ _ _ HR2.out) Tryd.underlying30 rfl sizeK) rfl ?_
      exact ⟨by rw [HP.out]; rfl, below_setRow HB2.out (Nat.le_refl _) _⟩
    | [y] =>
      have HP := Box.mk (frameS_one (v := v) (k0 := 1) HTE.out hcv)
      have hyz := HVS.out clN y (by rw [hcv]; simp)
      rw [hcv] at HS2 hcl
      obtain ⟨b3, o3, e3, hc3⟩ := HS2.out 0 (by simp)
      subst e3
      simp only [List.getElem_cons_zero, Nat.add_zero] at hc3
      rw [show ([y] : List ByteArray).length = 1 from rfl]
      clear hcv HS2 HF2 HTE HVS
      go_wp2_with fail
      refine (ofLength_any y _ hyz).mono ?_
      rintro e w3 ⟨he, hb3⟩
      have HB3 := Box.mk (below_trans HB2.out hb3)
      have HR3 := Box.mk (HR2.out.keep hb3)
      clear hb3 HB2 HR2 hc3
      generalize lenS y = pp at *
      obtain ⟨k, n, er⟩ := pp
      simp only [frameV] at he
      subst he
      go_wp2_with (refine wpList_store_row rfl 30 _ _ rfl (w.heap.size) #[.int .i64 k, .int .i64 n] rfl rfl 30 _ HR3.out sizeK rfl (oneK _ _) ?_)
      (try simp only [Exit.inBlock, Exit.then])
      refine bodyPost_ret (results_row_tmpF rfl _ _ (w.heap.size) _ _ _ _ rfl (setRow_heap _ _ _ _ _ _ HR3.out) Tryd.underlying30 rfl sizeK) rfl ?_
      exact ⟨by rw [HP.out]; rfl, below_setRow HB3.out (Nat.le_refl _) _⟩
    | y :: z :: r =>
      have HP := Box.mk (show frameS v l 1 = (0, 0, 5) by rw [frameS_len HTE.out hcv, if_pos (.inl (by simp))])
      rw [hcv] at hcl
      obtain ⟨q, hq⟩ : ∃ q, (y :: z :: r).length = q := ⟨_, rfl⟩
      rw [hq] at hcl ⊢
      have hq1 : 1 < q := by rw [← hq]; simp
      clear hcv HS2 HF2 HTE HVS hq
      go_wp2_with (refine wpList_store_row rfl 30 _ _ rfl (w.heap.size) #[.int .i64 0, .int .i64 0] rfl rfl 30 _ HR2.out sizeK rfl (oneK _ _) ?_)
      (try simp only [Exit.inBlock, Exit.then])
      refine bodyPost_ret (results_row_tmpF rfl _ _ (w.heap.size) _ _ _ _ rfl (setRow_heap _ _ _ _ _ _ HR2.out) Tryd.underlying30 rfl sizeK) rfl ?_
      exact ⟨by rw [HP.out]; rfl, below_setRow HB2.out (Nat.le_refl _) _⟩

set_option maxRecDepth 100000 in
set_option maxHeartbeats 2000000 in
theorem projOfReq_any (m t : ByteArray) (v : Int) (l : List Fld) (a : Option Addr) (cap : Nat) (fr : Bool) (ba : Option Addr) (bn bc : Nat) (mm : Int) (w : World) (h : FldsIn w a l) (hz : ShortF l) (hl : l.length ≤ 1000000) (ht : total (valuesL l teN) ≤ 4000000000) (hm : MaxOk w mm) :
    Calls Tryd.prog 9 #[.agg #[.string m, .string t, .int .i64 v, .slice a l.length cap, .bool fr, .slice ba bn bc]] w fun e w' => e = .returned (frameV (frameS v l 1)) ∧ Below w.heap.size w w' := by
  have hbw := below_twoF (below_oneF w (.cells #[.string m, .string t, .int .i64 v, .slice a l.length cap, .bool fr, .slice ba bn bc] 27)) (.cells #[.int .i64 0, .int .i64 0] 30)
  have HB := Box.mk hbw
  have HR := Box.mk (show KVar ((w.alloc (.cells #[.string m, .string t, .int .i64 v, .slice a l.length cap, .bool fr, .slice ba bn bc] 27)).alloc (.cells #[.int .i64 0, .int .i64 0] 30)) (w.heap.size + 1) 0 0 by
    have h := heap_alloc_new (w.alloc (.cells #[.string m, .string t, .int .i64 v, .slice a l.length cap, .bool fr, .slice ba bn bc] 27)) (.cells #[.int .i64 0, .int .i64 0] 30)
    rw [World.size_alloc] at h; exact h)
  have H0 := Box.mk (And.intro (h.keep hbw) (And.intro hz (And.intro ht (hm.keep hbw))))
  clear h hz ht hbw hm
  go_enter Tryd.func9, Tryd.ntmps9
  go_wp2_with fail
  refine (ofFields_any v l a cap mm _ H0.out.1 H0.out.2.1 hl H0.out.2.2.1 H0.out.2.2.2).mono ?_
  rintro e w1 ⟨he, hb1⟩
  have HB1 := Box.mk (below_trans HB.out hb1)
  have HR1 := Box.mk (HR.out.keep hb1)
  generalize hq : frameS v l 1 = q at *
  have HP := Box.mk hq
  obtain ⟨k, n, er⟩ := q
  simp only [frameV] at he
  clear hb1 HB HR hq H0
  subst he
  go_wp2_with (refine wpList_store_row rfl 30 _ _ rfl (w.heap.size + 1) #[.int .i64 k, .int .i64 n] rfl rfl 30 _ HR1.out sizeK rfl (oneK _ _) ?_)
  (try simp only [Exit.inBlock, Exit.then])
  refine bodyPost_ret (results_row_tmpF rfl _ _ (w.heap.size + 1) _ _ _ _ rfl (setRow_heap _ _ _ _ _ _ HR1.out) Tryd.underlying30 rfl sizeK) rfl ?_
  exact ⟨by rw [HP.out]; rfl, below_setRow HB1.out (by omega) _⟩

set_option maxHeartbeats 2000000 in
theorem isBodiless_any (method : ByteArray) (st : Int) (w : World) :
    Calls Tryd.prog 22 #[.string method, .int .i64 st] w fun e w' => e = .returned (.bool (noBody method st)) ∧ w = w' := by
  rcases noBody_cases method st with ⟨hn, hc⟩ | ⟨hn, h0, hst⟩
  · have HP := Box.mk hn
    rcases hc with h0 | ⟨h0, h1, h2⟩ | ⟨h0, h1⟩ | ⟨h0, h1⟩
    · have hm : (method.toList == [72, 69, 65, 68]) = true := by rw [litHead, toList_eq]; simp; exact h0
      clear h0 hn
      go_enter Tryd.func22, Tryd.ntmps22
      go_wp2_with fail
      go_ret
      exact ⟨ret_bool HP.out.symm, rfl⟩
    · have hm : (method.toList == [72, 69, 65, 68]) = false := by rw [litHead, toList_eq]; simp; exact h0
      clear h0 hn
      go_enter Tryd.func22, Tryd.ntmps22
      go_wp2_with fail
      go_ret
      exact ⟨ret_bool HP.out.symm, rfl⟩
    · have hm : (method.toList == [72, 69, 65, 68]) = false := by rw [litHead, toList_eq]; simp; exact h0
      clear h0 hn
      subst h1
      go_enter Tryd.func22, Tryd.ntmps22
      go_wp2_with fail
      go_ret
      exact ⟨ret_bool HP.out.symm, rfl⟩
    · have hm : (method.toList == [72, 69, 65, 68]) = false := by rw [litHead, toList_eq]; simp; exact h0
      clear h0 hn
      subst h1
      go_enter Tryd.func22, Tryd.ntmps22
      go_wp2_with fail
      go_ret
      exact ⟨ret_bool HP.out.symm, rfl⟩
  · have HP := Box.mk hn
    have hm : (method.toList == [72, 69, 65, 68]) = false := by rw [litHead, toList_eq]; simp; exact h0
    clear h0 hn
    rcases hst with hst | ⟨hst, h2, h3⟩
    · have e2 : (st == 204) = false := by rw [beq_eq_false_iff_ne]; omega
      have e3 : (st == 304) = false := by rw [beq_eq_false_iff_ne]; omega
      go_enter Tryd.func22, Tryd.ntmps22
      go_wp2_with fail
      go_ret
      exact ⟨ret_bool HP.out.symm, rfl⟩
    · have e2 : (st == 204) = false := by rw [beq_eq_false_iff_ne]; exact h2
      have e3 : (st == 304) = false := by rw [beq_eq_false_iff_ne]; exact h3
      clear h2 h3
      go_enter Tryd.func22, Tryd.ntmps22
      go_wp2_with fail
      go_ret
      exact ⟨ret_bool ((decide_eq_false (by omega)).trans HP.out.symm), rfl⟩

theorem frameS_close (v : Int) (l : List Fld) : frameS v l 4 = if (frameS v l 1).1 = 1 then (4, (frameS v l 1).2.1, (frameS v l 1).2.2) else frameS v l 1 := by
  unfold frameS
  repeat' split
  all_goals (first | rfl | simp_all)

set_option maxRecDepth 100000 in
set_option maxHeartbeats 4000000 in
theorem projOfReply_any (method : ByteArray) (st : Int) (r : ByteArray) (v : Int) (l : List Fld) (a : Option Addr) (cap : Nat) (ba : Option Addr) (bn bc : Nat) (mm : Int) (w : World) (h : FldsIn w a l) (hz : ShortF l) (hl : l.length ≤ 1000000) (ht : total (valuesL l teN) ≤ 4000000000) (hm : MaxOk w mm) :
    Calls Tryd.prog 13 #[.string method, .agg #[.int .i64 st, .string r, .int .i64 v, .slice a l.length cap, .slice ba bn bc]] w fun e w' => e = .returned (frameV (replyS method st v l)) ∧ Below w.heap.size w w' := by
  have hbw := below_twoF (below_oneF w (.cells #[.int .i64 st, .string r, .int .i64 v, .slice a l.length cap, .slice ba bn bc] 36)) (.cells #[.int .i64 0, .int .i64 0] 30)
  have HB := Box.mk hbw
  have HR := Box.mk (show KVar ((w.alloc (.cells #[.int .i64 st, .string r, .int .i64 v, .slice a l.length cap, .slice ba bn bc] 36)).alloc (.cells #[.int .i64 0, .int .i64 0] 30)) (w.heap.size + 1) 0 0 by
    have h := heap_alloc_new (w.alloc (.cells #[.int .i64 st, .string r, .int .i64 v, .slice a l.length cap, .slice ba bn bc] 36)) (.cells #[.int .i64 0, .int .i64 0] 30)
    rw [World.size_alloc] at h; exact h)
  have H0 := Box.mk (And.intro (h.keep hbw) (And.intro hz (And.intro ht (hm.keep hbw))))
  have HPN := Box.mk (show noBody method st = true → replyS method st v l = (1, 0, 0) from fun e => by unfold replyS; rw [if_pos e])
  have HPS := Box.mk (show noBody method st = false → replyS method st v l = if (frameS v l 1).1 = 1 then (4, (frameS v l 1).2.1, (frameS v l 1).2.2) else frameS v l 1 from fun e => by unfold replyS; rw [if_neg (by rw [e]; decide), frameS_close])
  clear h hz ht hbw hm
  go_enter Tryd.func13, Tryd.ntmps13
  go_wp2_with fail
  refine (isBodiless_any method st _).mono ?_
  rintro e w1 ⟨he, rfl⟩
  cases hn : noBody method st with
  | true =>
    have HP := Box.mk (HPN.out hn)
    rw [hn] at he
    subst he
    clear hn HPN HPS
    go_wp2_with (refine wpList_store_row rfl 30 _ _ rfl (w.heap.size + 1) #[.int .i64 1, .int .i64 0] rfl rfl 30 _ HR.out sizeK rfl (oneK _ _) ?_)
    (try simp only [Exit.inBlock, Exit.then])
    refine bodyPost_ret (results_row_tmpF rfl _ _ (w.heap.size + 1) _ _ _ _ rfl (setRow_heap _ _ _ _ _ _ HR.out) Tryd.underlying30 rfl sizeK) rfl ?_
    exact ⟨by rw [HP.out]; rfl, below_setRow HB.out (by omega) _⟩
  | false =>
    have HP0 := Box.mk (HPS.out hn)
    rw [hn] at he
    subst he
    clear hn HPN HPS
    go_wp2_with fail
    refine (ofFields_any v l a cap mm _ H0.out.1 H0.out.2.1 hl H0.out.2.2.1 H0.out.2.2.2).mono ?_
    rintro e w1 ⟨he, hb1⟩
    have HB1 := Box.mk (below_trans HB.out hb1)
    have HR1 := Box.mk (HR.out.keep hb1)
    generalize frameS v l 1 = q at *
    obtain ⟨k, n, er⟩ := q
    simp only [frameV] at he
    simp only [] at HP0
    clear hb1 HB HR H0
    subst he
    by_cases hk : k = 1
    · subst hk
      have HP := Box.mk (show replyS method st v l = (4, n, er) by rw [HP0.out]; rfl)
      have HR2 := Box.mk (HR1.out.keep (below_oneF w1 (.cells #[.int .i64 4, .int .i64 n] 30)))
      have HB2 := Box.mk (below_twoF HB1.out (.cells #[.int .i64 4, .int .i64 n] 30))
      clear HP0 HR1 HB1
      go_wp2_with (refine wpList_store_row rfl 30 _ _ rfl (w.heap.size + 1) #[.int .i64 4, .int .i64 n] rfl rfl 30 _ HR2.out sizeK rfl (oneK _ _) ?_)
      (try simp only [Exit.inBlock, Exit.then])
      refine bodyPost_ret (results_row_tmpF rfl _ _ (w.heap.size + 1) _ _ _ _ rfl (setRow_heap _ _ _ _ _ _ HR2.out) Tryd.underlying30 rfl sizeK) rfl ?_
      exact ⟨by rw [HP.out]; rfl, below_setRow HB2.out (by omega) _⟩
    · have HP := Box.mk (show replyS method st v l = (k, n, er) by rw [HP0.out]; exact if_neg hk)
      have ek : (k == 1) = false := by rw [beq_eq_false_iff_ne]; exact hk
      have HR2 := Box.mk (HR1.out.keep (below_oneF w1 (.cells #[.int .i64 k, .int .i64 n] 30)))
      have HB2 := Box.mk (below_twoF HB1.out (.cells #[.int .i64 k, .int .i64 n] 30))
      clear HP0 hk HR1 HB1
      go_wp2_with (refine wpList_store_row rfl 30 _ _ rfl (w.heap.size + 1) #[.int .i64 k, .int .i64 n] rfl rfl 30 _ HR2.out sizeK rfl (oneK _ _) ?_)
      (try simp only [Exit.inBlock, Exit.then])
      refine bodyPost_ret (results_row_tmpF rfl _ _ (w.heap.size + 1) _ _ _ _ rfl (setRow_heap _ _ _ _ _ _ HR2.out) Tryd.underlying30 rfl sizeK) rfl ?_
      exact ⟨by rw [HP.out]; rfl, below_setRow HB2.out (by omega) _⟩
set_option maxRecDepth 100000 in
set_option maxHeartbeats 2000000 in
theorem projPersistent_any (v : Int) (l : List Fld) (a : Option Addr) (cap : Nat) (mm : Int) (w : World) (h : FldsIn w a l) (hz : ShortF l) (hl : l.length ≤ 1000000) (ht : total (valuesL l cnN) ≤ 4000000000) (hm : MaxOk w mm) :
    Calls Tryd.prog 15 #[.int .i64 v, .slice a l.length cap] w fun e w' => e = .returned (.bool (persS v l)) ∧ Below w.heap.size w w' := by
  have HXZ := Box.mk (show ∀ y ∈ listL (valuesL l cnN), y.size ≤ maxLen from fun y hy => by
    have := listL_small hy
    unfold maxLen; omega)
  have hxl : (listL (valuesL l cnN)).length ≤ 4000000000 := Nat.le_trans (listL_length _) ht
  have HP0 := Box.mk (show persS v l = (!inFoldL (listL (valuesL l cnN)) closeN && (decide (v = 1) || inFoldL (listL (valuesL l cnN)) aliveN)) from rfl)
  have H0 := Box.mk (And.intro h (And.intro hz (And.intro ht hm)))
  clear h hz ht hm
  go_enter Tryd.func15, Tryd.ntmps15
  go_wp2_with fail
  refine (fElements_low low_cn _ mm l a cap H0.out.1 H0.out.2.1 (by decide) hl H0.out.2.2.2 H0.out.2.2.1).mono ?_
  rintro e w1 ⟨a1, c1, rfl, hs1, hb1⟩
  have HB1 := Box.mk hb1
  have HS1 := Box.mk (StrsIn.of_at hs1)
  clear hb1 hs1
  generalize listL (valuesL l cnN) = x at *
  go_wp2_with fail
  refine (contains_any x closeN a1 c1 _ HS1.out HXZ.out (by decide) hxl).mono ?_
  rintro e w2 ⟨he, hb2⟩
  have HB2 := Box.mk (below_trans HB1.out hb2)
  have HS2 := Box.mk (HS1.out.keep hb2)
  clear hb2 HB1 HS1
  cases hc : inFoldL x closeN with
  | true =>
    have HP := Box.mk (show persS v l = false by rw [HP0.out, hc]; rfl)
    rw [hc] at he
    subst he
    clear hc HP0
    go_wp2_with fail
    go_ret
    exact ⟨ret_bool HP.out.symm, HB2.out⟩
  | false =>
    have HP1 := Box.mk (show persS v l = (decide (v = 1) || inFoldL x aliveN) by rw [HP0.out, hc]; rfl)
    rw [hc] at he
    subst he
    clear hc HP0
    by_cases hv : v = 1
    · have HP := Box.mk (show persS v l = true by rw [HP1.out, hv]; rfl)
      have ev : (v == 1) = true := by rw [hv]; rfl
      clear hv HP1
      go_wp2_with fail
      go_ret
      exact ⟨ret_bool HP.out.symm, HB2.out⟩
    · have HP := Box.mk (show persS v l = inFoldL x aliveN by rw [HP1.out, decide_eq_false hv]; rfl)
      have ev : (v == 1) = false := by rw [beq_eq_false_iff_ne]; exact hv
      clear hv HP1
      go_wp2_with fail
      refine (contains_any x aliveN a1 c1 _ HS2.out HXZ.out (by decide) hxl).mono ?_
      rintro e w3 ⟨rfl, hb3⟩
      have HB3 := Box.mk (below_trans HB2.out hb3)
      clear hb3
      generalize inFoldL x aliveN = bb at *
      go_wp2_with fail
      go_ret
      exact ⟨ret_bool HP.out.symm, HB3.out⟩
end Go.Proofs.YtkbnkiflabncjaaDoor
namespace Go.Proofs.YtkbnkiflabncjaaDoor
open Go.RowKit

theorem lt_rowM {w : World} {g : Nat} {o : Obj} (h : w.heap[g]? = some o) : g < w.heap.size := (Array.getElem?_eq_some_iff.1 h).1
theorem OwnF.one (w : World) (f : Fld) : OwnF w.heap.size (w.alloc (.cells #[.string f.1, .string f.2] 47)) (.slice (some ⟨w.heap.size, 0, none⟩) 1 1) [f] :=
  ⟨rfl, .inr ⟨_, 1, _, rfl, Nat.le_refl _, heap_alloc_new _ _, Nat.le_refl _, by decide, rfl, rfl⟩⟩
theorem OwnF.in {B : Nat} {w : World} {a : Option Addr} {l : List Fld} {n c : Nat} (h : OwnF B w (.slice a n c) l) : FldsIn w a l := by
  obtain ⟨a', c', e, h1, _⟩ := h.shape
  injection e with e1
  subst e1
  exact h1.1
def clA : Fld := (clN, ⟨#[53]⟩)
def teA : Fld := (⟨#[84, 114, 97, 110, 115, 102, 101, 114, 45, 69, 110, 99, 111, 100, 105, 110, 103]⟩, chunkedN)
theorem frame_a : frameS 1 [clA] 1 = (2, 5, 0) := by decide +kernel
theorem frame_b : frameS 1 [clA, teA] 1 = (0, 0, 5) := by decide +kernel
theorem frame_c : replyS ⟨#[71, 69, 84]⟩ 200 1 [] = (4, 0, 0) := by decide +kernel
theorem ret_frame {e : Ending} {o p : Int × Int × Int} (h : e = .returned (frameV o)) (hp : o = p) : e = .returned (frameV p) := by rw [h, hp]
theorem tinyA : ∀ f ∈ [clA, teA], TinyF f := fun f hf => by
  simp at hf
  rcases hf with rfl | rfl
  · exact ⟨by decide, by decide⟩
  · exact ⟨by decide, by decide⟩
theorem shortF_tiny {l : List Fld} (h : ∀ f ∈ l, TinyF f) : ShortF l := (smallF_tiny h).short

set_option maxRecDepth 100000 in
set_option maxHeartbeats 4000000 in
theorem awakeM_any (w : World) (mm : Int) (hm : MaxOk w mm) : Calls Tryd.prog 8 #[] w fun e w' => e = .returned (.bool true) ∧ Below w.heap.size w w' := by
  have HM := Box.mk hm
  clear hm
  have HO0 := Box.mk (OwnF.one w clA)
  have HB0 := Box.mk (below_oneF w (.cells #[.string clA.1, .string clA.2] 47))
  have HZ := Box.mk (And.intro (shortF_tiny tinyA) (show ShortF [clA] from fun f hf => shortF_tiny tinyA f (by simp at hf; subst hf; simp)))
  have HT := Box.mk (show total (valuesL [clA] teN) ≤ 4000000000 ∧ total (valuesL [clA, teA] teN) ≤ 4000000000 ∧ total (valuesL [] teN) ≤ 4000000000 by decide +kernel)
  go_enter Tryd.func8, Tryd.ntmps8
  go_wp2_with fail
  refine (projOfReq_any ⟨#[]⟩ ⟨#[]⟩ 1 [clA] _ 1 false none 0 0 mm _ HO0.out.in HZ.out.2 (by decide) HT.out.1 (HM.out.keep HB0.out)).mono ?_
  rintro e w1 ⟨he, hb1⟩
  have he1 := ret_frame he frame_a
  simp only [frameV] at he1
  subst he1
  have hb1' := below_trans hb1 (below_oneF w1 (.cells #[.int .i64 2, .int .i64 5] 30))
  have HB1 := Box.mk (below_trans HB0.out hb1')
  have HO1 := Box.mk (HO0.out.keep hb1')
  have HK1 := Box.mk (show KVar (w1.alloc (.cells #[.int .i64 2, .int .i64 5] 30)) w1.heap.size 2 5 from heap_alloc_new _ _)
  have HL := Box.mk (show w.heap.size < w1.heap.size by have := hb1.size; rw [World.size_alloc] at this; omega)
  clear he hb1 hb1' HO0 HB0
  have hsz : w.heap.size ≤ w1.heap.size + 1 := by have := HB1.out.size; rwa [World.size_alloc] at this
  go_wp2_with (at_builtin; refine wpList_append_ownf _ rfl _ _ rfl rfl (HO1.out.keep (below_oneF _ (.cells #[.string teA.1, .string teA.2] 47))) rfl (y := teA) ?c1 ?c2 (by decide) (by simp; omega) ?c3)
  case c1 => exact new_cellF2 w1 _ _ _ 0
  case c2 => exact new_cellF2 w1 _ _ _ 1
  case c3 =>
    intro v2 w2 hown hgrow
    have hb4 := below_oneF (w1.alloc (.cells #[.int .i64 2, .int .i64 5] 30)) (.cells #[.string teA.1, .string teA.2] 47)
    have HB2 := Box.mk (show Below w.heap.size w w2 from (below_trans HB1.out hb4).grown hgrow (by simp; omega) (fun k e => by
      have : k = w.heap.size := (Option.some.inj e).symm
      omega))
    have HK2 := Box.mk (show KVar w2 w1.heap.size 2 5 from (hgrow.block _ (by simp; omega) (fun e => by have h8 : w1.heap.size = w.heap.size := Option.some.inj e; have h9 : w.heap.size < w1.heap.size := HL.out; omega)).trans (HK1.out.keep hb4))
    have hown2 : OwnF w.heap.size w2 v2 [clA, teA] := hown
    obtain ⟨sa, sc, hv2, hF, _⟩ := hown2.shape
    rw [show ([clA, teA] : List Fld).length = 2 from rfl] at hv2
    subst hv2
    have HF2 := Box.mk hF.1
    clear hown hown2 hgrow hF HO1 HB1 HK1 hsz HL
    go_wp2_with fail
    refine (projOfReq_any ⟨#[]⟩ ⟨#[]⟩ 1 [clA, teA] _ sc false none 0 0 mm _ HF2.out HZ.out.1 (by decide) HT.out.2.1 (HM.out.keep HB2.out)).mono ?_
    rintro e w3 ⟨he, hb3⟩
    have he1 := ret_frame he frame_b
    simp only [frameV] at he1
    subst he1
    have hb3' := below_trans hb3 (below_oneF w3 (.cells #[.int .i64 0, .int .i64 0] 30))
    have HB3 := Box.mk (below_trans HB2.out hb3')
    have HK3 := Box.mk (HK2.out.keep hb3')
    clear he hb3 hb3' HB2 HK2 HF2
    go_wp2_with fail
    refine (projOfReply_any ⟨#[71, 69, 84]⟩ 200 ⟨#[]⟩ 1 [] none 0 none 0 0 mm _ (FldsIn.nil _ _) (fun f hf => by simp at hf) (by decide) HT.out.2.2 (HM.out.keep HB3.out)).mono ?_
    rintro e w4 ⟨he, hb4⟩
    have he1 := ret_frame he frame_c
    simp only [frameV] at he1
    subst he1
    have HB4 := Box.mk (below_trans HB3.out hb4)
    have hk4 := HK3.out.keep hb4
    have hlt : w1.heap.size < w4.heap.size := lt_rowM hk4
    have hc0 : w4.cell? ⟨w1.heap.size, 0, none⟩ = some (.int .i64 2) := by rw [cell_of_row _ _ _ _ _ _ hk4]; rfl
    have hc1 : w4.cell? ⟨w1.heap.size, 1, none⟩ = some (.int .i64 5) := by rw [cell_of_row _ _ _ _ _ _ hk4]; rfl
    clear he hb4 HB3 HK3 hk4
    have HB5 := Box.mk (below_trans HB4.out (below_oneF w4 (.cells #[.int .i64 4, .int .i64 0] 30)))
    go_wp2_with fail
    go_ret
    exact ⟨rfl, HB5.out⟩
end Go.Proofs.YtkbnkiflabncjaaDoor
namespace Go.Proofs.YtkbnkiflabncjaaDoor
open Go.RowKit

theorem row6M {w : World} {g : Nat} {T : TypeId} {u0 u1 u2 u3 u4 u5 : Value} (h : w.heap[g]? = some (.cells #[u0, u1, u2, u3, u4, u5] T (0, 0))) : g < w.heap.size ∧ w.cell? ⟨g, 0, none⟩ = some u0 ∧ w.cell? ⟨g, 1, none⟩ = some u1 ∧ w.cell? ⟨g, 2, none⟩ = some u2 ∧ w.cell? ⟨g, 3, none⟩ = some u3 ∧ w.cell? ⟨g, 4, none⟩ = some u4 ∧ w.cell? ⟨g, 5, none⟩ = some u5 := by
  refine ⟨(Array.getElem?_eq_some_iff.1 h).1, ?_, ?_, ?_, ?_, ?_, ?_⟩ <;> rw [cell_of_row _ _ _ _ _ _ h] <;> rfl
section
variable (b : Option Addr) (nb cb : Nat) (lr : List Fld) (ar : Option Addr) (cr : Nat) (minor : Int) (wild : Bool) (mm : Int) (w : World)
set_option maxRecDepth 100000 in
set_option maxHeartbeats 4000000 in
theorem framingRequest_any (hi : IntsF w b nb) (hn : nb ≤ maxLen) (hr : FldsIn w ar lr) (hrs : SmallF lr) (hm : MaxOk w mm) :
    Calls Tryd.prog 3 #[.slice b nb cb, .slice ar lr.length cr, .int .i64 minor, .bool wild] w fun e w' => e = .returned (.bool true) ∧ Below w.heap.size w w' := by
  have HM := Box.mk hm
  have HI := Box.mk (And.intro hi hn)
  have HRR := Box.mk (And.intro hr hrs)
  clear hm hi hn hr hrs
  go_enter Tryd.func3, Tryd.ntmps3
  go_wp2_with fail
  refine (framed_any b nb cb w HI.out.1 HI.out.2).mono ?_
  rintro e w1 ⟨l, a, c, rfl, hl, hlc, hl5, htn, _, hb1⟩
  generalize hv : bits BinOp.and IntKind.i64 minor 1 = v
  clear hv
  have hb1' := below_trans hb1 (below_oneF w1 (.cells #[.string ⟨#[]⟩, .string ⟨#[]⟩, .int .i64 v, .slice a l.length c, .bool false, .slice none 0 0] 27))
  have HB0 := Box.mk hb1'
  have HV0 := Box.mk (heap_alloc_new w1 (.cells #[.string ⟨#[]⟩, .string ⟨#[]⟩, .int .i64 v, .slice a l.length c, .bool false, .slice none 0 0] 27))
  have HFZ := Box.mk (And.intro (hl.1.keep (below_oneF w1 (.cells #[.string ⟨#[]⟩, .string ⟨#[]⟩, .int .i64 v, .slice a l.length c, .bool false, .slice none 0 0] 27))) (smallF_tiny htn))
  have HR0 := Box.mk (HRR.out.1.keep hb1')
  have HLE := Box.mk hb1.size
  have HWB := Box.mk hb1
  clear hl htn hb1 hb1' hlc
  cases wild with
  | false =>
    have HB := HB0
    have HV := HV0
    have HF := Box.mk HFZ.out.1
    have HZ := Box.mk HFZ.out.2
    clear HB0 HV0 HFZ HR0 HRR
    by_cases h40 : 40 < l.length
    · omega
    · have HT := Box.mk (show total (valuesL l teN) ≤ 4000000000 from Nat.le_trans (total_values HZ.out teN) (by omega))
      obtain ⟨hlt, hc0, hc1, hc2, hc3, hc4, hc5⟩ := row6M HV.out
      go_wp2_with fail
      refine (projOfReq_any ⟨#[]⟩ ⟨#[]⟩ v l a c false none 0 0 mm _ HF.out HZ.out.short (by omega) HT.out (HM.out.keep HB.out)).mono ?_
      rintro e w3 ⟨he, hb3⟩
      generalize hq : frameS v l 1 = q at he
      have HQ := Box.mk hq
      obtain ⟨k, n, er⟩ := q
      simp only [frameV] at he
      clear hq hc0 hc1 hc2 hc3 hc4 hc5
      subst he
      have hb3' := below_trans hb3 (below_oneF w3 (.cells #[.int .i64 k, .int .i64 n] 30))
      have HB3 := Box.mk (below_trans HB.out hb3')
      have HF3 := Box.mk (HF.out.keep hb3')
      obtain ⟨hlt3, hc0, hc1, hc2, hc3, hc4, hc5⟩ := row6M ((hb3.block _ (lt_rowM HV.out)).trans HV.out)
      have HV3 := Box.mk ((hb3'.block _ (lt_rowM HV.out)).trans HV.out)
      have HK3 := Box.mk (show KVar (w3.alloc (.cells #[.int .i64 k, .int .i64 n] 30)) w3.heap.size k n from heap_alloc_new _ _)
      clear hb3 hb3' HB HF HV
      go_wp2_with fail
      refine (refOfReq_any ⟨#[]⟩ ⟨#[]⟩ v l a c false none 0 0 _ HF3.out HZ.out.short (by omega) HT.out).mono ?_
      rintro e w4 ⟨he, hb4⟩
      rw [HQ.out] at he
      simp only [frameV] at he
      subst he
      have hb4' := below_trans hb4 (below_oneF w4 (.cells #[.int .i64 k, .int .i64 n] 30))
      have HB4 := Box.mk (below_trans HB3.out hb4')
      have hk4 := HK3.out.keep hb4
      have hlt4 : w3.heap.size < w4.heap.size := lt_rowM hk4
      have hd0 : w4.cell? ⟨w3.heap.size, 0, none⟩ = some (.int .i64 k) := by rw [cell_of_row _ _ _ _ _ _ hk4]; rfl
      have hd1 : w4.cell? ⟨w3.heap.size, 1, none⟩ = some (.int .i64 n) := by rw [cell_of_row _ _ _ _ _ _ hk4]; rfl
      clear hb4 hb4' HB3 HF3 HV3 HK3 hk4 hc0 hc1 hc2 hc3 hc4 hc5
      go_wp2_with fail
      refine (awakeM_any _ mm (HM.out.keep HB4.out)).mono ?_
      rintro e w5 ⟨rfl, hb5⟩
      have HB5 := Box.mk (below_trans HB4.out hb5)
      clear hb5
      go_wp2_with fail
      go_ret
      exact ⟨rfl, HB5.out⟩
  | true =>
    clear HFZ hl5
    have HBW := Box.mk (HWB.out)
    have HB := Box.mk (below_trans HWB.out (below_oneF w1 (.cells #[.string ⟨#[]⟩, .string ⟨#[]⟩, .int .i64 minor, .slice ar lr.length cr, .bool false, .slice none 0 0] 27)))
    have HV := Box.mk (heap_alloc_new w1 (.cells #[.string ⟨#[]⟩, .string ⟨#[]⟩, .int .i64 minor, .slice ar lr.length cr, .bool false, .slice none 0 0] 27))
    have HF := Box.mk (HRR.out.1.keep HB.out)
    have HZ := Box.mk HRR.out.2
    clear HR0 HRR HB0 HV0 HLE HBW
    by_cases h40 : 40 < lr.length
    · skip
      obtain ⟨hlt, hc0, hc1, hc2, hc3, hc4, hc5⟩ := row6M HV.out
      clear HF HZ
      go_wp2_with fail
      refine (awakeM_any _ mm (HM.out.keep HB.out)).mono ?_
      rintro e w3 ⟨rfl, hb3⟩
      have HB3 := Box.mk (below_trans HB.out hb3)
      clear hb3
      go_wp2_with fail
      go_ret
      exact ⟨rfl, HB3.out⟩
    · have HT := Box.mk (show total (valuesL lr teN) ≤ 4000000000 from Nat.le_trans (total_values HZ.out teN) (by omega))
      obtain ⟨hlt, hc0, hc1, hc2, hc3, hc4, hc5⟩ := row6M HV.out
      go_wp2_with fail
      refine (projOfReq_any ⟨#[]⟩ ⟨#[]⟩ minor lr ar cr false none 0 0 mm _ HF.out HZ.out.short (by omega) HT.out (HM.out.keep HB.out)).mono ?_
      rintro e w3 ⟨he, hb3⟩
      generalize hq : frameS minor lr 1 = q at he
      have HQ := Box.mk hq
      obtain ⟨k, n, er⟩ := q
      simp only [frameV] at he
      clear hq hc0 hc1 hc2 hc3 hc4 hc5
      subst he
      have hb3' := below_trans hb3 (below_oneF w3 (.cells #[.int .i64 k, .int .i64 n] 30))
      have HB3 := Box.mk (below_trans HB.out hb3')
      have HF3 := Box.mk (HF.out.keep hb3')
      obtain ⟨hlt3, hc0, hc1, hc2, hc3, hc4, hc5⟩ := row6M ((hb3.block _ (lt_rowM HV.out)).trans HV.out)
      have HV3 := Box.mk ((hb3'.block _ (lt_rowM HV.out)).trans HV.out)
      have HK3 := Box.mk (show KVar (w3.alloc (.cells #[.int .i64 k, .int .i64 n] 30)) w3.heap.size k n from heap_alloc_new _ _)
      clear hb3 hb3' HB HF HV
      go_wp2_with fail
      refine (refOfReq_any ⟨#[]⟩ ⟨#[]⟩ minor lr ar cr false none 0 0 _ HF3.out HZ.out.short (by omega) HT.out).mono ?_
      rintro e w4 ⟨he, hb4⟩
      rw [HQ.out] at he
      simp only [frameV] at he
      subst he
      have hb4' := below_trans hb4 (below_oneF w4 (.cells #[.int .i64 k, .int .i64 n] 30))
      have HB4 := Box.mk (below_trans HB3.out hb4')
      have hk4 := HK3.out.keep hb4
      have hlt4 : w3.heap.size < w4.heap.size := lt_rowM hk4
      have hd0 : w4.cell? ⟨w3.heap.size, 0, none⟩ = some (.int .i64 k) := by rw [cell_of_row _ _ _ _ _ _ hk4]; rfl
      have hd1 : w4.cell? ⟨w3.heap.size, 1, none⟩ = some (.int .i64 n) := by rw [cell_of_row _ _ _ _ _ _ hk4]; rfl
      clear hb4 hb4' HB3 HF3 HV3 HK3 hk4 hc0 hc1 hc2 hc3 hc4 hc5
      go_wp2_with fail
      refine (awakeM_any _ mm (HM.out.keep HB4.out)).mono ?_
      rintro e w5 ⟨rfl, hb5⟩
      have HB5 := Box.mk (below_trans HB4.out hb5)
      clear hb5
      go_wp2_with fail
      go_ret
      exact ⟨rfl, HB5.out⟩
end
end Go.Proofs.YtkbnkiflabncjaaDoor
namespace Go.Proofs.YtkbnkiflabncjaaDoor
open Go.ChangeShapes Go.WideShapes Go.ChangeAt Go.RowKit

theorem fields_none {H : Type} {enc : TypeId × Value → H} {W : World} {a : Option Addr} {len cap : Nat} {d : DataW H} {ps : List MemPlace} {base : Nat}
    (h : DataW.Trod enc Tryd.prog W base (fun _ => true) true 23 (.slice a len cap) d ps) : a = none → len = 0 ∧ cap = 0 := by
  obtain ⟨fuel, hf⟩ := h
  rcases Go.Deep.open_slice_pairs Tryd.underlying23 Tryd.underlying47 (by kernel_rfl) (by kernel_rfl) (by kernel_rfl) (by kernel_rfl) (by kernel_rfl) hf with ⟨hcs, _⟩ | ⟨x, n, c, m, k, V0, V1, D0, D1, P0, P1, hcs, _⟩
  · simp [Value.cells] at hcs
    obtain ⟨rfl, rfl, rfl⟩ := hcs
    exact fun _ => ⟨rfl, rfl⟩
  · simp [Value.cells] at hcs
    obtain ⟨rfl, rfl, rfl⟩ := hcs
    intro e; cases e
theorem open_fieldsC {H : Type} {enc : TypeId × Value → H} {W : World} {a : Option Addr} {len cap : Nat} {d : DataW H} {ps : List MemPlace} {base : Nat}
    (h : DataW.Trod enc Tryd.prog W base (fun _ => true) true 23 (.slice a len cap) d ps) :
    ∃ l : List Fld, len = l.length ∧ FldsC W a l cap ∧ l.length ≤ cap ∧ cap ≤ maxLen ∧ ShortF l ∧ (Rows.uptoBulk d ≤ 1048576 → SmallF l) := by
  obtain ⟨l, rfl, h1, h2, h3, h4, h5⟩ := open_fields h
  refine ⟨l, rfl, ⟨h1, fun e => ?_⟩, h2, h3, h4, fun hb f hf => ⟨Nat.le_trans (h5 f hf).1 hb, Nat.le_trans (h5 f hf).2 hb⟩⟩
  obtain ⟨e1, e2⟩ := fields_none h e
  exact ⟨List.eq_nil_of_length_eq_zero e1, e2⟩
theorem i64_ofF {x : Int} (h : (Lit.int .i64 x).wf = true) : -9223372036854775808 ≤ x ∧ x ≤ 9223372036854775807 := bounds_i64 h
theorem open_intsf {H : Type} {enc : TypeId × Value → H} {W : World} {a : Option Addr} {len cap : Nat} {d : DataW H} {ps : List MemPlace} {base : Nat}
    (h : DataW.Trod enc Tryd.prog W base (fun _ => true) true 22 (.slice a len cap) d ps) : IntsF W a len ∧ len ≤ maxLen := by
  obtain ⟨fuel, hf⟩ := h
  rcases open_ints Tryd.underlying22 Tryd.underlying3 (by kernel_rfl) hf with ⟨hcs, _⟩ | ⟨x, l, c, zs, hcs, _, hl, hm, hz, _, hcell, hwz⟩
  · simp [Value.cells] at hcs
    obtain ⟨rfl, rfl, rfl⟩ := hcs
    exact ⟨fun k hk => absurd hk (Nat.not_lt_zero _), Nat.zero_le _⟩
  · simp [Value.cells] at hcs
    obtain ⟨rfl, rfl, rfl⟩ := hcs
    have hz' : zs.length = cap := by simpa using hz
    refine ⟨fun k hk => ?_, Nat.le_trans hl hm⟩
    have hk' : k < zs.length := by omega
    have e : zs.getD k 0 = zs[k] := by rw [List.getD_eq_getElem?_getD, List.getElem?_eq_getElem hk']; rfl
    refine ⟨x, zs[k], rfl, by rw [hcell k hk', e], i64_ofF (hwz zs[k] (List.getElem_mem _))⟩
end Go.Proofs.YtkbnkiflabncjaaDoor
namespace Go.Proofs.YtkbnkiflabncjaaDoor
open Go.RowKit

def hexS : ByteArray := ⟨#[48, 49, 50, 51, 52, 53, 54, 55, 56, 57, 97, 98, 99, 100, 101, 102]⟩
theorem hexS_piece_fin : ∀ d : Fin 16, (hexS.extract d.val (d.val + 1)).data.toList = [dgc d.val] := by decide +kernel
theorem hexS_piece {d : Nat} (h : d < 16) : (⟨#[48, 49, 50, 51, 52, 53, 54, 55, 56, 57, 97, 98, 99, 100, 101, 102]⟩ : ByteArray).extract d (d + 1) = ⟨#[dgc d]⟩ := by
  have := hexS_piece_fin ⟨d, h⟩
  apply ByteArray.ext
  apply Array.toList_inj.1
  exact this
theorem one_cat (c : UInt8) (t : List UInt8) : (⟨#[c]⟩ : ByteArray) ++ ⟨t.toArray⟩ = ⟨(c :: t).toArray⟩ := by
  apply ByteArray.ext; simp

set_option maxHeartbeats 1000000 in
theorem refBase10 (n : Nat) (w : World) (hn : (n : Int) ≤ 9223372036854775807) :
    Calls Tryd.prog 28 #[.int .i64 n, .int .i64 10] w fun e w' => e = .returned (.string (numeral 10 n)) ∧ ∃ j, w' = w.drewN j := by
  go_enter Tryd.func28, Tryd.ntmps28
  go_wp2
  go_loopw [5, 0] (fun s m wr => ∃ (k : Nat) (t : List UInt8) (j : Nat), (t.length : Int) + k ≤ n ∧ (t = [] ∨ 0 < k) ∧ m = .int .i64 k ∧ s = .string ⟨t.toArray⟩ ∧ wr = w.drewN j ∧ Hid (digs 10 n = digs 10 k ++ t)) (fun _ m _ => (intOf m).toNat)
  case atStart => exact ⟨n, [], 0, by simp, .inl rfl, rfl, rfl, by simp [World.drewN_zero], Lib.hid (by simp)⟩
  case round =>
    obtain ⟨k, t, j, hk, hne, rfl, rfl, rfl, HD⟩ := hrel
    have HNE := Lib.hid hne
    have hlen : t.length + 1 ≤ 9223372036854775807 := by
      rcases hne with rfl | h
      · simp
      · omega
    clear hne
    obtain ⟨d, hd⟩ : ∃ d : Nat, k % 10 = d := ⟨_, rfl⟩
    have hd9 : d < 10 := by omega
    have HDD := Lib.hid hd
    have hr : ((k : Int).tmod 10) = (d : Int) := by rw [Int.tmod_eq_emod_of_nonneg (by omega)]; omega
    clear hd
    have hw1 : IntKind.i64.wrap (d : Int) = (d : Int) := IntWalk.i64_in _ (by omega)
    have hw2 : IntKind.i64.wrap ((d : Int) + 1) = (d : Int) + 1 := IntWalk.i64_in _ (by omega)
    have hn1 : ((d : Int) + 1).toNat = d + 1 := by omega
    have hi1 : (0 : Int) ≤ d := by omega
    have hi2 : (0 : Int) ≤ d + 1 := by omega
    have hi3 : (d : Int) + 1 ≤ 16 := by omega
    have hi4 : d + 1 ≤ 16 := by omega
    have hi5 : (d : Int) ≤ d + 1 := by omega
    have hp := hexS_piece (d := d) (by omega)
    have hadd : ∀ W, (Op.stringOp .add ⟨#[dgc d]⟩ ⟨t.toArray⟩).run Tryd.prog W = .ok (.string ⟨(dgc d :: t).toArray⟩) W := fun W => by
      have h := run_string_add_sum (P := Tryd.prog) (w := W) ⟨#[dgc d]⟩ ⟨t.toArray⟩ (by show 1 + (t.toArray).size ≤ _; simp; omega)
      rw [one_cat] at h; exact h
    go_wp2_with fail
    go_quiet (fail)
    clear hr hw1 hw2 hn1 hp hadd hi4
    have hq : (k : Int) / 10 = ((k / 10 : Nat) : Int) := by omega
    by_cases hz : k / 10 = 0
    · have hz1 : (k : Int) / 10 = 0 := by omega
      have HZ := Lib.hid hz
      clear hz hq
      go_wp2
      go_ret
      refine ⟨ret_str ?_, _, rfl⟩
      have hs : k < 10 := by have := HZ.out; omega
      unfold numeral
      rw [HD.out, digs_small hs]
      have : k % 10 = k := Nat.mod_eq_of_lt hs
      rw [← HDD.out, this]; rfl
    · have HZ := Lib.hid hz
      have hz2 : ¬ (k : Int) / 10 = 0 := by omega
      clear hz hq
      go_wp2
      go_roundw
      case rel =>
        have hz := HZ.out
        refine ⟨k / 10, dgc d :: t, _, by simp; omega, .inr (by omega), by first | rfl | simp, rfl, rfl, Lib.hid ?_⟩
        rw [HD.out, digs_big (by omega) (show ¬ k < 10 by omega), ← HDD.out]; simp
      case measure => have hz := HZ.out; simp [intOf]; omega

def fmtS (b : Nat) (n : Int) : ByteArray := if n < 0 then ⟨#[]⟩ else numeral b n.toNat
theorem below_drewN0 (w : World) (j : Nat) : Below w.heap.size w (w.drewN j) := ⟨rfl, rfl, rfl, Nat.le_refl _, fun _ _ => rfl⟩
theorem refBase_neg (n b : Int) (w : World) (hn : n < 0) :
    Calls Tryd.prog 28 #[.int .i64 n, .int .i64 b] w fun e w' => e = .returned (.string ⟨#[]⟩) ∧ w = w' := by
  go_enter Tryd.func28, Tryd.ntmps28
  go_wp2
  go_ret
  exact ⟨rfl, rfl⟩

theorem refDecimal_any (n : Int) (w : World) (h0 : -9223372036854775808 ≤ n) (h1 : n ≤ 9223372036854775807) :
    Calls Tryd.prog 19 #[.int .i64 n] w fun e w' => e = .returned (.string (fmtS 10 n)) ∧ Below w.heap.size w w' := by
  by_cases hn : n < 0
  · go_enter Tryd.func19, Tryd.ntmps19
    go_wp2_with (go_at_call 28; refine (refBase_neg _ _ _ hn).mono ?_; rintro e w' ⟨rfl, rfl⟩)
    go_ret
    exact ⟨ret_str (by unfold fmtS; rw [if_pos hn]), Below.refl _ _⟩
  · obtain ⟨k, rfl⟩ : ∃ k : Nat, n = k := ⟨n.toNat, by omega⟩
    go_enter Tryd.func19, Tryd.ntmps19
    go_wp2_with (go_at_call 28; refine (refBase10 _ _ (by omega)).mono ?_; rintro e w' ⟨rfl, j, rfl⟩)
    go_ret
    exact ⟨ret_str (by unfold fmtS; rw [if_neg (by omega)]; rfl), below_drewN0 _ _⟩
end Go.Proofs.YtkbnkiflabncjaaDoor
namespace Go.Proofs.YtkbnkiflabncjaaDoor
open Go.RowKit

section
variable {Q : Exit → Act → World → Prop} {a : Act} {w : World} {o : Oper} {s : Spec}
theorem loc_cell {x : Operand} {t : TypeId} (ho : o.op = .load t x) {p : Addr} (hx : a.eval x = .pointer (some p)) {v : Value} (hc : w.cell? p = some v) (ht : (isAgg t).run Tryd.prog w = .ok false w) (hs : s.p v w) :
    o.wp Tryd.prog a w (fun a' w' => ∃ v, a' = a.put o.dst v ∧ Below w.heap.size w w' ∧ s.p v w') Q :=
  loc_load ho (v := v) (by
    rw [hx]
    simp [Instr.loadAt, Instr.sureAddr, loadVar, hc, ht]) hs
theorem agg_int (w : World) : (isAgg 3).run Tryd.prog w = .ok false w := by
  unfold isAgg; rw [Sem.run_bind, run_underlying Tryd.underlying3 w]; rfl
end

end Go.Proofs.YtkbnkiflabncjaaDoor
namespace Go.Proofs.YtkbnkiflabncjaaDoor
open Go.RowKit

section
variable {Q : Exit → Act → World → Prop} {a : Act} {w : World} {o : Oper} {s : Spec}
theorem run_fieldA (W : World) (g i : Nat) (h : i < 5) : (Instr.fieldAt 36 (.pointer (some ⟨g, 0, none⟩)) i).run Tryd.prog W = .ok (.pointer (some ⟨g, i, none⟩)) W := by
  match i, h with
  | 0, _ => simp [Instr.fieldAt, run_underlying Tryd.underlying36, Instr.sureAddr, fieldPlace, Addr.add]
  | 1, _ => simp [Instr.fieldAt, run_underlying Tryd.underlying36, Instr.sureAddr, fieldPlace, Addr.add]
  | 2, _ => simp [Instr.fieldAt, run_underlying Tryd.underlying36, Instr.sureAddr, fieldPlace, Addr.add]
  | 3, _ => simp [Instr.fieldAt, run_underlying Tryd.underlying36, Instr.sureAddr, fieldPlace, Addr.add]
  | 4, _ => simp [Instr.fieldAt, run_underlying Tryd.underlying36, Instr.sureAddr, fieldPlace, Addr.add]
theorem loc_fieldA {x : Operand} {i : Nat} (ho : o.op = .fieldAddr 36 x i) {g : Nat} (hx : a.eval x = .pointer (some ⟨g, 0, none⟩)) (hi : i < 5) (hs : s.p (.pointer (some ⟨g, i, none⟩)) w) :
    o.wp Tryd.prog a w (fun a' w' => ∃ v, a' = a.put o.dst v ∧ Below w.heap.size w w' ∧ s.p v w') Q :=
  loc_run (v := .pointer (some ⟨g, i, none⟩)) (by unfold execOp; rw [ho]; simp only [hx, Sem.run_bind, run_fieldA _ _ _ hi, Result.andThen_ok, Sem.run_pure]) (Below.refl _ _) hs
end

end Go.Proofs.YtkbnkiflabncjaaDoor
