/- A formatted head is parsed to what it was made of: plain mathematics. The law HeadTwice. The law HeadFormat. The law FieldValues. The contract of the law AsciiList. Frames of messages: what is said of them; the reference's frame, OfRequest, OfReply, Persistent. OfRequest, OfReply and Persistent of the reference. Messages that are written and read again: plain mathematics (reasons, the head of a text reply). Chunked bodies: the state of the decoder, one byte, many bytes. The reference's step: bytes of a line that is not complete. The reference's step: a line that ends with CR. The decoder's states stay in order; the reference's step in one contract. The reference's Feed. The reference's Encode. Opening a slice of numbers; the tables out of the listed variables. Writing messages: the table of reasons; Reason, Make and Text of package writer; awake of the laws. Writing messages: a formatted head that the caller may append to; join; Request and Reply of package writer and of the reference. The reader of messages: its state, what Next does. What heads lead to: sizes. The reference's reader: a head that is not complete, or too long. Write: a text that comes in pieces. The reference's reader: a reply whose head is not in order. The reference's reader: the region that sets the new state: local laws. The reference's reader: a reply whose head is in order. -/
import Derived.Test.YteoadfckcilalaaGreatDoorPk1
import Derived.Test.YteoadfckcilalaaGreatDoorPk2
import Derived.Test.YteoadfckcilalaaGreatDoorPk3
import Derived.Test.YteoadfckcilalaaGreatDoorPk4
import Derived.Test.YteoadfckcilalaaGreatDoorPk5
import Derived.Test.YteoadfckcilalaaGreatDoorPk6
import Derived.Test.YteoadfckcilalaaGreatDoorRows
import Derived.WalkKit
import Derived.WalkSpells
import Derived.WalkLawsBesides
import Derived.BigQuiet
import Derived.Deep.QuietTactic
import Derived.Lib.Bytealg
import Derived.Lib.IndexLaws
import Derived.Lib.Hide
import Derived.Laws.IdiomStrings
import Derived.Lib.SlTrimSet
import Derived.Lib.IndexBytes
import Derived.Lib.Split
import Derived.Deep.AppendLies
import Derived.Shelf.Strings.SlTrimAscii
import Derived.Shelf.Strings.SplitShaped
import Derived.Shelf.LaysM
import Derived.Shelf.Strings.BuilderK
import Derived.Shelf.Strconv.Itoa4
import Derived.Shelf.Strings.Prefix
import Derived.Shelf.Bytes.SlIndexWhole
import Derived.Test.YteoadfckcilalaaGreatDoorProg
import Derived.Lib.SplitLaws
import Derived.WalkSmall
import Derived.ProofKit
import Derived.OpenShut
import Derived.Lib.Strings
import Derived.SliceStrings
import Derived.Deep.Quiet
import Derived.Tactics
import Derived.KernelRfl
import Derived.Below
import Derived.Laws.Bits64
import Derived.Lib.SlBytesConst
import Derived.Maps.AppendAt
import Derived.Laws.AppendOwnNone
import Derived.Great.BuildSlice
import Derived.Laws.Rows
import Derived.Laws.BitsAllLaws
import Derived.Laws.Shifts
import Derived.Maps.OwnOps
import Derived.Maps.OwnSet
import Derived.Deep.SlicePairs
import Derived.Lib.AppendZerosOnto
import Derived.Lib.AppendStr
import Derived.Laws.CopyOwn
import Derived.OwnWalk
import Derived.Laws.Strings3
import Derived.Laws.Concat
import Derived.Lib.ItoaMem
import Derived.IntWalk
import Derived.Laws.RangeAny
import Derived.LoopTactic
import Derived.Sort.Grow
import Derived.Lib.ConvBytes
import Derived.Lib.LaidTab
import Derived.LaidSub
import Derived.Laws.Bits64b
import Derived.Deep.DeepCutAuto
import Derived.Deep.CutBlock
import Derived.Lib.FrozenHead2
import Derived.Deep.RegionHeld3
import Derived.Deep.Matrix
import Derived.MakeChecks
import Derived.Deep.MidRow
import Derived.Laws.Tables
import Derived.Deep.WholeRow
import Derived.StillTailTactics
namespace Go.Proofs.YteoadfckcilalaaGreatDoor
open Go.RowKit

/-- No CR and no LF. -/
def noCL (l : List UInt8) : Prop := ∀ c ∈ l, ¬ c = 13 ∧ ¬ c = 10
theorem noCL.app {a b : List UInt8} (ha : noCL a) (hb : noCL b) : noCL (a ++ b) := fun c hc => by
  rcases List.mem_append.1 hc with h | h
  · exact ha c h
  · exact hb c h
theorem lines_word : ∀ (l cur r : List UInt8), noCL l → linesGo cur (l ++ 13 :: 10 :: r) = (linesGo [] r).map (⟨(cur ++ l).toArray⟩ :: ·)
  | [], cur, r, _ => by
    rw [List.nil_append, lines_more (by decide) (fun _ => rfl), lines_end (by simp), List.dropLast_concat, List.append_nil]
  | c :: l, cur, r, h => by
    have hc := h c (List.mem_cons_self ..)
    rw [List.cons_append, lines_more hc.2 (fun e => absurd e hc.1), lines_word l (cur ++ [c]) r (fun x hx => h x (List.mem_cons_of_mem _ hx)), List.append_assoc]
    rfl
def wordsB (ws : List (List UInt8)) : List UInt8 := ws.flatMap (· ++ [13, 10])
theorem wordsB_cons (w : List UInt8) (ws : List (List UInt8)) : wordsB (w :: ws) = w ++ 13 :: 10 :: wordsB ws := by
  unfold wordsB; rw [List.flatMap_cons, List.append_assoc]; rfl
theorem lines_words : ∀ ws : List (List UInt8), (∀ w ∈ ws, noCL w) → linesGo [] (wordsB ws) = some (ws.map fun w => (⟨w.toArray⟩ : ByteArray))
  | [], _ => by rw [show wordsB [] = [] from rfl, lines_nil]; rfl
  | w :: ws, h => by
    rw [wordsB_cons, lines_word w [] _ (h w (List.mem_cons_self ..)), lines_words ws (fun x hx => h x (List.mem_cons_of_mem _ hx))]
    rfl
theorem endGo_word : ∀ (l r : List UInt8) (i : Nat), noCL l → endGo i (l ++ r) = endGo (i + l.length) r
  | [], r, i, _ => rfl
  | c :: l, r, i, h => by
    have hc := h c (List.mem_cons_self ..)
    rw [List.cons_append, endGo_cons, if_neg (fun e => by
      have := congrArg List.head? e
      rw [List.take_succ_cons] at this
      exact hc.1 (Option.some.inj this)), endGo_word l r (i + 1) (fun x hx => h x (List.mem_cons_of_mem _ hx)), List.length_cons, show i + 1 + l.length = i + (l.length + 1) by omega]
theorem end_words : ∀ (ws : List (List UInt8)) (i : Nat), ¬ ws = [] → (∀ w ∈ ws, noCL w ∧ ¬ w = []) → endGo i (wordsB ws ++ [13, 10]) = ((i + (wordsB ws).length + 2 : Nat) : Int)
  | [], _, h, _ => absurd rfl h
  | w :: ws, i, _, h => by
    have hw := h w (List.mem_cons_self ..)
    have e : wordsB (w :: ws) ++ [13, 10] = w ++ 13 :: 10 :: (wordsB ws ++ [13, 10]) := by rw [wordsB_cons, List.append_assoc]; rfl
    have hl : (wordsB (w :: ws)).length = w.length + 2 + (wordsB ws).length := by rw [wordsB_cons, List.length_append, List.length_cons, List.length_cons]; omega
    rw [e, endGo_word w _ i hw.1, hl]
    cases ws with
    | nil =>
      rw [show wordsB [] = [] from rfl, List.nil_append, endGo_cons, if_pos (show List.take 4 [13, 10, 13, 10] = crlf2 from rfl)]
      rw [List.length_nil]
      omega
    | cons v vs =>
      have hv := h v (List.mem_cons_of_mem _ (List.mem_cons_self ..))
      obtain ⟨c, v', rfl⟩ : ∃ c v', v = c :: v' := by
        cases v with
        | nil => exact absurd rfl hv.2
        | cons c v' => exact ⟨c, v', rfl⟩
      have hc := hv.1 c (List.mem_cons_self ..)
      have hn : wordsB ((c :: v') :: vs) ++ [13, 10] = c :: (v' ++ 13 :: 10 :: (wordsB vs ++ [13, 10])) := by rw [wordsB_cons, List.append_assoc]; rfl
      have ih := end_words ((c :: v') :: vs) (i + w.length + 2) (by simp) (fun x hx => h x (List.mem_cons_of_mem _ hx))
      rw [endGo_cons, if_neg (fun e => by
        rw [hn] at e
        have := congrArg (fun l => l[2]?) e
        simp only [List.take_succ_cons, crlf2] at this
        exact hc.1 (Option.some.inj this)), endGo_cons, if_neg (fun e => by
        have := congrArg List.head? e
        rw [List.take_succ_cons] at this
        have h2 := Option.some.inj this
        revert h2; decide), show i + w.length + 1 + 1 = i + w.length + 2 by omega, ih]
      omega
theorem linesS_words (ws : List (List UInt8)) (h0 : ¬ ws = []) (h : ∀ w ∈ ws, noCL w ∧ ¬ w = []) : linesS (wordsB ws ++ [13, 10]) = some (ws.map fun w => (⟨w.toArray⟩ : ByteArray)) := by
  have e : wordsB ws ++ [13, 10] = wordsB (ws ++ [[]]) := by unfold wordsB; rw [List.flatMap_append]; rfl
  have h1 := end_words ws 0 h0 h
  have h2 : endGo 0 (wordsB ws ++ [13, 10]) = ((0 + (wordsB ws ++ [13, 10]).length : Nat) : Int) := by
    rw [h1, List.length_append, List.length_cons, List.length_cons, List.length_nil]; omega
  have h3 := end_suffix _ 0 h2
  unfold linesS endZ
  rw [if_pos ⟨by rw [h2, Nat.zero_add], h3.1⟩, e, lines_words (ws ++ [[]]) (fun w hw => by
    rcases List.mem_append.1 hw with hw | hw
    · exact (h w hw).1
    · obtain rfl := List.mem_singleton.1 hw
      exact fun c hc => absurd hc (by simp)), Option.map_some, List.map_append, List.map_cons, List.map_nil, List.dropLast_concat]
def lineW (f : Fld) : List UInt8 := f.1.data.toList ++ [58, 32] ++ f.2.data.toList
theorem linesB_words : ∀ x : List Fld, linesB x = wordsB (x.map lineW)
  | [] => rfl
  | f :: r => by
    have ih := linesB_words r
    unfold linesB at ih ⊢
    rw [List.flatMap_cons, List.map_cons, wordsB_cons, ← ih]
    unfold lineB lineW
    simp
theorem tok_noCL {m : ByteArray} (h : tokS m = true) : noCL m.data.toList := fun c hc => by
  unfold tokS at h
  rw [Bool.and_eq_true] at h
  have h1 := List.all_eq_true.1 h.1 c hc
  constructor
  · rintro rfl; revert h1; decide +kernel
  · rintro rfl; revert h1; decide +kernel
theorem targ_noCL {m : ByteArray} (h : targetS m = true) : noCL m.data.toList := fun c hc => by
  unfold targetS at h
  rw [Bool.and_eq_true] at h
  have h1 := List.all_eq_true.1 h.1 c hc
  constructor
  · rintro rfl; revert h1; decide +kernel
  · rintro rfl; revert h1; decide +kernel
theorem vis_noCL {m : ByteArray} (h : visS m = true) : noCL m.data.toList := fun c hc => by
  unfold visS at h
  have h1 := List.all_eq_true.1 h c hc
  constructor
  · rintro rfl; revert h1; decide +kernel
  · rintro rfl; revert h1; decide +kernel
def noCLb (l : List UInt8) : Bool := l.all fun c => !(c == 13) && !(c == 10)
theorem noCLb_ok {l : List UInt8} (h : noCLb l = true) : noCL l := fun c hc => by
  have := List.all_eq_true.1 h c hc
  simpa using this
theorem num_noCL {z : Int} (h0 : 0 ≤ z) (h1 : z ≤ 599) : noCL (fmtS 10 z).data.toList := by
  obtain ⟨k, rfl⟩ : ∃ k : Nat, z = k := ⟨z.toNat, by omega⟩
  have hk : k < 600 := by omega
  have h : ∀ m : Fin 600, noCLb (fmtS 10 (m.val : Int)).data.toList = true := by decide +kernel
  exact noCLb_ok (h ⟨k, hk⟩)
theorem nonempty_ba {s : ByteArray} (h : 0 < s.size) : ¬ s.data.toList = [] := fun e => by
  have h1 := congrArg List.length e
  rw [Array.length_toList, List.length_nil] at h1
  have h2 : s.data.size = s.size := rfl
  omega
theorem lineW_ok {f : Fld} (h : fldB f.1 f.2 = true) : noCL (lineW f) ∧ ¬ lineW f = [] := by
  unfold fldB at h
  rw [Bool.and_eq_true] at h
  have hv := h.2
  unfold valS at hv
  rw [Bool.and_eq_true] at hv
  refine ⟨((tok_noCL h.1).app (noCLb_ok (by decide))).app (vis_noCL hv.1), fun e => ?_⟩
  have h1 := congrArg List.length e
  unfold lineW at h1
  simp at h1
theorem fieldsGo_words : ∀ x : List Fld, allB x = true → fieldsGo (x.map fun f => (⟨(lineW f).toArray⟩ : ByteArray)) = some x
  | [], _ => rfl
  | f :: r, h => by
    have h0 := h
    unfold allB at h0
    rw [List.all_cons, Bool.and_eq_true] at h0
    have hf := h0.1
    unfold fldB at hf
    rw [Bool.and_eq_true] at hf
    have hp : parseF (⟨(lineW f).toArray⟩ : ByteArray) = some f := parse_line f.1 f.2 _ hf.1 hf.2 (by show lineW f = _; unfold lineW; simp)
    rw [List.map_cons]
    unfold fieldsGo
    rw [hp]
    simp only []
    rw [fieldsGo_words r h0.2]; rfl
theorem fieldsS_words {x : List Fld} (h : allB x = true) : fieldsS (x.map fun f => (⟨(lineW f).toArray⟩ : ByteArray)) = if 64 < x.length then (3, []) else (0, x) := by
  unfold fieldsS
  rw [List.length_map, fieldsGo_words x h]
theorem linesS_head {s : ByteArray} {x : List Fld} (hs : noCL s.data.toList) (h0 : 0 < s.size) (hx : allB x = true) : linesS (headB s x) = some (s :: x.map fun f => (⟨(lineW f).toArray⟩ : ByteArray)) := by
  have e : headB s x = wordsB (s.data.toList :: x.map lineW) ++ [13, 10] := by
    rw [headB_yes (by omega) hx, wordsB_cons, linesB_words x]
    simp
  rw [e, linesS_words _ (by simp) (fun w hw => by
    rcases List.mem_cons.1 hw with rfl | hw
    · exact ⟨hs, nonempty_ba h0⟩
    · obtain ⟨f, hf, rfl⟩ := List.mem_map.1 hw
      unfold allB at hx
      exact lineW_ok (List.all_eq_true.1 hx f hf)), List.map_cons, List.map_map]
  rfl
theorem fmtReq_line {m t : ByteArray} {z : Int} (hm : tokS m = true) (ht : targetS t = true) (hz : z = 0 ∨ z = 1) : noCL (fmtReq m t z).data.toList ∧ 0 < (fmtReq m t z).size := by
  unfold fmtReq
  rw [if_pos ⟨hm, ht, by omega, by omega⟩]
  refine ⟨?_, by simp only [ByteArray.size_append]; have e1 : http1.size = 8 := rfl; omega⟩
  rw [ba_app_list, ba_app_list, ba_app_list, ba_app_list]
  exact ((((tok_noCL hm).app (noCLb_ok (by decide))).app (targ_noCL ht)).app (noCLb_ok (by decide))).app (num_noCL (by omega) (by omega))
theorem headR_made {m t : ByteArray} {z : Int} {x : List Fld} (hm : tokS m = true) (ht : targetS t = true) (hz : z = 0 ∨ z = 1) (hx : allB x = true) :
    headR (headB (fmtReq m t z) x) = if 64 < x.length then (3, ⟨#[]⟩, ⟨#[]⟩, 0, []) else if 1 < (valuesL x hostN).length ∨ ((valuesL x hostN).length = 0 ∧ z = 1) then (2, ⟨#[]⟩, ⟨#[]⟩, 0, []) else (0, m, t, z, x) := by
  obtain ⟨h1, h2⟩ := fmtReq_line hm ht hz
  have h3 := linesS_head h1 h2 hx
  have h4 := twice_req hm ht hz
  have h5 := fieldsS_words hx
  unfold headR
  rw [h3]
  simp only []
  rw [h4]
  simp only []
  rw [h5]
  by_cases h64 : 64 < x.length
  · simp only [if_pos h64]; rfl
  · simp only [if_neg h64]; rfl
theorem fmtRep_line {st z : Int} {r : ByteArray} (h0 : 100 ≤ st) (h1 : st ≤ 599) (hz : z = 0 ∨ z = 1) (hr : visS r = true) : noCL (fmtRep st r z).data.toList := by
  unfold fmtRep
  rw [if_pos ⟨h0, h1, by omega, by omega, hr⟩]
  rw [ba_app_list, ba_app_list, ba_app_list, ba_app_list, ba_app_list]
  exact (((((noCLb_ok (by decide) : noCL http0.data.toList).app (num_noCL (by omega) (by omega))).app (noCLb_ok (by decide))).app (num_noCL (by omega) h1)).app (noCLb_ok (by decide))).app (vis_noCL hr)
theorem headA_made {st z : Int} {r : ByteArray} {x : List Fld} (h0 : 100 ≤ st) (h1 : st ≤ 599) (hz : z = 0 ∨ z = 1) (hr : visS r = true) (hx : allB x = true) (hl : x.length ≤ 64) : headA (headB (fmtRep st r z) x) = (0, st, r, z, x) := by
  obtain ⟨h2, h3⟩ := twice_rep h0 h1 hz hr
  have h4 := linesS_head (fmtRep_line h0 h1 hz hr) h3 hx
  have h5 := fieldsS_words hx
  rw [if_neg (by omega)] at h5
  unfold headA
  rw [h4]
  simp only []
  rw [h2]
  simp only []
  rw [h5]; rfl
end Go.Proofs.YteoadfckcilalaaGreatDoor
namespace Go.Proofs.YteoadfckcilalaaGreatDoor
open Go.RowKit

theorem ownF_block {B : Nat} {w : World} {fa : Option Addr} {n c : Nat} {x : List Fld} (h : OwnF B w (.slice fa n c) x) : ∀ y, fa = some y → B ≤ y.block ∧ y.block < w.heap.size := fun y e => by
  subst e
  exact h.lt (k := y.block) rfl
theorem rep_size (st : Int) (r : ByteArray) (z : Int) (h : r.size ≤ 1048576) : (fmtRep st r z).size ≤ 2000000 := by
  have := fmtRep_size st r z (by omega)
  unfold fmtRep
  split
  · rename_i hh
    have h1 := fmtS_small hh.2.2.1 hh.2.2.2.1
    have h2 := fmtS_code (z := st) (by omega) hh.2.1
    simp only [ByteArray.size_append]
    have e1 : http0.size = 7 := rfl
    have e2 : (⟨#[32]⟩ : ByteArray).size = 1 := rfl
    omega
  · exact Nat.zero_le _
end Go.Proofs.YteoadfckcilalaaGreatDoor
namespace Go.Proofs.YteoadfckcilalaaGreatDoor
open Go.RowKit

theorem fmtReq_big (m t : ByteArray) (z : Int) (hm : m.size ≤ 1048576) (ht : t.size ≤ 1048576) : (fmtReq m t z).size ≤ 3000000 := by
  unfold fmtReq
  split
  · rename_i h
    have h1 := fmtS_small h.2.2.1 h.2.2.2
    simp only [ByteArray.size_append]
    have e1 : http1.size = 8 := rfl
    have e2 : (⟨#[32]⟩ : ByteArray).size = 1 := rfl
    omega
  · exact Nat.zero_le _
section
variable (m t : ByteArray) (z : Int) (fa ba : Option Addr) (x : List Fld) (fc bn bc : Nat) (fr : Bool) (st : Int) (r : ByteArray) (z2 : Int) (ga ha : Option Addr) (y : List Fld) (gc hn hc : Nat) (b : Option Addr) (n cb : Nat) (raw : Bool) (mm : Int) (w : World)
end
end Go.Proofs.YteoadfckcilalaaGreatDoor
namespace Go.Proofs.YteoadfckcilalaaGreatDoor
open Go.RowKit

theorem total_values {x : List Fld} (h : SmallF x) (n : ByteArray) : total (valuesL x n) ≤ x.length * 1048577 := by
  unfold valuesL
  induction x with
  | nil => exact Nat.zero_le _
  | cons f t ih =>
    have h1 := ih (fun g hg => h g (List.mem_cons_of_mem _ hg))
    have h2 := (h f (List.mem_cons_self ..)).2
    clear h ih
    rw [List.filter_cons, List.length_cons, Nat.add_mul, Nat.one_mul]
    split
    · simp only [List.map_cons, total]
      exact Nat.le_trans (Nat.add_le_add (Nat.add_le_add_right h2 1) h1) (Nat.le_of_eq (Nat.add_comm _ _))
    · exact Nat.le_trans h1 (Nat.le_add_right _ _)

section
variable {Q : Exit → Act → World → Prop} {a : Act} {w : World} {o : Oper} {s : Spec}
end

end Go.Proofs.YteoadfckcilalaaGreatDoor
namespace Go.Proofs.YteoadfckcilalaaGreatDoor
open Go.RowKit

theorem splitL_total (c : UInt8) : ∀ l : List UInt8, ((splitL c l).map (fun p => p.length + 1)).sum = l.length + 1
  | [] => rfl
  | b :: t => by
    have ih := splitL_total c t
    rw [splitL]; split
    · simp; omega
    · cases h : splitL c t with
      | nil => exact absurd h (splitL_ne c t)
      | cons q r => rw [h] at ih; simp [front] at ih ⊢; omega
theorem total_map (L : List (List UInt8)) : total (L.map ofL) = (L.map (fun p => p.length + 1)).sum := by
  induction L with
  | nil => rfl
  | cons a t ih =>
    have e : (ofL a).size = a.length := by show (ofL a).data.size = _; simp [ofL]
    simp only [List.map_cons, total, List.sum_cons, ih, e]
theorem total_elemsOf (l : List ByteArray) : total (elemsOf l) ≤ total l := by
  unfold elemsOf
  induction l with
  | nil => exact Nat.le_refl _
  | cons a t ih =>
    have h := trimBA_size a
    simp only [List.map_cons, List.filter_cons]
    split <;> simp only [total] <;> omega
theorem total_append (a b : List ByteArray) : total (a ++ b) = total a + total b := by
  induction a with
  | nil => simp [total]
  | cons x t ih => simp only [List.cons_append, total, ih]; omega
theorem total_elemL (a : ByteArray) : total (elemL a) ≤ a.size + 1 := by
  have h1 := total_elemsOf (splitS 44 a)
  have h2 : total (splitS 44 a) = a.size + 1 := by
    unfold splitS; rw [total_map, splitL_total]; simp
  unfold elemL; omega
theorem total_listL : ∀ l : List ByteArray, total (listL l) ≤ total l
  | [] => Nat.le_refl _
  | a :: t => by
    have h1 := total_listL t
    have h2 := total_elemL a
    have e : listL (a :: t) = elemL a ++ listL t := by unfold listL; rw [List.flatMap_cons]
    rw [e, total_append]; simp only [total]; omega

section
variable (w : World) (m : Int)

end
end Go.Proofs.YteoadfckcilalaaGreatDoor
namespace Go.Proofs.YteoadfckcilalaaGreatDoor
open Go.RowKit

def clN : ByteArray := ⟨#[99, 111, 110, 116, 101, 110, 116, 45, 108, 101, 110, 103, 116, 104]⟩
def teN : ByteArray := ⟨#[116, 114, 97, 110, 115, 102, 101, 114, 45, 101, 110, 99, 111, 100, 105, 110, 103]⟩
def chunkedN : ByteArray := ⟨#[99, 104, 117, 110, 107, 101, 100]⟩
/-- The elements are just one that is chunked. -/
def chunkedB (x : List ByteArray) : Bool := match x with | [y] => foldS y chunkedN | _ => false
/-- Kind, length, error. -/
def frameS (v : Int) (l : List Fld) (k0 : Int) : Int × Int × Int :=
  if hasL l teN = true then
    (if v = 0 ∨ 0 < (valuesL l clN).length ∨ chunkedB (listL (valuesL l teN)) = false then (0, 0, 5) else (3, 0, 0))
  else match valuesL l clN with
    | [] => (k0, 0, 0)
    | y :: r => if 0 < r.length ∨ (parseS 10 1000000000 y).2 = 2 then (0, 0, 5) else if (parseS 10 1000000000 y).2 = 0 then (2, (parseS 10 1000000000 y).1, 0) else (0, 0, (parseS 10 1000000000 y).2)
def frameV (f : Int × Int × Int) : Value := .tuple #[.agg #[.int .i64 f.1, .int .i64 f.2.1], .int .i64 f.2.2]
theorem frameS_te {v : Int} {l : List Fld} {k0 : Int} (h : hasL l teN = true) : frameS v l k0 = if v = 0 ∨ 0 < (valuesL l clN).length ∨ chunkedB (listL (valuesL l teN)) = false then (0, 0, 5) else (3, 0, 0) := by
  unfold frameS; rw [if_pos h]
theorem frameS_none {v : Int} {l : List Fld} {k0 : Int} (h : hasL l teN = false) (h2 : valuesL l clN = []) : frameS v l k0 = (k0, 0, 0) := by
  unfold frameS; rw [if_neg (by rw [h]; decide), h2]
theorem frameS_len {v : Int} {l : List Fld} {k0 : Int} {y : ByteArray} {r : List ByteArray} (h : hasL l teN = false) (h2 : valuesL l clN = y :: r) :
    frameS v l k0 = if 0 < r.length ∨ (parseS 10 1000000000 y).2 = 2 then (0, 0, 5) else if (parseS 10 1000000000 y).2 = 0 then (2, (parseS 10 1000000000 y).1, 0) else (0, 0, (parseS 10 1000000000 y).2) := by
  unfold frameS; rw [if_neg (by rw [h]; decide), h2]
theorem valuesL_small {l : List Fld} (h : ShortF l) {n y : ByteArray} (hy : y ∈ valuesL l n) : y.size ≤ maxLen := by
  unfold valuesL at hy
  obtain ⟨f, hf, rfl⟩ := List.mem_map.1 hy
  exact (h f (List.mem_filter.1 hf).1).2
/-- A frame's variable. -/
def KVar (w : World) (g : Nat) (k n : Int) : Prop := w.heap[g]? = some (.cells #[.int .i64 k, .int .i64 n] 33 (0, 0))
theorem KVar.keep {w w' : World} {g : Nat} {k n : Int} (h : KVar w g k n) (hb : Below w.heap.size w w') : KVar w' g k n := by
  unfold KVar at *
  rw [hb.block g (Array.getElem?_eq_some_iff.1 h).1]; exact h
theorem sizeK : (Tryz.prog.info? 33).map (·.size) = some 2 := by kernel_rfl
theorem oneK (k n : Int) : (#[.int .i64 k, .int .i64 n] : Array Value).all (·.oneCell') = true := by simp [Value.oneCell']
theorem total_mem {l : List ByteArray} {y : ByteArray} (h : y ∈ l) : y.size + 1 ≤ total l := by
  obtain ⟨k, hk, rfl⟩ := List.getElem_of_mem h
  exact total_at hk (Nat.le_refl _)
theorem listL_small {l : List ByteArray} {y : ByteArray} (h : y ∈ listL l) : y.size ≤ total l := by
  have h1 := total_mem h
  have h2 := total_listL l
  omega
theorem chunkedB_ne {x : List ByteArray} (h : ¬ x.length = 1) : chunkedB x = false := by
  unfold chunkedB
  split
  · exact absurd rfl h
  · rfl

end Go.Proofs.YteoadfckcilalaaGreatDoor
namespace Go.Proofs.YteoadfckcilalaaGreatDoor
open Go.RowKit

def headN : ByteArray := ⟨#[72, 69, 65, 68]⟩
theorem litHead : ([72, 69, 65, 68] : List UInt8) = headN.toList := by rw [ByteArray.toList_eq]; rfl
def noBody (method : ByteArray) (st : Int) : Bool := decide (method = headN) || (decide (100 ≤ st) && decide (st ≤ 199)) || decide (st = 204) || decide (st = 304)
def replyS (method : ByteArray) (st v : Int) (l : List Fld) : Int × Int × Int := if noBody method st = true then (1, 0, 0) else frameS v l 4
theorem noBody_cases (method : ByteArray) (st : Int) : noBody method st = true ∧ (method = headN ∨ ¬ method = headN ∧ 100 ≤ st ∧ st ≤ 199 ∨ ¬ method = headN ∧ st = 204 ∨ ¬ method = headN ∧ st = 304) ∨ noBody method st = false ∧ ¬ method = headN ∧ (st < 100 ∨ 199 < st ∧ ¬ st = 204 ∧ ¬ st = 304) := by
  unfold noBody
  by_cases h0 : method = headN
  · exact .inl ⟨by simp [h0], .inl h0⟩
  · by_cases h1 : 100 ≤ st ∧ st ≤ 199
    · exact .inl ⟨by simp [h1.1, h1.2], .inr (.inl ⟨h0, h1.1, h1.2⟩)⟩
    · by_cases h2 : st = 204
      · exact .inl ⟨by simp [h2], .inr (.inr (.inl ⟨h0, h2⟩))⟩
      · by_cases h3 : st = 304
        · exact .inl ⟨by simp [h3], .inr (.inr (.inr ⟨h0, h3⟩))⟩
        · refine .inr ⟨?_, h0, by omega⟩
          simp [h0, h2, h3]; omega

end Go.Proofs.YteoadfckcilalaaGreatDoor
namespace Go.Proofs.YteoadfckcilalaaGreatDoor
open Go.RowKit

set_option linter.unusedVariables false
/-- The reasons, by status. -/
def reasL : List (Int × ByteArray) := [(200, ⟨#[79, 75]⟩), (400, ⟨#[66, 97, 100, 32, 82, 101, 113, 117, 101, 115, 116]⟩), (404, ⟨#[78, 111, 116, 32, 70, 111, 117, 110, 100]⟩), (405, ⟨#[77, 101, 116, 104, 111, 100, 32, 78, 111, 116, 32, 65, 108, 108, 111, 119, 101, 100]⟩), (408, ⟨#[82, 101, 113, 117, 101, 115, 116, 32, 84, 105, 109, 101, 111, 117, 116]⟩), (409, ⟨#[67, 111, 110, 102, 108, 105, 99, 116]⟩), (413, ⟨#[67, 111, 110, 116, 101, 110, 116, 32, 84, 111, 111, 32, 76, 97, 114, 103, 101]⟩), (431, ⟨#[82, 101, 113, 117, 101, 115, 116, 32, 72, 101, 97, 100, 101, 114, 32, 70, 105, 101, 108, 100, 115, 32, 84, 111, 111, 32, 76, 97, 114, 103, 101]⟩), (502, ⟨#[66, 97, 100, 32, 71, 97, 116, 101, 119, 97, 121]⟩), (503, ⟨#[83, 101, 114, 118, 105, 99, 101, 32, 85, 110, 97, 118, 97, 105, 108, 97, 98, 108, 101]⟩), (504, ⟨#[71, 97, 116, 101, 119, 97, 121, 32, 84, 105, 109, 101, 111, 117, 116]⟩), (505, ⟨#[72, 84, 84, 80, 32, 86, 101, 114, 115, 105, 111, 110, 32, 78, 111, 116, 32, 83, 117, 112, 112, 111, 114, 116, 101, 100]⟩)]
def errR : ByteArray := ⟨#[69, 114, 114, 111, 114]⟩
def reasG : List (Int × ByteArray) → Int → ByteArray
  | [], _ => errR
  | p :: r, st => if p.1 = st then p.2 else reasG r st
def reasS (st : Int) : ByteArray := reasG reasL st
theorem reasG_all {P : ByteArray → Prop} (he : P errR) : ∀ (l : List (Int × ByteArray)) (st : Int), (∀ p ∈ l, P p.2) → P (reasG l st)
  | [], _, _ => he
  | p :: r, st, h => by
    unfold reasG
    split
    · exact h p (List.mem_cons_self ..)
    · exact reasG_all he r st fun q hq => h q (List.mem_cons_of_mem _ hq)
theorem reasS_all {f : ByteArray → Bool} (he : f errR = true) (h : (reasL.all fun p => f p.2) = true) (st : Int) : f (reasS st) = true :=
  reasG_all (P := fun b => f b = true) he reasL st fun p hp => List.all_eq_true.1 h p hp
theorem reasS_vis (st : Int) : visS (reasS st) = true := reasS_all (by decide +kernel) (by decide +kernel) st
theorem reasS_size (st : Int) : (reasS st).size ≤ 31 := by
  have := reasS_all (f := fun b => decide (b.size ≤ 31)) (by decide +kernel) (by decide +kernel) st
  simpa using this
/-- The two fields that Make writes. -/
def ctWr : ByteArray := ⟨#[67, 111, 110, 116, 101, 110, 116, 45, 84, 121, 112, 101]⟩
def clWr : ByteArray := ⟨#[67, 111, 110, 116, 101, 110, 116, 45, 76, 101, 110, 103, 116, 104]⟩
def txtWr : ByteArray := ⟨#[116, 101, 120, 116, 47, 112, 108, 97, 105, 110]⟩
def makeX (kind : ByteArray) (n : Int) : List Fld := [(ctWr, kind), (clWr, fmtS 10 n)]
theorem txt_nums : ∀ j : Fin 501, (fldB clWr (fmtS 10 (j.val : Int)) && decide ((fmtS 10 (j.val : Int)).size ≤ 3) && decide (parseS 10 1000000000 (fmtS 10 (j.val : Int)) = ((j.val : Int), 0))) = true := by decide +kernel
theorem txt_num {n : Nat} (h : n ≤ 500) : fldB clWr (fmtS 10 (n : Int)) = true ∧ (fmtS 10 (n : Int)).size ≤ 3 ∧ parseS 10 1000000000 (fmtS 10 (n : Int)) = ((n : Int), 0) := by
  have := txt_nums ⟨n, by omega⟩
  simp only [Bool.and_eq_true, decide_eq_true_eq] at this
  exact ⟨this.1.1, this.1.2, this.2⟩
theorem txt_all {n : Nat} (h : n ≤ 500) : allB (makeX txtWr n) = true := by
  unfold allB makeX
  simp only [List.all_cons, List.all_nil, Bool.and_true, Bool.and_eq_true]
  exact ⟨by decide +kernel, (txt_num h).1⟩
theorem txt_small {n : Nat} (h : n ≤ 500) : SmallF (makeX txtWr n) := fun f hf => by
  unfold makeX at hf
  simp only [List.mem_cons, List.not_mem_nil, or_false] at hf
  rcases hf with rfl | rfl
  · exact ⟨by decide, by decide⟩
  · exact ⟨by show 14 ≤ _; decide, Nat.le_trans (txt_num h).2.1 (by decide)⟩
theorem txt_cl {n : Nat} : valuesL (makeX txtWr n) clN = [fmtS 10 (n : Int)] := by
  have h1 : foldS ctWr clN = false := by decide +kernel
  have h2 : foldS clWr clN = true := by decide +kernel
  unfold valuesL makeX
  simp [h1, h2]
theorem txt_te {n : Nat} : hasL (makeX txtWr n) teN = false := by
  unfold hasL
  rw [List.any_eq_false]
  intro f hf
  have h1 : foldS ctWr teN = false := by decide +kernel
  have h2 : foldS clWr teN = false := by decide +kernel
  unfold makeX at hf
  simp only [List.mem_cons, List.not_mem_nil, or_false] at hf
  rcases hf with rfl | rfl
  · rw [h1]; decide
  · rw [h2]; decide
/-- The head of a text reply. -/
def txtH (st : Int) (n : Nat) : List UInt8 := headB (fmtRep st (reasS st) 1) (makeX txtWr n)
theorem fmtRep_len {st : Int} (h0 : 100 ≤ st) (h1 : st ≤ 599) : 0 < (fmtRep st (reasS st) 1).size ∧ (fmtRep st (reasS st) 1).size ≤ 44 := by
  have hc : ∀ j : Fin 600, (fmtS 10 (j.val : Int)).size ≤ 3 := by decide +kernel
  have h2 := hc ⟨st.toNat, by omega⟩
  simp only [Int.toNat_of_nonneg (show 0 ≤ st by omega)] at h2
  have h3 := reasS_size st
  have e1 : http0.size = 7 := rfl
  have e2 : (⟨#[32]⟩ : ByteArray).size = 1 := rfl
  have e3 : (fmtS 10 1).size = 1 := by decide +kernel
  unfold fmtRep
  rw [if_pos ⟨h0, h1, by decide, by decide, reasS_vis st⟩]
  simp only [ByteArray.size_append]
  omega
theorem txt_head {st : Int} {n : Nat} (h0 : 100 ≤ st) (h1 : st ≤ 599) (hn : n ≤ 500) : headA (txtH st n) = (0, st, reasS st, 1, makeX txtWr n) ∧ (txtH st n).length ≤ 200 := by
  refine ⟨headA_made h0 h1 (.inr rfl) (reasS_vis st) (txt_all hn) (by show 2 ≤ 64; decide), ?_⟩
  obtain ⟨h2, h3⟩ := fmtRep_len h0 h1
  unfold txtH
  rw [headB_yes (by omega) (txt_all hn)]
  have h4 : (fmtRep st (reasS st) 1).data.toList.length = (fmtRep st (reasS st) 1).size := by rw [Array.length_toList]; rfl
  have h5 : (linesB (makeX txtWr n)).length ≤ 60 := by
    have h6 : (fmtS 10 (n : Int)).data.toList.length ≤ 3 := by rw [Array.length_toList]; exact (txt_num hn).2.1
    show ((lineB (ctWr, txtWr)) ++ (lineB (clWr, fmtS 10 (n : Int)) ++ [])).length ≤ 60
    unfold lineB
    simp only [List.length_append, List.length_nil]
    have e1 : ctWr.data.toList.length = 12 := rfl
    have e2 : txtWr.data.toList.length = 10 := rfl
    have e3 : clWr.data.toList.length = 14 := rfl
    rw [e1, e2, e3]
    simp only [List.length_cons, List.length_nil]
    omega
  simp only [List.length_append, List.length_cons, List.length_nil]
  omega
end Go.Proofs.YteoadfckcilalaaGreatDoor
namespace Go.Proofs.YteoadfckcilalaaGreatDoor
open Go.RowKit

/-- The state of the decoder: the phase, the bytes left, the size of the trailer section, the line so far. -/
structure Chk where
  ph : Int
  left : Int
  tr : Int
  line : List UInt8
def zeroC : Chk := ⟨0, 0, 0, []⟩
/-- What stands ahead of the first semicolon. -/
def szS (y : ByteArray) : ByteArray := ((splitS 59 y)[0]?).getD ⟨#[]⟩
/-- What a complete line leads to: an error, or the state. -/
def lineS (s : Chk) (y : ByteArray) : Int × Chk :=
  if s.ph = 0 then
    (if (parseS 16 1000000000 (szS y)).2 = 2 ∨ visS y = false then (2, zeroC)
    else if (parseS 16 1000000000 (szS y)).2 = 0 then (0, ⟨if (parseS 16 1000000000 (szS y)).1 = 0 then 3 else 1, (parseS 16 1000000000 (szS y)).1, s.tr, []⟩)
    else ((parseS 16 1000000000 (szS y)).2, zeroC))
  else if s.ph = 2 then (if y.size = 0 then (0, ⟨0, s.left, s.tr, []⟩) else (2, zeroC))
  else if s.ph = 3 then (if y.size = 0 then (0, ⟨4, s.left, s.tr, []⟩) else if (parseF y).isSome = true then (0, ⟨3, s.left, s.tr, []⟩) else (2, zeroC))
  else (0, ⟨s.ph, s.left, s.tr, []⟩)
/-- The line ends with CR. -/
def crB (l : List UInt8) : Bool := l.getLast? == some 13
/-- One byte that belongs to a line, with the trailer section at t. -/
def byteS (s : Chk) (t : Int) (x : UInt8) : Int × Chk :=
  if crB s.line = false then
    (if x = 10 then (2, zeroC) else if 128 < s.line.length + 1 ∧ ¬ x = 13 then (3, zeroC) else (0, ⟨s.ph, s.left, t, s.line ++ [x]⟩))
  else if x = 10 then lineS ⟨s.ph, s.left, t, []⟩ ⟨s.line.dropLast.toArray⟩ else (2, zeroC)
/-- One byte that is not one of the body. -/
def stepS (s : Chk) (x : UInt8) : Int × Chk :=
  if s.ph = 3 then (if 1024 < s.tr + 1 then (3, zeroC) else byteS s (s.tr + 1) x) else byteS s s.tr x
/-- The decoder over many bytes: error, state, bytes of the body, number of bytes read. -/
def feedS (room : Int) : Chk → List UInt8 → Nat → List UInt8 → Int × Chk × List UInt8 × Nat
  | s, out, i, [] => (0, s, out, i)
  | s, out, i, x :: r =>
    if s.ph = 4 ∨ s.ph = 1 ∧ room ≤ out.length then (0, s, out, i)
    else if s.ph = 1 then feedS room ⟨if s.left - 1 = 0 then 2 else 1, s.left - 1, s.tr, s.line⟩ (out ++ [x]) (i + 1) r
    else if (stepS s x).1 = 0 then feedS room (stepS s x).2 out (i + 1) r
    else ((stepS s x).1, zeroC, [], 0)

/-- A variable with a state. -/
def CVar (w : World) (g : Nat) (p l t : Int) (v : Value) : Prop := w.heap[g]? = some (.cells #[.int .i64 p, .int .i64 l, .int .i64 t, v] 35 (0, 0))
theorem CVar.keep {w w' : World} {g : Nat} {p l t : Int} {v : Value} (h : CVar w g p l t v) (hb : Below w.heap.size w w') : CVar w' g p l t v := by
  unfold CVar at *
  rw [hb.block g (Array.getElem?_eq_some_iff.1 h).1]; exact h
theorem CVar.lt {w : World} {g : Nat} {p l t : Int} {v : Value} (h : CVar w g p l t v) : g < w.heap.size := (Array.getElem?_eq_some_iff.1 h).1
theorem CVar.cells {w : World} {g : Nat} {p l t : Int} {v : Value} (h : CVar w g p l t v) : w.cell? ⟨g, 0, none⟩ = some (.int .i64 p) ∧ w.cell? ⟨g, 1, none⟩ = some (.int .i64 l) ∧ w.cell? ⟨g, 2, none⟩ = some (.int .i64 t) ∧ w.cell? ⟨g, 3, none⟩ = some v := by
  refine ⟨?_, ?_, ?_, ?_⟩ <;> rw [cell_of_row _ _ _ _ _ _ h] <;> rfl
theorem sizeC : (Tryz.prog.info? 35).map (·.size) = some 4 := by kernel_rfl
theorem oneC (p l t : Int) (a : Option Addr) (n c : Nat) : (#[.int .i64 p, .int .i64 l, .int .i64 t, .slice a n c] : Array Value).all (·.oneCell') = true := by simp [Value.oneCell']
theorem CVar.setV {w : World} {g : Nat} {p l t : Int} {v u : Value} (h : CVar w g p l t v) : CVar (w.setCell ⟨g, 3, none⟩ u) g p l t u := by
  unfold CVar; rw [heap_setCell_same _ _ _ _ _ _ h]; rfl
theorem CVar.setP {w : World} {g : Nat} {p l t z : Int} {v : Value} (h : CVar w g p l t v) : CVar (w.setCell ⟨g, 0, none⟩ (.int .i64 z)) g z l t v := by
  unfold CVar; rw [heap_setCell_same _ _ _ _ _ _ h]; rfl
theorem CVar.setL {w : World} {g : Nat} {p l t z : Int} {v : Value} (h : CVar w g p l t v) : CVar (w.setCell ⟨g, 1, none⟩ (.int .i64 z)) g p z t v := by
  unfold CVar; rw [heap_setCell_same _ _ _ _ _ _ h]; rfl
theorem CVar.setT {w : World} {g : Nat} {p l t z : Int} {v : Value} (h : CVar w g p l t v) : CVar (w.setCell ⟨g, 2, none⟩ (.int .i64 z)) g p l z v := by
  unfold CVar; rw [heap_setCell_same _ _ _ _ _ _ h]; rfl
theorem CVar.other {w : World} {g : Nat} {p l t : Int} {v u : Value} {x : Addr} (h : CVar w g p l t v) (hne : g ≠ x.block) : CVar (w.setCell x u) g p l t v := by
  unfold CVar; rw [heap_setCell_other _ _ _ _ hne]; exact h
theorem CVar.frozen {w : World} {g i : Nat} {p l t : Int} {v : Value} (h : CVar w g p l t v) : w.frozen? ⟨g, i, none⟩ = false := by
  unfold CVar at h; simp [World.frozen?, h]
section
variable {ops : Array Oper} {rest : List Oper} {o : Oper} {act : Act} {Q : Exit → Act → World → Prop} {w : World}
theorem wpList_store_slice {P : Program} (hgd : o.guard = none) (ty : TypeId) (x y : Operand) (ho : o.op = .store ty x y) {p : Addr} {sa : Option Addr} {sn sc : Nat} {u : Value} (hx : act.eval x = .pointer (some p)) (hy : act.eval y = .slice sa sn sc) (hi : (P.info? ty).map (·.size) = some 1)
    (hc : w.cell? p = some u) (hf : w.frozen? p = false) (h : wpList P ops Q rest (act.put o.dst undef) (w.setCell p (.slice sa sn sc))) : wpList P ops Q (o :: rest) act w :=
  wpList_plain hgd fun K hK => by
    have hz : (sizeOf ty).run P w = .ok 1 w := by
      cases hq : P.info? ty with
      | none => rw [hq] at hi; cases hi
      | some i => rw [hq] at hi; simp at hi; simp [sizeOf, typeInfo, hq, hi]
    have h2 := hK _ _ h
    unfold Oper.wp execOp
    simp_all [Instr.storeAt, Instr.sureAddr, storeVar, storeCells, Value.cells, go_sem]
end
theorem Own.setC {B g i : Nat} {w : World} {v u : Value} {l : List UInt8} (h : Own B w v l) (hg : g < B) : Own B (w.setCell ⟨g, i, none⟩ u) v l :=
  h.same fun k hk => heap_setCell_other _ _ _ _ (by have := (h.lt hk).1; show k ≠ g; omega)
theorem Own.bytes {B : Nat} {w : World} {a : Option Addr} {l : List UInt8} {n c : Nat} (h : Own B w (.slice a n c) l) : IsBytes w a l c := by
  obtain ⟨a', c', e, hb⟩ := h.val
  injection e with e1 e2 e3
  subst e1 e3
  exact hb
theorem last_cases (l : List UInt8) : l = [] ∨ ∃ m z, l = m ++ [z] := by
  rcases List.eq_nil_or_concat l with h | ⟨m, z, h⟩
  · exact .inl h
  · exact .inr ⟨m, z, by rw [h, List.concat_eq_append]⟩
theorem crB_app (m : List UInt8) (z : UInt8) : crB (m ++ [z]) = (z == 13) := by unfold crB; simp
end Go.Proofs.YteoadfckcilalaaGreatDoor
namespace Go.Proofs.YteoadfckcilalaaGreatDoor
open Go.RowKit

theorem byteS_ten {s : Chk} {t : Int} (h : crB s.line = false) : byteS s t 10 = (2, zeroC) := by unfold byteS; rw [if_pos h, if_pos rfl]
theorem byteS_long {s : Chk} {t : Int} {x : UInt8} (h : crB s.line = false) (hx : ¬ x = 10) (hl : 128 < s.line.length + 1) (h13 : ¬ x = 13) : byteS s t x = (3, zeroC) := by
  unfold byteS; rw [if_pos h, if_neg hx, if_pos ⟨hl, h13⟩]
theorem byteS_more {s : Chk} {t : Int} {x : UInt8} (h : crB s.line = false) (hx : ¬ x = 10) (hl : ¬ (128 < s.line.length + 1 ∧ ¬ x = 13)) : byteS s t x = (0, ⟨s.ph, s.left, t, s.line ++ [x]⟩) := by
  unfold byteS; rw [if_pos h, if_neg hx, if_neg hl]
theorem byteS_bad {s : Chk} {t : Int} {x : UInt8} (h : crB s.line = true) (hx : ¬ x = 10) : byteS s t x = (2, zeroC) := by
  unfold byteS; rw [if_neg (by rw [h]; decide), if_neg hx]
theorem byteS_line {m : List UInt8} {p l t0 t : Int} : byteS ⟨p, l, t0, m ++ [13]⟩ t 10 = lineS ⟨p, l, t, []⟩ ⟨m.toArray⟩ := by
  unfold byteS; rw [if_neg (by rw [crB_app]; decide), if_pos rfl]; simp
theorem isBytes_front {w : World} {a : Option Addr} {m : List UInt8} {z : UInt8} {c : Nat} (h : IsBytes w a (m ++ [z]) c) : IsBytes w a m c := by
  rcases h with ⟨_, e, _⟩ | ⟨x, e, h1, h2, h3⟩
  · simp at e
  · refine .inr ⟨x, e, by simp at h1; omega, h2, fun j hj => ?_⟩
    have := h3 j (by simp; omega)
    rwa [List.getElem_append_left hj] at this

end Go.Proofs.YteoadfckcilalaaGreatDoor
namespace Go.Proofs.YteoadfckcilalaaGreatDoor
open Go.RowKit

theorem lineS_bad {l t : Int} {y : ByteArray} (h : (parseS 16 1000000000 (szS y)).2 = 2 ∨ visS y = false) : lineS ⟨0, l, t, []⟩ y = (2, zeroC) := by
  unfold lineS; rw [if_pos rfl, if_pos h]
theorem lineS_size {l t : Int} {y : ByteArray} (h : ¬ ((parseS 16 1000000000 (szS y)).2 = 2 ∨ visS y = false)) (h0 : (parseS 16 1000000000 (szS y)).2 = 0) : lineS ⟨0, l, t, []⟩ y = (0, ⟨if (parseS 16 1000000000 (szS y)).1 = 0 then 3 else 1, (parseS 16 1000000000 (szS y)).1, t, []⟩) := by
  unfold lineS; rw [if_pos rfl, if_neg h, if_pos h0]
theorem lineS_big {l t : Int} {y : ByteArray} (h : ¬ ((parseS 16 1000000000 (szS y)).2 = 2 ∨ visS y = false)) (h0 : ¬ (parseS 16 1000000000 (szS y)).2 = 0) : lineS ⟨0, l, t, []⟩ y = ((parseS 16 1000000000 (szS y)).2, zeroC) := by
  unfold lineS; rw [if_pos rfl, if_neg h, if_neg h0]
end Go.Proofs.YteoadfckcilalaaGreatDoor
namespace Go.Proofs.YteoadfckcilalaaGreatDoor
open Go.RowKit

theorem parse_range (s : ByteArray) : 0 ≤ (parseS 16 1000000000 s).1 ∧ (parseS 16 1000000000 s).1 ≤ 1000000000 ∧ ((parseS 16 1000000000 s).2 = 0 ∨ (parseS 16 1000000000 s).2 = 2 ∨ (parseS 16 1000000000 s).2 = 3) := by
  unfold parseS
  split
  · rename_i h
    have hne : s.data.toList ≠ [] := by
      intro e
      unfold numS at h
      rw [e] at h; simp at h
    have h1 := vgo_ge 16 (by decide) s.data.toList 0 (by decide)
    rw [pgo_eq 16 1000000000 (by decide) _ 0 (by decide) (.inr hne)]
    split
    · exact ⟨h1, by assumption, .inl rfl⟩
    · exact ⟨by decide, by decide, .inr (.inr rfl)⟩
  · exact ⟨by decide, by decide, .inr (.inl rfl)⟩

/-- A state that the decoder comes to. -/
structure OkC (s : Chk) : Prop where
  ph : 0 ≤ s.ph ∧ s.ph ≤ 4
  line : s.line.length ≤ 128 ∨ crB s.line = true ∧ s.line.length ≤ 129
  tr : 0 ≤ s.tr ∧ s.tr ≤ 1024
  tr0 : s.ph ≤ 2 → s.tr = 0
  data : s.ph = 1 → 1 ≤ s.left ∧ s.left ≤ 1000000000
  left : ¬ s.ph = 1 → s.left = 0
  empty : s.ph = 1 ∨ s.ph = 4 → s.line = []
theorem okC_mk {p l t : Int} {ln : List UInt8} (h1 : 0 ≤ p ∧ p ≤ 4) (h2 : ln.length ≤ 128 ∨ crB ln = true ∧ ln.length ≤ 129) (h3 : 0 ≤ t ∧ t ≤ 1024) (h4 : p ≤ 2 → t = 0) (h5 : p = 1 → 1 ≤ l ∧ l ≤ 1000000000) (h6 : ¬ p = 1 → l = 0) (h7 : p = 1 ∨ p = 4 → ln = []) : OkC ⟨p, l, t, ln⟩ := ⟨h1, h2, h3, h4, h5, h6, h7⟩
theorem isBytes_some {w : World} {a : Option Addr} {m : List UInt8} {z : UInt8} {c : Nat} (h : IsBytes w a (m ++ [z]) c) : ∃ ad, a = some ad := by
  rcases h with ⟨_, e, _⟩ | ⟨x, e, _⟩
  · simp at e
  · exact ⟨x, e⟩
theorem OkC.len {s : Chk} (h : OkC s) : s.line.length ≤ 129 := by
  rcases h.line with h | ⟨_, h⟩ <;> omega
theorem okC_zero : OkC zeroC := ⟨by decide, .inl (by decide), by decide, fun _ => rfl, fun h => absurd h (by decide), fun _ => rfl, fun _ => rfl⟩
theorem okC_line {s : Chk} {y : ByteArray} (h : OkC s) (hl : s.line = []) (h1 : ¬ s.ph = 1) (h0 : (lineS s y).1 = 0) : OkC (lineS s y).2 := by
  obtain ⟨p, l, t, ln⟩ := s
  simp only [] at hl h1
  subst hl
  have hp := h.ph
  have hlf := h.left h1
  simp only [] at hp hlf
  have hpr := parse_range (szS y)
  unfold lineS at h0 ⊢
  simp only [] at h0 ⊢
  by_cases e0 : p = 0
  · rw [if_pos e0] at h0 ⊢
    have ht := h.tr0 (by show p ≤ 2; omega)
    simp only [] at ht
    split at h0
    · simp at h0
    · rename_i hn
      rw [if_neg hn]
      split at h0
      · rename_i hz
        rw [if_pos hz]
        by_cases hn0 : (parseS 16 1000000000 (szS y)).1 = 0
        · simp only [if_pos hn0]
          exact okC_mk (by decide) (.inl (by decide)) (by omega) (fun h => absurd h (by decide)) (fun h => absurd h (by decide)) (fun _ => hn0) (fun _ => rfl)
        · simp only [if_neg hn0]
          exact okC_mk (by decide) (.inl (by decide)) (by omega) (fun _ => ht) (fun _ => by omega) (fun h => absurd rfl h) (fun _ => rfl)
      · rename_i hz
        exact absurd h0 hz
  · rw [if_neg e0] at h0 ⊢
    by_cases e2 : p = 2
    · rw [if_pos e2] at h0 ⊢
      have ht := h.tr0 (by show p ≤ 2; omega)
      simp only [] at ht
      split at h0
      · rename_i hs
        rw [if_pos hs]
        exact okC_mk (by decide) (.inl (by decide)) (by omega) (fun _ => ht) (fun h => absurd h (by decide)) (fun _ => hlf) (fun _ => rfl)
      · simp at h0
    · rw [if_neg e2] at h0 ⊢
      have htr := h.tr
      simp only [] at htr
      by_cases e3 : p = 3
      · rw [if_pos e3] at h0 ⊢
        split at h0
        · rename_i hs
          rw [if_pos hs]
          exact okC_mk (by decide) (.inl (by decide)) htr (fun h => absurd h (by decide)) (fun h => absurd h (by decide)) (fun _ => hlf) (fun _ => rfl)
        · rename_i hs
          rw [if_neg hs]
          split at h0
          · rename_i hf
            rw [if_pos hf]
            exact okC_mk (by decide) (.inl (by decide)) htr (fun h => absurd h (by decide)) (fun h => absurd h (by decide)) (fun _ => hlf) (fun _ => rfl)
          · simp at h0
      · rw [if_neg e3]
        exact okC_mk hp (.inl (by decide)) htr h.tr0 h.data h.left (fun _ => rfl)
theorem okC_byte {s : Chk} {t : Int} {x : UInt8} (h : OkC s) (h1 : ¬ s.ph = 1) (h4 : ¬ s.ph = 4) (ht : 0 ≤ t ∧ t ≤ 1024) (ht0 : s.ph ≤ 2 → t = 0) (h0 : (byteS s t x).1 = 0) : OkC (byteS s t x).2 := by
  unfold byteS at h0 ⊢
  by_cases hc : crB s.line = false
  · rw [if_pos hc] at h0 ⊢
    have hl : s.line.length ≤ 128 := by
      rcases h.line with h | ⟨h, _⟩
      · exact h
      · rw [hc] at h; cases h
    by_cases hx : x = 10
    · rw [if_pos hx] at h0; simp at h0
    · rw [if_neg hx] at h0 ⊢
      by_cases hb : 128 < s.line.length + 1 ∧ ¬ x = 13
      · rw [if_pos hb] at h0; simp at h0
      · rw [if_neg hb]
        refine ⟨h.ph, ?_, ht, ht0, h.data, h.left, fun e => ?_⟩
        · by_cases h13 : x = 13
          · exact .inr ⟨by show crB (s.line ++ [x]) = true; rw [crB_app, h13]; rfl, by show (s.line ++ [x]).length ≤ 129; simp; omega⟩
          · refine .inl ?_
            show (s.line ++ [x]).length ≤ 128
            simp
            have : ¬ 128 < s.line.length + 1 := fun h => hb ⟨h, h13⟩
            omega
        · rcases e with e | e
          · exact absurd e h1
          · exact absurd e h4
  · rw [if_neg hc] at h0 ⊢
    by_cases hx : x = 10
    · rw [if_pos hx] at h0 ⊢
      exact okC_line ⟨h.ph, .inl (by show ([] : List UInt8).length ≤ 128; simp), ht, ht0, h.data, h.left, fun _ => rfl⟩ rfl h1 h0
    · rw [if_neg hx] at h0; simp at h0
theorem okC_step {s : Chk} {x : UInt8} (h : OkC s) (h1 : ¬ s.ph = 1) (h4 : ¬ s.ph = 4) (h0 : (stepS s x).1 = 0) : OkC (stepS s x).2 := by
  unfold stepS at h0 ⊢
  by_cases h3 : s.ph = 3
  · rw [if_pos h3] at h0 ⊢
    by_cases hm : 1024 < s.tr + 1
    · rw [if_pos hm] at h0; simp at h0
    · rw [if_neg hm] at h0 ⊢
      exact okC_byte h h1 h4 (by have := h.tr; omega) (fun e => by omega) h0
  · rw [if_neg h3] at h0 ⊢
    exact okC_byte h h1 h4 h.tr h.tr0 h0
theorem okC_data {s : Chk} (h : OkC s) (h1 : s.ph = 1) : OkC ⟨if s.left - 1 = 0 then 2 else 1, s.left - 1, s.tr, s.line⟩ := by
  have hd := h.data h1
  by_cases e : s.left - 1 = 0
  · simp only [if_pos e]
    exact okC_mk (by decide) h.line h.tr (fun _ => h.tr0 (by omega)) (fun h => absurd h (by decide)) (fun _ => e) (fun _ => h.empty (.inl h1))
  · simp only [if_neg e]
    exact okC_mk (by decide) h.line h.tr (fun _ => h.tr0 (by omega)) (fun _ => by omega) (fun h => absurd rfl h) (fun _ => h.empty (.inl h1))
end Go.Proofs.YteoadfckcilalaaGreatDoor
namespace Go.Proofs.YteoadfckcilalaaGreatDoor
open Go.RowKit

theorem results_row_tmp3C {P : Program} {fn : Func} {q1 q2 q3 p : Tmp} {ty : TypeId} (h : fn.results = #[.cell p ty, .tmp q1, .tmp q2, .tmp q3]) (tmps : Array Value) (w : World) (g : Nat) (t : TypeId) (cs : Array Value) (fr : Nat × Nat) (d : TypeDesc)
    (hp : tmps.getD p undef = .pointer (some ⟨g, 0, none⟩)) (hg : w.heap[g]? = some (.cells cs t fr))
    (hu : P.underlying ty = some d) (hd : (match d with | .struct _ | .array _ _ => true | _ => false) = true) (hi : (P.info? ty).map (·.size) = some cs.size) :
    (results fn tmps).run P w = .ok (.tuple #[.agg cs, tmps.getD q1 undef, tmps.getD q2 undef, tmps.getD q3 undef]) w := by
  have hp' : tmps[p]?.getD undef = .pointer (some ⟨g, 0, none⟩) := by simpa using hp
  simp [results, h, hp', asAddr, run_loadVar_row w g t ty cs fr d hg hu hd hi]

theorem feedS_nil (room : Int) (s : Chk) (out : List UInt8) (i : Nat) : feedS room s out i [] = (0, s, out, i) := rfl
theorem feedS_stop {room : Int} {s : Chk} {out : List UInt8} {i : Nat} {x : UInt8} {r : List UInt8} (h : s.ph = 4 ∨ s.ph = 1 ∧ room ≤ out.length) : feedS room s out i (x :: r) = (0, s, out, i) := by rw [feedS, if_pos h]
theorem feedS_data {room : Int} {s : Chk} {out : List UInt8} {i : Nat} {x : UInt8} {r : List UInt8} (h1 : s.ph = 1) (h : ¬ room ≤ out.length) : feedS room s out i (x :: r) = feedS room ⟨if s.left - 1 = 0 then 2 else 1, s.left - 1, s.tr, s.line⟩ (out ++ [x]) (i + 1) r := by
  rw [feedS, if_neg (by rintro (h4 | h4); · omega
                        · exact h h4.2), if_pos h1]
theorem feedS_ok {room : Int} {s : Chk} {out : List UInt8} {i : Nat} {x : UInt8} {r : List UInt8} (h4 : ¬ s.ph = 4) (h1 : ¬ s.ph = 1) (h0 : (stepS s x).1 = 0) : feedS room s out i (x :: r) = feedS room (stepS s x).2 out (i + 1) r := by
  rw [feedS, if_neg (by rintro (h | h); · exact h4 h
                        · exact h1 h.1), if_neg h1, if_pos h0]
theorem feedS_err {room : Int} {s : Chk} {out : List UInt8} {i : Nat} {x : UInt8} {r : List UInt8} (h4 : ¬ s.ph = 4) (h1 : ¬ s.ph = 1) (h0 : ¬ (stepS s x).1 = 0) : feedS room s out i (x :: r) = ((stepS s x).1, zeroC, [], 0) := by
  rw [feedS, if_neg (by rintro (h | h); · exact h4 h
                        · exact h1 h.1), if_neg h1, if_neg h0]
theorem add_blockC (x : Addr) (j : Nat) : (x.add j).block = x.block := by unfold Addr.add; split <;> rfl
theorem isBytes_at {w : World} {a : Option Addr} {l : List UInt8} {c : Nat} (h : IsBytes w a l c) {k : Nat} (hk : k < l.length) : ∃ ad, a = some ad ∧ w.cell? (ad.add k) = some (.int .u8 (l[k].toNat : Int)) := by
  rcases h with ⟨_, e, _⟩ | ⟨x, e, _, _, hc⟩
  · subst e; simp at hk
  · exact ⟨x, e, hc k hk⟩
theorem CVar.away {w : World} {g : Nat} {p lf t : Int} {va : Option Addr} {n vc : Nat} {a : Option Addr} {l : List UInt8} {c : Nat} (h : CVar w g p lf t (.slice va n vc)) (hb : IsBytes w a l c) : ∀ x, a = some x → l ≠ [] → x.block ≠ g := by
  intro x hx hl hg
  rcases hb with ⟨h1, _⟩ | ⟨y, h1, _, _, h4⟩
  · rw [h1] at hx; cases hx
  · rw [h1] at hx
    obtain rfl := Option.some.inj hx
    have h5 := h4 0 (List.length_pos_iff.2 hl)
    have h6 : w.heap[(y.add 0).block]? = some (.cells #[.int .i64 p, .int .i64 lf, .int .i64 t, .slice va n vc] 35 (0, 0)) := by rw [add_blockC, hg]; exact h
    unfold World.cell? at h5
    rw [h6] at h5
    simp only at h5
    split at h5
    · cases h5
    · match hq : (y.add 0).off with
      | 0 => rw [hq] at h5; simp at h5
      | 1 => rw [hq] at h5; simp at h5
      | 2 => rw [hq] at h5; simp at h5
      | 3 => rw [hq] at h5; simp at h5
      | m + 4 => rw [hq] at h5; simp at h5
theorem CVar.setCB {w : World} {g i : Nat} {p lf t : Int} {va : Option Addr} {n vc : Nat} {a : Option Addr} {l : List UInt8} {c : Nat} {u : Value} (h : CVar w g p lf t (.slice va n vc)) (hb : IsBytes w a l c) : IsBytes (w.setCell ⟨g, i, none⟩ u) a l c :=
  hb.same fun x hx hl => heap_setCell_other _ _ _ _ (h.away hb x hx hl)
theorem CVar.row {w : World} {g k : Nat} {p l t : Int} {v : Value} {cs : Array Value} (h : CVar w g p l t v) (hne : g ≠ k) : CVar (w.setRow k cs) g p l t v := by
  unfold CVar; rw [setRow_other _ _ _ _ hne]; exact h
theorem CVar.set4 {w : World} {g : Nat} {p0 l0 t0 p l t : Int} {v0 u : Value} (h : CVar w g p0 l0 t0 v0) : CVar ((((w.setCell ⟨g, 0, none⟩ (.int .i64 p)).setCell ⟨g, 1, none⟩ (.int .i64 l)).setCell ⟨g, 2, none⟩ (.int .i64 t)).setCell ⟨g, 3, none⟩ u) g p l t u := h.setP.setL.setT.setV
theorem CVar.set4B {w : World} {g : Nat} {p0 l0 t0 p l t : Int} {va : Option Addr} {n vc : Nat} {u : Value} {a : Option Addr} {r : List UInt8} {c : Nat} (h : CVar w g p0 l0 t0 (.slice va n vc)) (hb : IsBytes w a r c) :
    IsBytes ((((w.setCell ⟨g, 0, none⟩ (.int .i64 p)).setCell ⟨g, 1, none⟩ (.int .i64 l)).setCell ⟨g, 2, none⟩ (.int .i64 t)).setCell ⟨g, 3, none⟩ u) a r c :=
  h.setP.setL.setT.setCB (h.setP.setL.setCB (h.setP.setCB (h.setCB hb)))
theorem below_set4 {B g : Nat} {w0 w : World} {u0 u1 u2 u3 : Value} (hb : Below B w0 w) (hg : B ≤ g) : Below B w0 ((((w.setCell ⟨g, 0, none⟩ u0).setCell ⟨g, 1, none⟩ u1).setCell ⟨g, 2, none⟩ u2).setCell ⟨g, 3, none⟩ u3) :=
  (((hb.setCell (p := ⟨g, 0, none⟩) hg u0).setCell (p := ⟨g, 1, none⟩) hg u1).setCell (p := ⟨g, 2, none⟩) hg u2).setCell (p := ⟨g, 3, none⟩) hg u3
theorem isBytes_oneC (w : World) (x : UInt8) : IsBytes (w.alloc (.cells #[.int .u8 (x.toNat : Int)] 5)) (some ⟨w.heap.size, 0, none⟩) [x] 1 := by
  refine .inr ⟨_, rfl, Nat.le_refl _, by decide, fun j hj => ?_⟩
  obtain rfl : j = 0 := by simpa using hj
  rw [Addr.add_lit, new_cellF]; rfl
theorem CVar.grownC {w w' : World} {g : Nat} {p l t : Int} {v : Value} {row : Option Nat} (h : CVar w g p l t v) (hg : w.grownBy w' row) (hne : some g ≠ row) : CVar w' g p l t v := by
  unfold CVar at *
  rw [hg.block g (Array.getElem?_eq_some_iff.1 h).1 hne]; exact h
theorem grownBy_afterC {w w1 w2 : World} {row : Option Nat} (h : Below w.heap.size w w1) (k : w1.grownBy w2 row) : w.grownBy w2 row :=
  ⟨k.os.trans h.os, k.tape.trans h.tape, k.output.trans h.output, Nat.le_trans h.size k.size, fun i hi hne => (k.block i (Nat.lt_of_lt_of_le hi h.size) hne).trans (h.block i hi)⟩
section
variable {Q : Exit → Act → World → Prop} {act : Act} {w : World} {o : Oper} {s : Spec} {K : Act → World → Prop}
end
section
variable {Q : Exit → Act → World → Prop} {act : Act} {w : World} {o : Oper} {s : Spec} {K : Act → World → Prop}
end
end Go.Proofs.YteoadfckcilalaaGreatDoor
namespace Go.Proofs.YteoadfckcilalaaGreatDoor
open Go.RowKit

theorem isBytes_bytesWorld (w : World) (s : ByteArray) (hs : s.size ≤ 4000000000) : IsBytes (Lib.bytesWorld w 5 s) (some ⟨w.heap.size, 0, none⟩) s.data.toList (grownCap w s.size 0 5) := by
  refine .inr ⟨_, rfl, ?_, ?_, fun j hj => ?_⟩
  · have := grownCap_ge w s.size 0 5
    simpa using this
  · exact grownCap_le_maxLen w s.size 0 5 (by unfold maxLen; omega)
  · have hj' : j < s.size := by simpa using hj
    rw [Addr.add_lit, Nat.zero_add, Lib.bytesWorld_cell w 5 s j hj']
    simp [List.getD_eq_getElem?_getD, List.getElem?_eq_getElem hj]
theorem agg_slcG (w : World) : (isAgg 23).run Tryz.prog w = .ok false w := by
  unfold isAgg; rw [Sem.run_bind, run_underlying Tryz.underlying23 w]; rfl
section
variable {Q : Exit → Act → World → Prop} {act : Act} {w : World} {o : Oper} {s : Spec}
end
end Go.Proofs.YteoadfckcilalaaGreatDoor
namespace Go.Proofs.YteoadfckcilalaaGreatDoor
open Go.ChangeShapes Go.WideShapes Go.ChangeAt Go.RowKit

def dB64 : List Int := [0, 1, 56, 2, 57, 49, 28, 3, 61, 58, 42, 50, 38, 29, 17, 4, 62, 47, 59, 36, 45, 43, 51, 22, 53, 39, 33, 30, 24, 18, 12, 5, 63, 55, 48, 27, 60, 41, 37, 16, 46, 35, 44, 21, 52, 32, 23, 11, 54, 26, 40, 15, 34, 20, 31, 10, 25, 14, 19, 9, 13, 8, 7, 6]
/-- The tables of the library out of the list of laid variables. -/
theorem tabs_of_laid {W : World} {l : List (String × DataW Unit)} (h : laidMetH Tryz.prog l W)
    (e1 : l.filter (fun x => x.1 == "internal/strconv.uint64pow10") = [("internal/strconv.uint64pow10", Lib.tabData .u64 Lib.pow10Tab)])
    (e2 : l.filter (fun x => x.1 == "math/bits.deBruijn64tab") = [("math/bits.deBruijn64tab", Lib.tabData .u8 dB64)]) : Tabs W := by
  have h1 := h.filter (fun x => x.1 == "internal/strconv.uint64pow10")
  have h2 := h.filter (fun x => x.1 == "math/bits.deBruijn64tab")
  rw [e1] at h1
  rw [e2] at h2
  rw [MakeChecks.laidMetH_plain _ _ _ (by kernel_rfl)] at h1 h2
  have t1 := Lib.tabIs_of_head (g := 2) (t := 216) (e := 132) (n := 20) (by kernel_rfl) (by kernel_rfl) (by kernel_rfl) (by kernel_rfl) (by kernel_rfl) (by kernel_rfl) h1
  have t2 := Lib.tabIs_of_head (g := 4) (t := 237) (e := 5) (n := 64) (by kernel_rfl) (by kernel_rfl) (by kernel_rfl) (by kernel_rfl) (by kernel_rfl) (by kernel_rfl) h2
  refine ⟨t1, t2.cell (by kernel_rfl) 15 (by decide), lt_cell (t1.cell (by kernel_rfl) 0 (by decide))⟩
end Go.Proofs.YteoadfckcilalaaGreatDoor
namespace Go.Proofs.YteoadfckcilalaaGreatDoor
open Go.ChangeShapes Go.WideShapes Go.ChangeAt Go.RowKit

set_option linter.unusedVariables false
def rowC (p : Int × ByteArray) : List Value := [.int .i64 p.1, .string p.2]
def reasV : Array Value := (reasL.flatMap rowC).toArray
/-- The table lies in its variable. -/
def ReasT (w : World) : Prop := ∃ T fz, w.heap[0]? = some (.cells reasV T fz)
theorem ReasT.keep {w w' : World} (h : ReasT w) (hb : Below w.heap.size w w') : ReasT w' := by
  obtain ⟨T, fz, h⟩ := h
  exact ⟨T, fz, (hb.block _ (lt_row h)).trans h⟩
def rowData {H : Type} (zs : List (Int × ByteArray)) : DataW H := .agg (zs.map fun p => .agg [.lit (.int .i64 p.1), .lit (.string p.2.data.toList)])
theorem chunks2 : ∀ (zs : List (Int × ByteArray)) (cs : List Value), cs.length = 2 * zs.length → (∀ (i : Nat) p, zs[i]? = some p → (cs.drop (i * 2)).take 2 = rowC p) → cs = zs.flatMap rowC
  | [], cs, hl, _ => List.eq_nil_of_length_eq_zero hl
  | p :: zs, cs, hl, h => by
    have h0 := h 0 p rfl
    rw [Nat.zero_mul, List.drop_zero] at h0
    have ih := chunks2 zs (cs.drop 2) (by rw [List.length_drop, hl, List.length_cons]; omega) fun i q hq => by
      have := h (i + 1) q hq
      rw [List.drop_drop, show 2 + i * 2 = (i + 1) * 2 by omega]
      exact this
    rw [List.flatMap_cons, ← ih, ← h0, List.take_append_drop]
theorem ba_inj {a b : ByteArray} (h : a.data.toList = b.data.toList) : a = b := by
  cases a; cases b
  simp only at h
  rw [Array.toList_inj.1 h]
theorem cells_of_rows {H : Type} {enc : TypeId × Value → H} {W : World} {base : Nat} {sp : Nat → Bool} {held : Bool} {fuel : Nat} {cs : List Value} {zs : List (Int × ByteArray)} {ps : List MemPlace} (hz : zs.length = 12)
    (h : DataW.trod enc Tryz.prog W base sp held fuel 139 cs = some (rowData zs, ps)) : cs = zs.flatMap rowC := by
  have hct : Tryz.prog.cellsOf 139 = 24 := by kernel_rfl
  have hce : Tryz.prog.cellsOf 138 = 2 := by kernel_rfl
  have hci : Tryz.prog.cellsOf 3 = 1 := by kernel_rfl
  have hcs : Tryz.prog.cellsOf 9 = 1 := by kernel_rfl
  cases fuel with
  | zero => simp [DataW.trod] at h
  | succ fuel =>
    simp only [DataW.trod, Tryz.underlying139, hce, hct] at h
    split at h
    · rename_i hl
      obtain ⟨xs, hm, hx⟩ := Option.map_eq_some_iff.1 h
      have hxs : xs.map (·.1) = zs.map fun p => (DataW.agg [.lit (.int .i64 p.1), .lit (.string p.2.data.toList)] : DataW H) := by
        have := congrArg Prod.fst hx
        simpa [rowData] using this
      have hxl : xs.length = 12 := by simpa using Lib.mapM_length hm
      refine chunks2 zs cs (by rw [hz]; simpa using hl) fun i p hp => ?_
      have hi : i < 12 := by rw [← hz]; exact (List.getElem?_eq_some_iff.1 hp).1
      obtain ⟨b, hb, hf⟩ := Lib.mapM_at hm i i (by simp [hi])
      have h2 : (xs.map (·.1))[i]? = some b.1 := by simp [hb]
      rw [hxs] at h2
      simp only [List.getElem?_map, hp, Option.map_some, Option.some.injEq] at h2
      obtain ⟨y0, y1, n, hdp, _, h0, h1⟩ := trod_struct2 Tryz.underlying138 hf
      obtain ⟨z, ez, fz, _⟩ := DataW.trod_int Tryz.underlying3 h0
      obtain ⟨s, es, fs, _⟩ := DataW.trod_string Tryz.underlying9 h1
      have hd : b.1 = .agg [y0.1, y1.1] := congrArg Prod.fst hdp
      rw [hd, fz, fs] at h2
      simp only [DataW.agg.injEq, List.cons.injEq, DataW.lit.injEq, Lit.int.injEq, Lit.string.injEq, true_and, and_true] at h2
      obtain ⟨e1, e2⟩ := h2
      have e3 := ba_inj e2
      subst e1 e3
      rw [hci] at ez
      rw [hcs] at es
      rw [List.drop_zero] at ez
      generalize (cs.drop (i * 2)).take 2 = l at *
      show l = [.int .i64 p.1, .string p.2]
      have e4 : l = l.take 1 ++ l.drop 1 := (List.take_append_drop 1 l).symm
      have hll : (l.drop 1).length ≤ 1 := by
        have : l.length = 2 := by
          have h9 := Tryz.underlying138
          obtain ⟨_, _, _, _, hq, _⟩ := trod_struct2 h9 hf
          rw [hce] at hq; exact hq
        rw [List.length_drop, this]; omega
      rw [e4, ez, ← List.take_of_length_le hll, es]; rfl
    · cases h
theorem reas_of_laid {W : World} {l : List (String × DataW Unit)} (h : laidMetH Tryz.prog l W)
    (e1 : l.filter (fun x => x.1 == "canary/writer.reasons") = [("canary/writer.reasons", rowData reasL)]) : ReasT W := by
  have h1 := h.filter (fun x => x.1 == "canary/writer.reasons")
  rw [e1] at h1
  rw [MakeChecks.laidMetH_plain _ _ _ (by kernel_rfl)] at h1
  obtain ⟨ps, ⟨g', t', cs, fuel, p, q, hg', ht', hvar, hd, _, _⟩, _⟩ := h1
  have hg : Tryz.prog.globalNamed "canary/writer.reasons" = some 0 := by kernel_rfl
  have hty : (Tryz.prog.globals[0]?).map (·.type) = some 139 := by kernel_rfl
  obtain rfl := Option.some.inj (hg.symm.trans hg')
  obtain rfl := Option.some.inj (hty.symm.trans ht')
  have hc := cells_of_rows (by rfl) hd
  unfold World.var? at hvar
  rw [hg, Option.bind_some] at hvar
  split at hvar
  · rename_i cs2 T fz hrow
    have e := Option.some.inj hvar
    refine ⟨T, fz, ?_⟩
    rw [hrow, e]
    unfold reasV
    rw [← hc]
    try rfl
  · cases hvar
theorem info_row (W : World) : (sizeOf 138).run Tryz.prog W = .ok 2 W := by
  have h : (Tryz.prog.info? 138).map (·.size) = some 2 := by kernel_rfl
  cases hq : Tryz.prog.info? 138 with
  | none => simp [hq] at h
  | some i => simp [hq] at h; simp [sizeOf, typeInfo, hq, h]
theorem agg_row (W : World) : (isAgg 138).run Tryz.prog W = .ok true W := by
  unfold isAgg
  rw [Sem.run_bind, run_underlying Tryz.underlying138 W]; rfl
theorem reasV_at : ∀ k : Fin 12, reasV.extract (k.val * 2) (k.val * 2 + 2) = #[.int .i64 (reasL.getD k.val (0, errR)).1, .string (reasL.getD k.val (0, errR)).2] := by
  intro k
  match k with
  | ⟨0, _⟩ => rfl
  | ⟨1, _⟩ => rfl
  | ⟨2, _⟩ => rfl
  | ⟨3, _⟩ => rfl
  | ⟨4, _⟩ => rfl
  | ⟨5, _⟩ => rfl
  | ⟨6, _⟩ => rfl
  | ⟨7, _⟩ => rfl
  | ⟨8, _⟩ => rfl
  | ⟨9, _⟩ => rfl
  | ⟨10, _⟩ => rfl
  | ⟨11, _⟩ => rfl
theorem run_index_reas (W : World) (k : Nat) (hk : k < 12) : (Instr.index 139 (.agg reasV) (.int .i64 (k : Int))).run Tryz.prog W = .ok (.agg #[.int .i64 (reasL.getD k (0, errR)).1, .string (reasL.getD k (0, errR)).2]) W := by
  have h1 : (0 : Int) ≤ (k : Int) ∧ (k : Int) < ((12 : Nat) : Int) := ⟨by omega, by omega⟩
  simp only [Instr.index, asIntOf, Sem.run_bind, Sem.run_pure, Result.andThen_ok, run_underlying Tryz.underlying139, h1, and_self, if_true, info_row, part, agg_row, Int.toNat_natCast]
  rw [reasV_at ⟨k, hk⟩]
theorem reasG_drop {k : Nat} (hk : k < 12) (st : Int) : reasG (reasL.drop k) st = if (reasL.getD k (0, errR)).1 = st then (reasL.getD k (0, errR)).2 else reasG (reasL.drop (k + 1)) st := by
  have hlt : k < reasL.length := hk
  rw [List.drop_eq_getElem_cons hlt, List.getD_eq_getElem?_getD, List.getElem?_eq_getElem hlt]
  rfl
set_option maxRecDepth 100000 in
set_option maxHeartbeats 2000000 in
theorem projReason_any (st : Int) (w : World) (h : ReasT w) : Calls Tryz.prog 76 #[.int .i64 st] w fun e w' => e = .returned (.string (reasS st)) ∧ Below w.heap.size w w' := by
  obtain ⟨T, fz, hrow⟩ := h
  obtain ⟨cs, hcs⟩ : ∃ cs, cs = reasV := ⟨_, rfl⟩
  have HIX := Box.mk (show ∀ (k : Nat) (W : World), k < 12 → (Instr.index 139 (.agg cs) (.int .i64 (k : Int))).run Tryz.prog W = .ok (.agg #[.int .i64 (reasL.getD k (0, errR)).1, .string (reasL.getD k (0, errR)).2]) W from fun k W hk => by rw [hcs]; exact run_index_reas W k hk)
  have HSZ := Box.mk (show (Tryz.prog.info? 139).map (·.size) = some cs.size by rw [hcs]; kernel_rfl)
  rw [← hcs] at hrow
  have HROW := Box.mk hrow
  clear hrow hcs
  go_enter Tryz.func76, Tryz.ntmps76
  go_wp2_with (refine wpList_load_row rfl 139 _ rfl 0 rfl T cs fz _ HROW.out Tryz.underlying139 rfl HSZ.out ?_)
  go_loopw [6] (fun iv wr => ∃ k : Nat, k ≤ 12 ∧ iv = .int .i64 k ∧ Box (Below w.heap.size w wr ∧ reasG (reasL.drop k) st = reasS st)) (fun iv _ => 12 - (intOf iv).toNat)
  case atStart => exact ⟨0, Nat.zero_le _, rfl, ⟨Below.refl _ _, rfl⟩⟩
  case round =>
    obtain ⟨k, hk, rfl, HM⟩ := hrel
    by_cases hlt : k < 12
    · have hix := fun W => HIX.out k W hlt
      have HD := Box.mk (reasG_drop hlt st)
      generalize (reasL.getD k (0, errR)).1 = n at *
      generalize (reasL.getD k (0, errR)).2 = s at *
      have HB2 := Box.mk (below_trans HM.out.1 (below_oneF wr (.cells #[.int .i64 n, .string s] 138)))
      by_cases hn : n = st
      · have HE := Box.mk (show s = reasS st by have := HD.out; rw [if_pos hn, HM.out.2] at this; exact this.symm)
        subst hn
        go_wp2_with fail
        go_ret
        exact ⟨ret_str HE.out, HB2.out⟩
      · have HE := Box.mk (show reasG (reasL.drop (k + 1)) st = reasS st by have := HD.out; rw [if_neg hn, HM.out.2] at this; exact this.symm)
        have hn2 : (n == st) = false := by rw [beq_eq_false_iff_ne]; exact hn
        clear hn
        go_wp2_with fail
        go_roundw
        case rel => exact ⟨k + 1, by omega, by go_num, ⟨HB2.out, HE.out⟩⟩
        case measure => simp [intOf]; omega
    · have HE := Box.mk (show errR = reasS st by
        have := HM.out.2
        rw [show k = 12 by omega] at this
        exact this)
      go_wp2_with fail
      go_ret
      exact ⟨ret_str HE.out, HM.out.1⟩
end Go.Proofs.YteoadfckcilalaaGreatDoor
namespace Go.Proofs.YteoadfckcilalaaGreatDoor
open Go.RowKit

set_option linter.unusedVariables false
/-- Nothing, or bytes in a block of the call's own. -/
def Hdo (B : Nat) (w : World) (v : Value) (l : List UInt8) : Prop := (l = [] ∧ v = .slice none 0 0) ∨ OwnM B w v l
theorem Hdo.keep {B : Nat} {w w' : World} {v : Value} {l : List UInt8} (h : Hdo B w v l) (hb : Below w.heap.size w w') : Hdo B w' v l := h.imp id fun h => h.keep hb
theorem Hdo.low {B B' : Nat} {w : World} {v : Value} {l : List UInt8} (h : Hdo B w v l) (hB : B' ≤ B) : Hdo B' w v l := h.imp id fun h => h.low hB
theorem Hdo.form {B : Nat} {w : World} {v : Value} {l : List UInt8} (h : Hdo B w v l) : ∃ a c, v = .slice a l.length c ∧ IsBytes w a l c := by
  rcases h with ⟨rfl, rfl⟩ | h
  · exact ⟨none, 0, rfl, .inl ⟨rfl, rfl, rfl⟩⟩
  · obtain ⟨g, c, h1, _, h2⟩ := h.form
    exact ⟨_, c, h1, h2⟩
theorem Hdo.block {B : Nat} {w : World} {v : Value} {l : List UInt8} (h : Hdo B w v l) : ∀ q, v.ownBlock = some q → B ≤ q := fun q e => by
  rcases h with ⟨_, rfl⟩ | h
  · cases e
  · exact (h.lt e).1
theorem Hdo.bytesV {B : Nat} {w : World} {v : Value} {l : List UInt8} (h : Hdo B w v l) : BytesV w v l := h.form
def Spec.hdo (B : Nat) (l : List UInt8) : Spec := ⟨fun v w => Hdo B w v l, fun _ _ _ h hb => h.keep hb⟩
def RetHdO (w : World) (l : List UInt8) (e : Ending) (w' : World) : Prop := ∃ v, e = .returned v ∧ Hdo w.heap.size w' v l ∧ Below w.heap.size w w'
theorem RetHd.hdo {w w' : World} {l : List UInt8} {e : Ending} (h : RetHd w l e w') (h1 : l.length ≤ 4000000000) : RetHdO w l e w' := by
  by_cases h0 : 0 < l.length
  · obtain ⟨v, rfl, ho, hb⟩ := h.own h0 h1
    exact ⟨v, rfl, .inr ho, hb⟩
  · rcases h with ⟨rfl, rfl, hb⟩ | ⟨W, s, _, hp, _⟩
    · exact ⟨_, rfl, .inl ⟨rfl, rfl⟩, hb⟩
    · exact absurd hp h0
/-- A message: its head and its body, or nothing. -/
def wrB (l d : List UInt8) : List UInt8 := if l.length = 0 then [] else l ++ d
set_option maxRecDepth 100000 in
set_option maxHeartbeats 4000000 in
theorem projFormatO_any (s : ByteArray) (x : List Fld) (fa : Option Addr) (fc : Nat) (w : World) (hx : FldsIn w fa x) (hz : SmallF x) (hl : x.length ≤ 100) (hq : s.size ≤ 3000000000) :
    Calls Tryz.prog 68 #[.string s, .slice fa x.length fc] w (RetHdO w (headB s x)) := by
  have HN := Box.mk (fun h => headB_no (s := s) (x := x) h)
  have HY := Box.mk (fun h h2 => headB_yes (s := s) (x := x) h h2)
  have HFM := Box.mk (fFormat_any x fa fc w hx hz (by omega))
  have HC := Box.mk (fmtF_cases x)
  have HL := Box.mk (show (linesB x).length ≤ 100 * 2097156 by
    have h1 := linesB_len x hz x.length
    rw [List.take_length] at h1
    exact Nat.le_trans h1 (Nat.mul_le_mul_right _ hl))
  generalize headB s x = R at *
  generalize fmtF x = f at *
  clear hx hz
  go_enter Tryz.func68, Tryz.ntmps68
  go_wp2_with fail
  refine HFM.out.mono ?_
  rintro e w1 ⟨rfl, hb1⟩
  have HB1 := Box.mk hb1
  clear hb1 HFM
  by_cases h0 : s.size = 0
  · have he := empty_s h0
    have HP := Box.mk (HN.out (.inl h0))
    clear h0
    go_wp2_with fail
    go_ret
    rw [HP.out]
    exact ⟨_, rfl, .inl ⟨rfl, rfl⟩, HB1.out⟩
  · have he := full_s h0
    have H0 := Box.mk h0
    have hs1 : 0 < s.size := by omega
    clear h0
    rcases HC.out with ⟨hv, hf, hf0⟩ | ⟨hv, hf, hx0⟩
    · have HP := Box.mk (HY.out H0.out hv)
      have HF := Box.mk hf
      have hfz : f.size ≤ 100 * 2097156 := by
        have h2 := congrArg List.length hf
        rw [Array.length_toList] at h2
        have h3 : f.data.size = f.size := rfl
        have := HL.out
        omega
      have hadd1 := fun W => run_string_add_sum (P := Tryz.prog) (w := W) s ⟨#[13, 10]⟩ (by show s.size + 2 ≤ _; omega)
      obtain ⟨s1, hs1⟩ : ∃ s1, s1 = s ++ (⟨#[13, 10]⟩ : ByteArray) := ⟨_, rfl⟩
      rw [← hs1] at hadd1
      have hs1z : s1.size = s.size + 2 := by rw [hs1, ByteArray.size_append]; rfl
      have hadd2 := fun W => run_string_add_sum (P := Tryz.prog) (w := W) s1 f (by omega)
      obtain ⟨s2, hs2⟩ : ∃ s2, s2 = s1 ++ f := ⟨_, rfl⟩
      rw [← hs2] at hadd2
      have hs2z : s2.size = s.size + 2 + f.size := by rw [hs2, ByteArray.size_append, hs1z]
      have hadd3 := fun W => run_string_add_sum (P := Tryz.prog) (w := W) s2 ⟨#[13, 10]⟩ (by show s2.size + 2 ≤ _; omega)
      obtain ⟨s3, hs3⟩ : ∃ s3, s3 = s2 ++ (⟨#[13, 10]⟩ : ByteArray) := ⟨_, rfl⟩
      rw [← hs3] at hadd3
      have HS3 := Box.mk (show s3.data.toList = R by
        rw [HP.out, hs3, hs2, hs1, ← HF.out]
        simp)
      have hs3z : s3.size = s2.size + 2 := by rw [hs3, ByteArray.size_append]; rfl
      have HZ3 := Box.mk (show s3.size ≤ 4000000000 by rw [hs3z, hs2z]; omega)
      have hcvb := fun W => Lib.run_convert_string_bytes (P := Tryz.prog) W 9 23 5 s3 Tryz.underlying9 Tryz.underlying23 Tryz.underlying5
      have HRL := Box.mk (show R.length = s3.size by rw [← HS3.out, Array.length_toList]; rfl)
      have HW := Box.mk (fun W => OwnM.conv W s3 ?hz)
      case hz => exact HZ3.out
      clear hs1 hs2 hs3 hs1z hs2z hv hf HC HN HY HL hs3z
      by_cases hfe : f.size = 0
      · have hfe2 := empty_s hfe
        obtain rfl := hf0 hfe
        clear hf0 hfe
        go_wp2_with fail
        go_ret
        have how := HW.out w1
        rw [HS3.out] at how
        exact ⟨_, rfl, .inr (how.low HB1.out.size), below_trans HB1.out (below_convH _ _ _)⟩
      · have hfe2 := full_s hfe
        clear hf0 hfe
        go_wp2_with fail
        go_ret
        have how := HW.out w1
        rw [HS3.out] at how
        exact ⟨_, rfl, .inr (how.low HB1.out.size), below_trans HB1.out (below_convH _ _ _)⟩
    · have he2 := empty_s hf
      have HP := Box.mk (HN.out (.inr hv))
      have hxl : 0 < x.length := List.length_pos_iff.2 hx0
      clear hv hx0 HN HY HC hf
      go_wp2_with fail
      go_ret
      rw [HP.out]
      exact ⟨_, rfl, .inl ⟨rfl, rfl⟩, HB1.out⟩
set_option maxRecDepth 100000 in
set_option maxHeartbeats 4000000 in
theorem join_any (B : Nat) (v : Value) (l d : List UInt8) (da : Option Addr) (dc : Nat) (w : World) (h : Hdo B w v l) (hd : IsBytes w da d dc) (hl : l.length + d.length ≤ 1000000000) (hB : B ≤ w.heap.size) :
    Calls Tryz.prog 46 #[v, .slice da d.length dc] w fun e w' => ∃ v', e = .returned v' ∧ Hdo B w' v' (wrB l d) ∧ w.grownBy w' v.ownBlock := by
  by_cases h0 : l.length = 0
  · obtain ⟨a, c, rfl, hb⟩ := h.form
    have HW := Box.mk (show wrB l d = [] from if_pos h0)
    rw [h0]
    clear h hb hd hl h0
    go_enter Tryz.func46, Tryz.ntmps46
    go_wp2_with fail
    go_ret
    exact ⟨_, rfl, .inl ⟨HW.out, rfl⟩, ⟨rfl, rfl, rfl, Nat.le_refl _, fun _ _ _ => rfl⟩⟩
  · have ho : OwnM B w v l := by
      rcases h with ⟨rfl, _⟩ | h
      · exact absurd rfl h0
      · exact h
    obtain ⟨g, c, rfl, _, hib⟩ := ho.form
    have HW := Box.mk (show wrB l d = l ++ d from if_neg h0)
    have HO := Box.mk ho
    have HD := Box.mk hd
    have HL := Box.mk hl
    have hz : ((l.length : Int) == 0) = false := by rw [beq_eq_false_iff_ne]; omega
    clear h hd hl h0 ho hib
    go_enter Tryz.func46, Tryz.ntmps46
    go_wp2_with (at_builtin; refine wpList_append_mb _ rfl _ _ rfl rfl HO.out rfl HD.out HL.out hB ?c9)
    case c9 =>
      intro v7 w7 hown7 hg7 hn7
      have HR := Box.mk (And.intro hown7 hg7)
      clear hown7 hg7 hn7
      go_wp2_with fail
      go_ret
      exact ⟨v7, rfl, .inr (by rw [HW.out]; exact HR.out.1), HR.out.2⟩
set_option maxRecDepth 100000 in
set_option maxHeartbeats 4000000 in
theorem projFmtReqO_any (m t : ByteArray) (z : Int) (fr : Bool) (x : List Fld) (fa ba : Option Addr) (fc bn bc : Nat) (mm : Int) (w : World) (hm : m.size ≤ 1000000000) (ht : t.size ≤ 1000000000) (hx : FldsIn w fa x) (hz : SmallF x) (hl : x.length ≤ 100) (hq : (fmtReq m t z).size ≤ 3000000000) (_hk : HdOk w mm) :
    Calls Tryz.prog 47 #[.agg #[.string m, .string t, .int .i64 z, .slice fa x.length fc, .bool fr, .slice ba bn bc]] w (RetHdO w (headB (fmtReq m t z) x)) := by
  obtain ⟨W0, hW0⟩ : ∃ W0, W0 = w.alloc (.cells #[.string m, .string t, .int .i64 z, .slice fa x.length fc, .bool fr, .slice ba bn bc] 29) := ⟨_, rfl⟩
  have HB0 := Box.mk (show Below w.heap.size w W0 by rw [hW0]; exact below_oneF w _)
  have HR := Box.mk (show W0.heap[w.heap.size]? = some (.cells #[.string m, .string t, .int .i64 z, .slice fa x.length fc, .bool fr, .slice ba bn bc] 29 (0, 0)) by rw [hW0]; exact heap_alloc_new _ _)
  have HX := Box.mk (hx.keep HB0.out)
  have HZ := Box.mk hz
  have HQ := Box.mk hq
  have HW0 := Box.mk hW0
  have row1 : ∀ w', Below W0.heap.size W0 w' → w'.heap[w.heap.size]? = some (.cells #[.string m, .string t, .int .i64 z, .slice fa x.length fc, .bool fr, .slice ba bn bc] 29 (0, 0)) := fun w' hb => by rw [hb.block _ (lt_row HR.out)]; exact HR.out
  have ROW1 := Box.mk row1
  clear hx hz hW0 hq row1
  go_enter Tryz.func47, Tryz.ntmps47
  go_wp2_with fail
  rw [← HW0.out]
  clear HW0
  rename_i K hK
  refine wp_region_local (S := [.val (.agg #[.string m, .string t, .int .i64 z, .slice fa x.length fc, .bool fr, .slice ba bn bc]), .val (.string (fmtReq m t z)), .val (.pointer (some ⟨w.heap.size, 3, none⟩)), .val (.slice fa x.length fc), .hdo w.heap.size (headB (fmtReq m t z) x), .hdo w.heap.size (headB (fmtReq m t z) x)])
    (by kernel_rfl) (by kernel_rfl) (by kernel_rfl) ?_ ?_
  · refine ⟨?_, ?_, ?_, ?_, ?_, ?_, trivial⟩ <;> intro a w3 hb hf hd
    · exact ⟨wanted_none rfl, loc_load rfl (by rw [show a.eval (.tmp 1) = .pointer (some ⟨w.heap.size, 0, none⟩) from hf.base 1 rfl]; exact run_loadReq _ _ (ROW1.out w3 hb)) rfl⟩
    · refine ⟨wanted_none rfl, loc_call rfl (by kernel_rfl) ?_⟩
      show Calls _ _ #[a.eval (.tmp 3)] w3 _
      rw [show a.eval (.tmp 3) = _ from hd 0 rfl]
      refine (projFormatReq_any m t z fa ba x.length fc bn bc fr w3 hm ht).mono ?_
      rintro e w' ⟨rfl, hb'⟩
      exact ⟨_, rfl, hb', rfl⟩
    · exact ⟨wanted_none rfl, loc_fieldR rfl (hf.base 1 rfl) (by decide) rfl⟩
    · exact ⟨wanted_none rfl, loc_cell rfl (hd 2 rfl) (by rw [cell_of_row _ _ _ _ _ _ (ROW1.out w3 hb)]; rfl) (agg_fields _) rfl⟩
    · refine ⟨wanted_none rfl, loc_call rfl (by kernel_rfl) ?_⟩
      show Calls _ _ #[a.eval (.tmp 4), a.eval (.tmp 6)] w3 _
      rw [show a.eval (.tmp 4) = _ from hd 1 rfl, show a.eval (.tmp 6) = _ from hd 3 rfl]
      refine (projFormatO_any (fmtReq m t z) x fa fc w3 (HX.out.keep hb) HZ.out hl HQ.out).mono ?_
      rintro e w' ⟨v5, rfl, ho5, hb'⟩
      exact ⟨_, rfl, hb', ho5.low (Nat.le_trans HB0.out.size hb.size)⟩
    · exact ⟨wanted_none rfl, loc_assign rfl (hd 4 rfl)⟩
  · intro a w3 hb hf hh
    refine hK a w3 ?_
    have ho : Hdo w.heap.size w3 (a.eval (.tmp 2)) (headB (fmtReq m t z) x) := hh 5 (by decide)
    go_wp2_with fail
    exact local_ret rfl hf.defers rfl ⟨_, rfl, ho, below_trans HB0.out hb⟩
set_option maxRecDepth 100000 in
set_option maxHeartbeats 4000000 in
theorem refReq_any (m t : ByteArray) (z : Int) (fr : Bool) (x : List Fld) (d : List UInt8) (fa ba : Option Addr) (fc bc : Nat) (mm : Int) (w : World) (hm : m.size ≤ 1000000000) (ht : t.size ≤ 1000000000) (hx : FldsIn w fa x) (hz : SmallF x) (hl : x.length ≤ 100) (hq : (fmtReq m t z).size ≤ 3000000000) (hd : IsBytes w ba d bc) (hdl : (headB (fmtReq m t z) x).length + d.length ≤ 1000000000) :
    Calls Tryz.prog 24 #[.agg #[.string m, .string t, .int .i64 z, .slice fa x.length fc, .bool fr, .slice ba d.length bc]] w (RetHdO w (wrB (headB (fmtReq m t z) x) d)) := by
  obtain ⟨W1, hW1⟩ : ∃ W1, W1 = w.alloc (.cells #[.string m, .string t, .int .i64 z, .slice fa x.length fc, .bool fr, .slice ba d.length bc] 29) := ⟨_, rfl⟩
  have HB1 := Box.mk (show Below w.heap.size w W1 by rw [hW1]; exact below_oneF _ _)
  have HQ1 := Box.mk (show W1.heap[w.heap.size]? = some (.cells #[.string m, .string t, .int .i64 z, .slice fa x.length fc, .bool fr, .slice ba d.length bc] 29 (0, 0)) by rw [hW1]; exact heap_alloc_new _ _)
  have HX := Box.mk (hx.keep HB1.out)
  have HD := Box.mk (hd.keep HB1.out)
  have HZ := Box.mk hz
  have HXL := Box.mk hl
  have HDL := Box.mk hdl
  have HH := Box.mk (And.intro hm (And.intro ht hq))
  have HW1 := Box.mk hW1
  have HCALL := Box.mk (refFmtReq_any m t z fr x fa ba fc d.length bc W1 HH.out.1 HH.out.2.1 HX.out HZ.out (by have := HXL.out; omega) (by have := HH.out.2.2; omega))
  have hs1 : w.heap.size ≤ W1.heap.size := HB1.out.size
  have HS1 := Box.mk hs1
  clear hx hd hz hl hdl hm ht hq hW1 hs1
  go_enter Tryz.func24, Tryz.ntmps24
  go_upto_region 1 with fail
  rw [← HW1.out]
  clear HW1
  go_wp2_with (refine wpList_load_row rfl 29 _ rfl w.heap.size rfl 29 #[.string m, .string t, .int .i64 z, .slice fa x.length fc, .bool fr, .slice ba d.length bc] (0, 0) _ HQ1.out Tryz.underlying29 rfl sizeR ?_)
  refine HCALL.out.mono ?_
  rintro e w2 hret
  obtain ⟨v, rfl, ho, hb2⟩ := hret.hdo (by have := HDL.out; omega)
  have HB2 := Box.mk (below_trans HB1.out hb2)
  have HS2 := Box.mk hb2.size
  have HD2 := Box.mk (HD.out.keep hb2)
  have k5 : w2.cell? ⟨w.heap.size, 5, none⟩ = some (.slice ba d.length bc) := by
    have := (hb2.block _ (lt_row HQ1.out)).trans HQ1.out
    rw [cell_of_row _ _ _ _ _ _ this]; rfl
  have HO := Box.mk ho
  clear hret ho hb2 HCALL HQ1 HX HD HZ HXL HB1 HH
  generalize headB (fmtReq m t z) x = l at *
  by_cases h0 : l.length = 0
  · obtain ⟨a, c, rfl, hb⟩ := HO.out.form
    have HW := Box.mk (show wrB l d = [] from if_pos h0)
    rw [h0]
    clear hb h0 HO HDL
    go_wp2_with fail
    go_ret
    exact ⟨_, rfl, .inl ⟨HW.out, rfl⟩, HB2.out⟩
  · have ho : OwnM W1.heap.size w2 v l := by
      rcases HO.out with ⟨rfl, _⟩ | h
      · exact absurd rfl h0
      · exact h
    obtain ⟨g, c, rfl, _, hib⟩ := ho.form
    have HW := Box.mk (show wrB l d = l ++ d from if_neg h0)
    have HO2 := Box.mk ho
    have hz : ((l.length : Int) == 0) = false := by rw [beq_eq_false_iff_ne]; omega
    clear h0 ho hib HO
    go_wp2_with (at_builtin; refine wpList_append_mb _ rfl _ _ rfl rfl HO2.out rfl HD2.out HDL.out HS2.out ?c9)
    case c9 =>
      intro v7 w7 hown7 hg7 hn7
      have HR := Box.mk (And.intro hown7 (HB2.out.grown hg7 HB2.out.size (fun q e => Nat.le_trans HS1.out (HO2.out.lt e).1)))
      clear hown7 hg7 hn7
      go_wp2_with fail
      go_ret
      exact ⟨v7, rfl, .inr (by rw [HW.out]; exact HR.out.1.low HS1.out), HR.out.2⟩
set_option maxRecDepth 100000 in
set_option maxHeartbeats 4000000 in
theorem projReq_any (m t : ByteArray) (z : Int) (fr : Bool) (x : List Fld) (d : List UInt8) (fa ba : Option Addr) (fc bc : Nat) (mm : Int) (w : World) (hm : m.size ≤ 1000000000) (ht : t.size ≤ 1000000000) (hx : FldsIn w fa x) (hz : SmallF x) (hl : x.length ≤ 100) (hq : (fmtReq m t z).size ≤ 3000000000) (hd : IsBytes w ba d bc) (hdl : (headB (fmtReq m t z) x).length + d.length ≤ 1000000000) (hk : HdOk w mm) :
    Calls Tryz.prog 23 #[.agg #[.string m, .string t, .int .i64 z, .slice fa x.length fc, .bool fr, .slice ba d.length bc]] w (RetHdO w (wrB (headB (fmtReq m t z) x) d)) := by
  obtain ⟨W1, hW1⟩ : ∃ W1, W1 = w.alloc (.cells #[.string m, .string t, .int .i64 z, .slice fa x.length fc, .bool fr, .slice ba d.length bc] 29) := ⟨_, rfl⟩
  have HB1 := Box.mk (show Below w.heap.size w W1 by rw [hW1]; exact below_oneF _ _)
  have HQ1 := Box.mk (show W1.heap[w.heap.size]? = some (.cells #[.string m, .string t, .int .i64 z, .slice fa x.length fc, .bool fr, .slice ba d.length bc] 29 (0, 0)) by rw [hW1]; exact heap_alloc_new _ _)
  have HX := Box.mk (hx.keep HB1.out)
  have HD := Box.mk (hd.keep HB1.out)
  have HZ := Box.mk hz
  have HXL := Box.mk hl
  have HDL := Box.mk hdl
  have HH := Box.mk (And.intro hm (And.intro ht hq))
  have HK := Box.mk hk
  have HW1 := Box.mk hW1
  have ROW1 := Box.mk (show ∀ w', Below W1.heap.size W1 w' → w'.heap[w.heap.size]? = some (.cells #[.string m, .string t, .int .i64 z, .slice fa x.length fc, .bool fr, .slice ba d.length bc] 29 (0, 0)) from fun w' hb => (hb.block _ (lt_row HQ1.out)).trans HQ1.out)
  clear hx hd hz hl hdl hm ht hq hW1 hk
  go_enter Tryz.func23, Tryz.ntmps23
  go_wp2_with fail
  rw [← HW1.out]
  clear HW1
  rename_i K hK
  refine wp_region_phasesW [4] (fun p => match p with | 0 => [0, 1, 2, 3] | _ => [5])
    (fun p => match p with
      | 0 => [.val (.agg #[.string m, .string t, .int .i64 z, .slice fa x.length fc, .bool fr, .slice ba d.length bc]), .hdo w.heap.size (headB (fmtReq m t z) x), .val (.pointer (some ⟨w.heap.size, 5, none⟩)), .val (.slice ba d.length bc), .nope, .nope]
      | _ => [.any, .any, .any, .any, .hdo w.heap.size (wrB (headB (fmtReq m t z) x) d), .hdo w.heap.size (wrB (headB (fmtReq m t z) x) d)])
    (fun p => match p with
      | 0 => fun wx => Below W1.heap.size W1 wx
      | _ => fun wx => Below w.heap.size w wx)
    (by kernel_rfl) (by kernel_rfl) (by kernel_rfl) (by kernel_rfl) (by kernel_rfl) (by kernel_rfl) ?_ (Below.refl _ _) ?_ ?_ ?_
  · intro ph w1' w2' h hb
    match ph, h with
    | 0, h => exact below_trans h hb
    | (_ + 1), h => exact below_trans h hb
  · intro ph hph
    match ph, hph with
    | 0, _ =>
      refine ⟨?_, ?_, ?_, ?_, trivial⟩ <;> intro a w3 hb hf hd
      · exact ⟨wanted_none rfl, loc_load rfl (by rw [show a.eval (.tmp 1) = .pointer (some ⟨w.heap.size, 0, none⟩) from hf.base 1 rfl]; exact run_loadReq _ _ (ROW1.out w3 hb)) rfl⟩
      · refine ⟨wanted_none rfl, loc_call rfl (by kernel_rfl) ?_⟩
        show Calls _ _ #[a.eval (.tmp 3)] w3 _
        rw [show a.eval (.tmp 3) = _ from hd 0 rfl]
        refine (projFmtReqO_any m t z fr x fa ba fc d.length bc mm w3 HH.out.1 HH.out.2.1 (HX.out.keep hb) HZ.out HXL.out HH.out.2.2 (HK.out.keep (below_trans HB1.out hb))).mono ?_
        rintro e w' ⟨v5, rfl, ho5, hb'⟩
        exact ⟨_, rfl, hb', ho5.low (Nat.le_trans HB1.out.size hb.size)⟩
      · exact ⟨wanted_none rfl, loc_fieldR rfl (hf.base 1 rfl) (by decide) rfl⟩
      · exact ⟨wanted_none rfl, loc_cell rfl (hd 2 rfl) (by rw [cell_of_row _ _ _ _ _ _ (ROW1.out w3 hb)]; rfl) (agg_slcG _) rfl⟩
    | 1, _ =>
      refine ⟨?_, trivial⟩
      intro a w3 hb hf hd
      exact ⟨wanted_none rfl, loc_assign rfl (hd 4 rfl)⟩
  · intro ph hph
    match ph, hph with
    | 0, _ =>
      intro a2 w2 hv hf hd
      have ho4 : Hdo w.heap.size w2 (a2.eval (.tmp 4)) (headB (fmtReq m t z) x) := hd 1 rfl
      refine ⟨wanted_none rfl, chain_call rfl (by kernel_rfl) ?_⟩
      show Calls _ _ #[a2.eval (.tmp 4), a2.eval (.tmp 6)] w2 _
      rw [show a2.eval (.tmp 6) = _ from hd 3 rfl]
      have hs2 : w.heap.size ≤ w2.heap.size := Nat.le_trans HB1.out.size hv.size
      refine (join_any w.heap.size (a2.eval (.tmp 4)) (headB (fmtReq m t z) x) d ba bc w2 ho4 (HD.out.keep hv) HDL.out hs2).mono ?_
      rintro e w' ⟨v', rfl, ho, hg⟩
      exact ⟨_, rfl, _, rfl, (below_trans HB1.out hv).grown hg hs2 ho4.block, ho,
        ⟨.inr fun _ _ _ => trivial, .inr fun _ _ _ => trivial, .inr fun _ _ _ => trivial, .inr fun _ _ _ => trivial, .inl rfl, .inr fun _ _ h => h.elim, trivial⟩⟩
  · intro a2 w2 hv hf hh
    have ho : Hdo w.heap.size w2 (a2.eval (.tmp 2)) (wrB (headB (fmtReq m t z) x) d) := hh 5 (by decide)
    have hb : Below w.heap.size w w2 := hv
    clear hh
    refine hK a2 w2 ?_
    go_wp2_with fail
    exact local_ret rfl hf.defers rfl ⟨_, rfl, ho, hb⟩
set_option maxRecDepth 100000 in
set_option maxHeartbeats 4000000 in
theorem projFmtRepO_any (m : Int) (t : ByteArray) (z : Int) (x : List Fld) (fa ba : Option Addr) (fc bn bc : Nat) (w : World) (ht : t.size ≤ 1000000000) (hx : FldsIn w fa x) (hz : SmallF x) (hl : x.length ≤ 100) (hq : (fmtRep m t z).size ≤ 3000000000) (htb : Tabs w) :
    Calls Tryz.prog 49 #[.agg #[.int .i64 m, .string t, .int .i64 z, .slice fa x.length fc, .slice ba bn bc]] w (RetHdO w (headB (fmtRep m t z) x)) := by
  obtain ⟨W0, hW0⟩ : ∃ W0, W0 = w.alloc (.cells #[.int .i64 m, .string t, .int .i64 z, .slice fa x.length fc, .slice ba bn bc] 31) := ⟨_, rfl⟩
  have HB0 := Box.mk (show Below w.heap.size w W0 by rw [hW0]; exact below_oneF w _)
  have HR := Box.mk (show W0.heap[w.heap.size]? = some (.cells #[.int .i64 m, .string t, .int .i64 z, .slice fa x.length fc, .slice ba bn bc] 31 (0, 0)) by rw [hW0]; exact heap_alloc_new _ _)
  have HX := Box.mk (hx.keep HB0.out)
  have HZ := Box.mk hz
  have HTB := Box.mk htb
  have HQ := Box.mk hq
  have HW0 := Box.mk hW0
  have row1 : ∀ w', Below W0.heap.size W0 w' → w'.heap[w.heap.size]? = some (.cells #[.int .i64 m, .string t, .int .i64 z, .slice fa x.length fc, .slice ba bn bc] 31 (0, 0)) := fun w' hb => by rw [hb.block _ (lt_row HR.out)]; exact HR.out
  have ROW1 := Box.mk row1
  clear hx hz hW0 hq row1 htb
  go_enter Tryz.func49, Tryz.ntmps49
  go_wp2_with fail
  rw [← HW0.out]
  clear HW0
  rename_i K hK
  refine wp_region_local (S := [.val (.agg #[.int .i64 m, .string t, .int .i64 z, .slice fa x.length fc, .slice ba bn bc]), .val (.string (fmtRep m t z)), .val (.pointer (some ⟨w.heap.size, 3, none⟩)), .val (.slice fa x.length fc), .hdo w.heap.size (headB (fmtRep m t z) x), .hdo w.heap.size (headB (fmtRep m t z) x)])
    (by kernel_rfl) (by kernel_rfl) (by kernel_rfl) ?_ ?_
  · refine ⟨?_, ?_, ?_, ?_, ?_, ?_, trivial⟩ <;> intro a w3 hb hf hd
    · exact ⟨wanted_none rfl, loc_load rfl (by rw [show a.eval (.tmp 1) = .pointer (some ⟨w.heap.size, 0, none⟩) from hf.base 1 rfl]; exact run_loadRep _ _ (ROW1.out w3 hb)) rfl⟩
    · refine ⟨wanted_none rfl, loc_call rfl (by kernel_rfl) ?_⟩
      show Calls _ _ #[a.eval (.tmp 3)] w3 _
      rw [show a.eval (.tmp 3) = _ from hd 0 rfl]
      refine (projFormatRep_any m t z fa ba x.length fc bn bc w3 ht (tabs_below HTB.out (below_trans HB0.out hb))).mono ?_
      rintro e w' ⟨rfl, hb'⟩
      exact ⟨_, rfl, hb', rfl⟩
    · exact ⟨wanted_none rfl, loc_fieldA rfl (hf.base 1 rfl) (by decide) rfl⟩
    · exact ⟨wanted_none rfl, loc_cell rfl (hd 2 rfl) (by rw [cell_of_row _ _ _ _ _ _ (ROW1.out w3 hb)]; rfl) (agg_fields _) rfl⟩
    · refine ⟨wanted_none rfl, loc_call rfl (by kernel_rfl) ?_⟩
      show Calls _ _ #[a.eval (.tmp 4), a.eval (.tmp 6)] w3 _
      rw [show a.eval (.tmp 4) = _ from hd 1 rfl, show a.eval (.tmp 6) = _ from hd 3 rfl]
      refine (projFormatO_any (fmtRep m t z) x fa fc w3 (HX.out.keep hb) HZ.out hl HQ.out).mono ?_
      rintro e w' ⟨v5, rfl, ho5, hb'⟩
      exact ⟨_, rfl, hb', ho5.low (Nat.le_trans HB0.out.size hb.size)⟩
    · exact ⟨wanted_none rfl, loc_assign rfl (hd 4 rfl)⟩
  · intro a w3 hb hf hh
    refine hK a w3 ?_
    have ho : Hdo w.heap.size w3 (a.eval (.tmp 2)) (headB (fmtRep m t z) x) := hh 5 (by decide)
    go_wp2_with fail
    exact local_ret rfl hf.defers rfl ⟨_, rfl, ho, below_trans HB0.out hb⟩
set_option maxRecDepth 100000 in
set_option maxHeartbeats 4000000 in
theorem refRep_any (m : Int) (t : ByteArray) (z : Int) (x : List Fld) (d : List UInt8) (fa ba : Option Addr) (fc bc : Nat) (mm : Int) (w : World) (ht : t.size ≤ 1000000000) (hx : FldsIn w fa x) (hz : SmallF x) (hl : x.length ≤ 100) (hq : (fmtRep m t z).size ≤ 3000000000) (hd : IsBytes w ba d bc) (hdl : (headB (fmtRep m t z) x).length + d.length ≤ 1000000000) :
    Calls Tryz.prog 26 #[.agg #[.int .i64 m, .string t, .int .i64 z, .slice fa x.length fc, .slice ba d.length bc]] w (RetHdO w (wrB (headB (fmtRep m t z) x) d)) := by
  obtain ⟨W1, hW1⟩ : ∃ W1, W1 = w.alloc (.cells #[.int .i64 m, .string t, .int .i64 z, .slice fa x.length fc, .slice ba d.length bc] 31) := ⟨_, rfl⟩
  have HB1 := Box.mk (show Below w.heap.size w W1 by rw [hW1]; exact below_oneF _ _)
  have HQ1 := Box.mk (show W1.heap[w.heap.size]? = some (.cells #[.int .i64 m, .string t, .int .i64 z, .slice fa x.length fc, .slice ba d.length bc] 31 (0, 0)) by rw [hW1]; exact heap_alloc_new _ _)
  have HX := Box.mk (hx.keep HB1.out)
  have HD := Box.mk (hd.keep HB1.out)
  have HZ := Box.mk hz
  have HXL := Box.mk hl
  have HDL := Box.mk hdl
  have HH := Box.mk (And.intro ht hq)
  have HW1 := Box.mk hW1
  have HCALL := Box.mk (refFmtRep_any m t z x fa ba fc d.length bc W1 HH.out.1 HX.out HZ.out (by have := HXL.out; omega) (by have := HH.out.2; omega))
  have hs1 : w.heap.size ≤ W1.heap.size := HB1.out.size
  have HS1 := Box.mk hs1
  clear hx hd hz hl hdl ht hq hW1 hs1
  go_enter Tryz.func26, Tryz.ntmps26
  go_upto_region 1 with fail
  rw [← HW1.out]
  clear HW1
  go_wp2_with (refine wpList_load_row rfl 31 _ rfl w.heap.size rfl 31 #[.int .i64 m, .string t, .int .i64 z, .slice fa x.length fc, .slice ba d.length bc] (0, 0) _ HQ1.out Tryz.underlying31 rfl sizeA ?_)
  refine HCALL.out.mono ?_
  rintro e w2 hret
  obtain ⟨v, rfl, ho, hb2⟩ := hret.hdo (by have := HDL.out; omega)
  have HB2 := Box.mk (below_trans HB1.out hb2)
  have HS2 := Box.mk hb2.size
  have HD2 := Box.mk (HD.out.keep hb2)
  have k5 : w2.cell? ⟨w.heap.size, 4, none⟩ = some (.slice ba d.length bc) := by
    have := (hb2.block _ (lt_row HQ1.out)).trans HQ1.out
    rw [cell_of_row _ _ _ _ _ _ this]; rfl
  have HO := Box.mk ho
  clear hret ho hb2 HCALL HQ1 HX HD HZ HXL HB1 HH
  generalize headB (fmtRep m t z) x = l at *
  by_cases h0 : l.length = 0
  · obtain ⟨a, c, rfl, hb⟩ := HO.out.form
    have HW := Box.mk (show wrB l d = [] from if_pos h0)
    rw [h0]
    clear hb h0 HO HDL
    go_wp2_with fail
    go_ret
    exact ⟨_, rfl, .inl ⟨HW.out, rfl⟩, HB2.out⟩
  · have ho : OwnM W1.heap.size w2 v l := by
      rcases HO.out with ⟨rfl, _⟩ | h
      · exact absurd rfl h0
      · exact h
    obtain ⟨g, c, rfl, _, hib⟩ := ho.form
    have HW := Box.mk (show wrB l d = l ++ d from if_neg h0)
    have HO2 := Box.mk ho
    have hz : ((l.length : Int) == 0) = false := by rw [beq_eq_false_iff_ne]; omega
    clear h0 ho hib HO
    go_wp2_with (at_builtin; refine wpList_append_mb _ rfl _ _ rfl rfl HO2.out rfl HD2.out HDL.out HS2.out ?c9)
    case c9 =>
      intro v7 w7 hown7 hg7 hn7
      have HR := Box.mk (And.intro hown7 (HB2.out.grown hg7 HB2.out.size (fun q e => Nat.le_trans HS1.out (HO2.out.lt e).1)))
      clear hown7 hg7 hn7
      go_wp2_with fail
      go_ret
      exact ⟨v7, rfl, .inr (by rw [HW.out]; exact HR.out.1.low HS1.out), HR.out.2⟩
set_option maxRecDepth 100000 in
set_option maxHeartbeats 4000000 in
theorem projRep_any (m : Int) (t : ByteArray) (z : Int) (x : List Fld) (d : List UInt8) (fa ba : Option Addr) (fc bc : Nat) (mm : Int) (w : World) (ht : t.size ≤ 1000000000) (hx : FldsIn w fa x) (hz : SmallF x) (hl : x.length ≤ 100) (hq : (fmtRep m t z).size ≤ 3000000000) (hd : IsBytes w ba d bc) (hdl : (headB (fmtRep m t z) x).length + d.length ≤ 1000000000) (hk : Tabs w) :
    Calls Tryz.prog 25 #[.agg #[.int .i64 m, .string t, .int .i64 z, .slice fa x.length fc, .slice ba d.length bc]] w (RetHdO w (wrB (headB (fmtRep m t z) x) d)) := by
  obtain ⟨W1, hW1⟩ : ∃ W1, W1 = w.alloc (.cells #[.int .i64 m, .string t, .int .i64 z, .slice fa x.length fc, .slice ba d.length bc] 31) := ⟨_, rfl⟩
  have HB1 := Box.mk (show Below w.heap.size w W1 by rw [hW1]; exact below_oneF _ _)
  have HQ1 := Box.mk (show W1.heap[w.heap.size]? = some (.cells #[.int .i64 m, .string t, .int .i64 z, .slice fa x.length fc, .slice ba d.length bc] 31 (0, 0)) by rw [hW1]; exact heap_alloc_new _ _)
  have HX := Box.mk (hx.keep HB1.out)
  have HD := Box.mk (hd.keep HB1.out)
  have HZ := Box.mk hz
  have HXL := Box.mk hl
  have HDL := Box.mk hdl
  have HH := Box.mk (And.intro ht hq)
  have HK := Box.mk hk
  have HW1 := Box.mk hW1
  have ROW1 := Box.mk (show ∀ w', Below W1.heap.size W1 w' → w'.heap[w.heap.size]? = some (.cells #[.int .i64 m, .string t, .int .i64 z, .slice fa x.length fc, .slice ba d.length bc] 31 (0, 0)) from fun w' hb => (hb.block _ (lt_row HQ1.out)).trans HQ1.out)
  clear hx hd hz hl hdl ht hq hW1 hk
  go_enter Tryz.func25, Tryz.ntmps25
  go_wp2_with fail
  rw [← HW1.out]
  clear HW1
  rename_i K hK
  refine wp_region_phasesW [4] (fun p => match p with | 0 => [0, 1, 2, 3] | _ => [5])
    (fun p => match p with
      | 0 => [.val (.agg #[.int .i64 m, .string t, .int .i64 z, .slice fa x.length fc, .slice ba d.length bc]), .hdo w.heap.size (headB (fmtRep m t z) x), .val (.pointer (some ⟨w.heap.size, 4, none⟩)), .val (.slice ba d.length bc), .nope, .nope]
      | _ => [.any, .any, .any, .any, .hdo w.heap.size (wrB (headB (fmtRep m t z) x) d), .hdo w.heap.size (wrB (headB (fmtRep m t z) x) d)])
    (fun p => match p with
      | 0 => fun wx => Below W1.heap.size W1 wx
      | _ => fun wx => Below w.heap.size w wx)
    (by kernel_rfl) (by kernel_rfl) (by kernel_rfl) (by kernel_rfl) (by kernel_rfl) (by kernel_rfl) ?_ (Below.refl _ _) ?_ ?_ ?_
  · intro ph w1' w2' h hb
    match ph, h with
    | 0, h => exact below_trans h hb
    | (_ + 1), h => exact below_trans h hb
  · intro ph hph
    match ph, hph with
    | 0, _ =>
      refine ⟨?_, ?_, ?_, ?_, trivial⟩ <;> intro a w3 hb hf hd
      · exact ⟨wanted_none rfl, loc_load rfl (by rw [show a.eval (.tmp 1) = .pointer (some ⟨w.heap.size, 0, none⟩) from hf.base 1 rfl]; exact run_loadRep _ _ (ROW1.out w3 hb)) rfl⟩
      · refine ⟨wanted_none rfl, loc_call rfl (by kernel_rfl) ?_⟩
        show Calls _ _ #[a.eval (.tmp 3)] w3 _
        rw [show a.eval (.tmp 3) = _ from hd 0 rfl]
        refine (projFmtRepO_any m t z x fa ba fc d.length bc w3 HH.out.1 (HX.out.keep hb) HZ.out HXL.out HH.out.2 (tabs_below HK.out (below_trans HB1.out hb))).mono ?_
        rintro e w' ⟨v5, rfl, ho5, hb'⟩
        exact ⟨_, rfl, hb', ho5.low (Nat.le_trans HB1.out.size hb.size)⟩
      · exact ⟨wanted_none rfl, loc_fieldA rfl (hf.base 1 rfl) (by decide) rfl⟩
      · exact ⟨wanted_none rfl, loc_cell rfl (hd 2 rfl) (by rw [cell_of_row _ _ _ _ _ _ (ROW1.out w3 hb)]; rfl) (agg_slcG _) rfl⟩
    | 1, _ =>
      refine ⟨?_, trivial⟩
      intro a w3 hb hf hd
      exact ⟨wanted_none rfl, loc_assign rfl (hd 4 rfl)⟩
  · intro ph hph
    match ph, hph with
    | 0, _ =>
      intro a2 w2 hv hf hd
      have ho4 : Hdo w.heap.size w2 (a2.eval (.tmp 4)) (headB (fmtRep m t z) x) := hd 1 rfl
      refine ⟨wanted_none rfl, chain_call rfl (by kernel_rfl) ?_⟩
      show Calls _ _ #[a2.eval (.tmp 4), a2.eval (.tmp 6)] w2 _
      rw [show a2.eval (.tmp 6) = _ from hd 3 rfl]
      have hs2 : w.heap.size ≤ w2.heap.size := Nat.le_trans HB1.out.size hv.size
      refine (join_any w.heap.size (a2.eval (.tmp 4)) (headB (fmtRep m t z) x) d ba bc w2 ho4 (HD.out.keep hv) HDL.out hs2).mono ?_
      rintro e w' ⟨v', rfl, ho, hg⟩
      exact ⟨_, rfl, _, rfl, (below_trans HB1.out hv).grown hg hs2 ho4.block, ho,
        ⟨.inr fun _ _ _ => trivial, .inr fun _ _ _ => trivial, .inr fun _ _ _ => trivial, .inr fun _ _ _ => trivial, .inl rfl, .inr fun _ _ h => h.elim, trivial⟩⟩
  · intro a2 w2 hv hf hh
    have ho : Hdo w.heap.size w2 (a2.eval (.tmp 2)) (wrB (headB (fmtRep m t z) x) d) := hh 5 (by decide)
    have hb : Below w.heap.size w w2 := hv
    clear hh
    refine hK a2 w2 ?_
    go_wp2_with fail
    exact local_ret rfl hf.defers rfl ⟨_, rfl, ho, hb⟩
end Go.Proofs.YteoadfckcilalaaGreatDoor
namespace Go.Proofs.YteoadfckcilalaaGreatDoor
open Go.RowKit

/-- The reader's state. -/
structure RS where
  rep : Bool
  meth : ByteArray
  ph : Int
  m : ByteArray
  t : ByteArray
  z : Int
  xs : List Fld
  fr : Bool
  st : Int
  rs : ByteArray
  z2 : Int
  ys : List Fld
  fk : Int
  fl : Int
  left : Int
  size : Int
  ck : Chk
def zeroR : RS := ⟨false, ⟨#[]⟩, 0, ⟨#[]⟩, ⟨#[]⟩, 0, [], false, 0, ⟨#[]⟩, 0, [], 0, 0, 0, 0, zeroC⟩
/-- What Next returns: error, state, kind, bytes of the body, bytes that were consumed. -/
structure NX where
  er : Int
  r : RS
  kind : Int
  data : List UInt8
  n : Nat
def errX (e : Int) : NX := ⟨e, zeroR, 0, [], 0⟩
/-- A message x with the frame f was read, in n bytes. -/
def finX (x : RS) (f : Int × Int × Int) (n : Nat) (body : Int) : NX :=
  if f.2.2 ≠ 0 then errX (if f.2.2 = 3 then 9 else f.2.2)
  else if f.1 = 2 ∧ body < f.2.1 then errX 9
  else ⟨0, { x with fk := f.1, fl := f.2.1, left := f.2.1, size := 0, ck := zeroC, ph := 1 }, 1, [], n⟩
def headX (r : RS) (h : List UInt8) (body : Int) : NX :=
  if r.rep = true then
    (if (headA h).1 ≠ 0 then errX (headA h).1
    else if (headA h).2.1 = 101 then errX 2
    else if 100 ≤ (headA h).2.1 ∧ (headA h).2.1 ≤ 199 then ⟨0, r, 4, [], h.length⟩
    else finX { r with st := (headA h).2.1, rs := (headA h).2.2.1, z2 := (headA h).2.2.2.1, ys := (headA h).2.2.2.2 } (replyS r.meth (headA h).2.1 (headA h).2.2.2.1 (headA h).2.2.2.2) h.length body)
  else
    (if (headR h).1 ≠ 0 then errX (headR h).1
    else finX { r with m := (headR h).2.1, t := (headR h).2.2.1, z := (headR h).2.2.2.1, xs := (headR h).2.2.2.2, fr := !decide ((frameS (headR h).2.2.2.1 (headR h).2.2.2.2 1).1 = 1) } (frameS (headR h).2.2.2.1 (headR h).2.2.2.2 1) h.length body)
def firstX (r : RS) (b : List UInt8) (most body : Int) : NX :=
  if (endS b most).2 = 4 then ⟨0, r, 0, [], 0⟩
  else if (endS b most).2 ≠ 0 then errX (endS b most).2
  else headX r (b.take (endS b most).1.toNat) body
def minI (a b : Int) : Int := if a ≤ b then a else b
def moreX (r : RS) (b : List UInt8) (body room : Int) : NX :=
  if r.fk = 1 ∨ r.fk = 2 then
    (if r.fk = 1 ∨ r.left = 0 then ⟨0, { r with ph := 2 }, 3, [], 0⟩
    else if minI (minI r.left room) b.length = 0 then ⟨0, r, 0, [], 0⟩
    else ⟨0, { r with left := r.left - minI (minI r.left room) b.length, size := r.size + minI (minI r.left room) b.length }, 2, b.take (minI (minI r.left room) b.length).toNat, (minI (minI r.left room) b.length).toNat⟩)
  else if r.fk = 3 then
    (if (feedS (minI room (body + 1 - r.size)) r.ck [] 0 b).1 ≠ 0 then errX (feedS (minI room (body + 1 - r.size)) r.ck [] 0 b).1
    else if body < r.size + (feedS (minI room (body + 1 - r.size)) r.ck [] 0 b).2.2.1.length then errX 9
    else if 0 < (feedS (minI room (body + 1 - r.size)) r.ck [] 0 b).2.2.1.length then
      ⟨0, { r with ck := (feedS (minI room (body + 1 - r.size)) r.ck [] 0 b).2.1, size := r.size + (feedS (minI room (body + 1 - r.size)) r.ck [] 0 b).2.2.1.length }, 2, (feedS (minI room (body + 1 - r.size)) r.ck [] 0 b).2.2.1, (feedS (minI room (body + 1 - r.size)) r.ck [] 0 b).2.2.2⟩
    else if (feedS (minI room (body + 1 - r.size)) r.ck [] 0 b).2.1.ph = 4 then
      ⟨0, { r with ck := (feedS (minI room (body + 1 - r.size)) r.ck [] 0 b).2.1, ph := 2 }, 3, [], (feedS (minI room (body + 1 - r.size)) r.ck [] 0 b).2.2.2⟩
    else ⟨0, { r with ck := (feedS (minI room (body + 1 - r.size)) r.ck [] 0 b).2.1 }, 0, [], (feedS (minI room (body + 1 - r.size)) r.ck [] 0 b).2.2.2⟩)
  else
    (if minI (minI room b.length) (body + 1 - r.size) ≤ 0 then ⟨0, r, 0, [], 0⟩
    else if body < r.size + minI (minI room b.length) (body + 1 - r.size) then errX 9
    else ⟨0, { r with size := r.size + minI (minI room b.length) (body + 1 - r.size) }, 2, b.take (minI (minI room b.length) (body + 1 - r.size)).toNat, (minI (minI room b.length) (body + 1 - r.size)).toNat⟩)
def nextX (r : RS) (b : List UInt8) (most body room : Int) : NX :=
  if r.ph = 0 then firstX r b most body else if r.ph = 1 then moreX r b body (if room ≤ 0 then 0 else room) else ⟨0, r, 0, [], 0⟩
/-- What the state's slices hold; the fields lie in blocks that B allows. -/
structure RMem (B : Nat → Prop) (w : World) (s : RS) (fa ga la : Option Addr) (lc : Nat) : Prop where
  f1 : FldsIn w fa s.xs
  f2 : FldsIn w ga s.ys
  ln : IsBytes w la s.ck.line lc
  n1 : ∀ y, fa = some y → s.xs ≠ [] → B y.block
  n2 : ∀ y, ga = some y → s.ys ≠ [] → B y.block
theorem RMem.keep {B : Nat → Prop} {w w' : World} {s : RS} {fa ga la : Option Addr} {lc : Nat} (h : RMem B w s fa ga la lc) (hb : Below w.heap.size w w') : RMem B w' s fa ga la lc :=
  ⟨h.f1.keep hb, h.f2.keep hb, h.ln.keep hb, h.n1, h.n2⟩
/-- What Next returns, in memory. -/
def RetX (B : Nat → Prop) (w : World) (x : NX) (e : Ending) (w' : World) : Prop :=
  ∃ fa fc ga gc la lc pa pc, e = .returned (.tuple #[.agg #[.bool x.r.rep, .string x.r.meth, .int .i64 x.r.ph, .string x.r.m, .string x.r.t, .int .i64 x.r.z, .slice fa (List.length x.r.xs) fc, .bool x.r.fr, .slice none 0 0, .int .i64 x.r.st, .string x.r.rs, .int .i64 x.r.z2, .slice ga (List.length x.r.ys) gc, .slice none 0 0, .int .i64 x.r.fk, .int .i64 x.r.fl, .int .i64 x.r.left, .int .i64 x.r.size, .int .i64 x.r.ck.ph, .int .i64 x.r.ck.left, .int .i64 x.r.ck.tr, .slice la (List.length x.r.ck.line) lc], .agg #[.int .i64 x.kind, .slice pa (List.length x.data) pc], .int .i64 x.n, .int .i64 x.er]) ∧ RMem B w' x.r fa ga la lc ∧ IsBytes w' pa x.data pc ∧ Below w.heap.size w w'
/-- The states that come up. -/
structure OkR (s : RS) : Prop where
  ck : OkC s.ck
  left : s.fk = 2 → 0 ≤ s.left ∧ s.left + s.size ≤ 1000000000
  size : 0 ≤ s.size ∧ s.size ≤ 1000000000
  xs : ShortF s.xs ∧ s.xs.length ≤ 64
  ys : ShortF s.ys ∧ s.ys.length ≤ 64

theorem results_rrttR {P : Program} {fn : Func} {q1 q2 p1 p2 : Tmp} {ty1 ty2 : TypeId} (h : fn.results = #[.cell p1 ty1, .cell p2 ty2, .tmp q1, .tmp q2]) (tmps : Array Value) (w : World) (g1 g2 : Nat) (t1 t2 : TypeId) (c1 c2 : Array Value) (f1 f2 : Nat × Nat) (d1 d2 : TypeDesc)
    (hp1 : tmps.getD p1 undef = .pointer (some ⟨g1, 0, none⟩)) (hp2 : tmps.getD p2 undef = .pointer (some ⟨g2, 0, none⟩)) (hg1 : w.heap[g1]? = some (.cells c1 t1 f1)) (hg2 : w.heap[g2]? = some (.cells c2 t2 f2))
    (hu1 : P.underlying ty1 = some d1) (hd1 : (match d1 with | .struct _ | .array _ _ => true | _ => false) = true) (hi1 : (P.info? ty1).map (·.size) = some c1.size)
    (hu2 : P.underlying ty2 = some d2) (hd2 : (match d2 with | .struct _ | .array _ _ => true | _ => false) = true) (hi2 : (P.info? ty2).map (·.size) = some c2.size) :
    (results fn tmps).run P w = .ok (.tuple #[.agg c1, .agg c2, tmps.getD q1 undef, tmps.getD q2 undef]) w := by
  have hp1' : tmps[p1]?.getD undef = .pointer (some ⟨g1, 0, none⟩) := by simpa using hp1
  have hp2' : tmps[p2]?.getD undef = .pointer (some ⟨g2, 0, none⟩) := by simpa using hp2
  simp [results, h, hp1', hp2', asAddr, run_loadVar_row w g1 t1 ty1 c1 f1 d1 hg1 hu1 hd1 hi1, run_loadVar_row w g2 t2 ty2 c2 f2 d2 hg2 hu2 hd2 hi2]
theorem sizeRd : (Tryz.prog.info? 37).map (·.size) = some 22 := by kernel_rfl
theorem sizePt : (Tryz.prog.info? 41).map (·.size) = some 2 := by kernel_rfl
/-- A reader's variable. -/
def RVr (w : World) (g : Nat) (cs : Array Value) : Prop := w.heap[g]? = some (.cells cs 37 (0, 0))
theorem RVr.keep {w w' : World} {g : Nat} {cs : Array Value} (h : RVr w g cs) (hb : Below w.heap.size w w') : RVr w' g cs := by
  unfold RVr at *
  rw [hb.block g (Array.getElem?_eq_some_iff.1 h).1]; exact h
theorem RVr.lt {w : World} {g : Nat} {cs : Array Value} (h : RVr w g cs) : g < w.heap.size := (Array.getElem?_eq_some_iff.1 h).1
theorem RVr.cell {w : World} {g : Nat} {cs : Array Value} (h : RVr w g cs) (i : Nat) : w.cell? ⟨g, i, none⟩ = cs[i]? := cell_of_row _ _ _ _ _ _ h
/-- A part's variable. -/
def PVr (w : World) (g : Nat) (cs : Array Value) : Prop := w.heap[g]? = some (.cells cs 41 (0, 0))
theorem PVr.keep {w w' : World} {g : Nat} {cs : Array Value} (h : PVr w g cs) (hb : Below w.heap.size w w') : PVr w' g cs := by
  unfold PVr at *
  rw [hb.block g (Array.getElem?_eq_some_iff.1 h).1]; exact h
end Go.Proofs.YteoadfckcilalaaGreatDoor
namespace Go.Proofs.YteoadfckcilalaaGreatDoor
open Go.RowKit

theorem fieldsGo_le (M : Nat) : ∀ (l : List ByteArray) (x : List Fld), fieldsGo l = some x → (∀ s ∈ l, s.size ≤ M) → ∀ f ∈ x, f.1.size ≤ M ∧ f.2.size ≤ M
  | [], x, h, _ => by
    cases h
    exact fun f hf => absurd hf (by simp)
  | t :: l, x, h, hz => by
    unfold fieldsGo at h
    cases ht : parseF t with
    | none => rw [ht] at h; cases h
    | some f =>
      rw [ht] at h
      simp only at h
      cases hx : fieldsGo l with
      | none => rw [hx] at h; cases h
      | some y =>
        rw [hx] at h
        simp only [Option.map_some, Option.some.injEq] at h
        subst h
        have h1 := fieldsGo_le M l y hx (fun s hs => hz s (List.mem_cons_of_mem _ hs))
        have h3 := parseF_small ht
        have h4 := hz t (List.mem_cons_self ..)
        intro g hg
        rcases List.mem_cons.1 hg with rfl | hg
        · exact ⟨Nat.le_trans h3.1 h4, Nat.le_trans h3.2 h4⟩
        · exact h1 g hg
theorem fieldsS_sm {l : List ByteArray} (hz : ∀ s ∈ l, s.size ≤ 1000000) : SmallF (fieldsS l).2 ∧ (fieldsS l).2.length ≤ 64 := by
  unfold fieldsS
  split
  · exact ⟨fun f hf => absurd hf (by simp), by simp⟩
  · rename_i h64
    cases hx : fieldsGo l with
    | none => exact ⟨fun f hf => absurd hf (by simp), by simp⟩
    | some y =>
      have h1 := fieldsGo_le 1000000 l y hx hz
      have h2 := (fieldsGo_small l y hx (fun s hs => Nat.le_trans (hz s hs) (by decide))).2
      exact ⟨fun f hf => ⟨Nat.le_trans (h1 f hf).1 (by decide), Nat.le_trans (h1 f hf).2 (by decide)⟩, by simp only; omega⟩
theorem small_nil : SmallF [] ∧ ([] : List Fld).length ≤ 64 := ⟨fun f hf => absurd hf (by simp), by simp⟩
theorem headA_sm {b : List UInt8} (hl : b.length ≤ 1000000) : SmallF (headA b).2.2.2.2 ∧ (headA b).2.2.2.2.length ≤ 64 := by
  unfold headA
  split
  · rename_i l0 ls hL
    have hz := (linesS_facts hL).1
    split
    · split
      · exact fieldsS_sm fun s hs => Nat.le_trans (hz s (List.mem_cons_of_mem _ hs)) hl
      · exact small_nil
    · exact small_nil
  · exact small_nil
theorem headR_sm {b : List UInt8} (hl : b.length ≤ 1000000) : SmallF (headR b).2.2.2.2 ∧ (headR b).2.2.2.2.length ≤ 64 := by
  unfold headR
  split
  · rename_i l0 ls hL
    have hz := (linesS_facts hL).1
    split
    · split
      · split
        · exact small_nil
        · exact fieldsS_sm fun s hs => Nat.le_trans (hz s (List.mem_cons_of_mem _ hs)) hl
      · exact small_nil
    · exact small_nil
  · exact small_nil
theorem total_sm {l : List Fld} (h : SmallF l) (hl : l.length ≤ 64) (n : ByteArray) : total (valuesL l n) ≤ 4000000000 := Nat.le_trans (total_values h n) (Nat.le_trans (Nat.mul_le_mul_right _ hl) (by decide))
/-- End found an end. -/
theorem endS_ok {b : List UInt8} {most : Int} (h : (endS b most).2 = 0) : ∃ n : Nat, endS b most = ((n : Int), 0) ∧ 4 ≤ n ∧ n ≤ b.length := by
  unfold endS at h ⊢
  split at h
  · rename_i hc
    rcases endGo_range b 0 with h1 | ⟨k, h1, h2, h3⟩
    · have : endZ b = -1 := h1
      omega
    · have h4 : endZ b = k := h1
      rw [if_pos hc, h4]
      exact ⟨k, rfl, by omega, by omega⟩
  · split at h <;> cases h
end Go.Proofs.YteoadfckcilalaaGreatDoor
namespace Go.Proofs.YteoadfckcilalaaGreatDoor
open Go.RowKit

theorem oneRd (r : Bool) (p : ByteArray) (a2 : Int) (a3 a4 : ByteArray) (a5 : Int) (x6 : Option Addr) (n6 c6 : Nat) (b7 : Bool) (a9 : Int) (a10 : ByteArray) (a11 : Int) (x12 : Option Addr) (n12 c12 : Nat) (a14 a15 a16 a17 a18 a19 a20 : Int) (x21 : Option Addr) (n21 c21 : Nat) : (#[.bool r, .string p, .int .i64 a2, .string a3, .string a4, .int .i64 a5, .slice x6 n6 c6, .bool b7, .slice none 0 0, .int .i64 a9, .string a10, .int .i64 a11, .slice x12 n12 c12, .slice none 0 0, .int .i64 a14, .int .i64 a15, .int .i64 a16, .int .i64 a17, .int .i64 a18, .int .i64 a19, .int .i64 a20, .slice x21 n21 c21] : Array Value).all (·.oneCell') = true := by simp [Value.oneCell']
theorem onePt (k : Int) (a : Option Addr) (n c : Nat) : (#[.int .i64 k, .slice a n c] : Array Value).all (·.oneCell') = true := by simp [Value.oneCell']
section
variable (B : Nat → Prop) (s : RS) (b : List UInt8) (most body : Int) (ba : Option Addr) (bc : Nat) (fa ga la : Option Addr) (fc gc lc : Nat) (w : World)
end
end Go.Proofs.YteoadfckcilalaaGreatDoor
namespace Go.Proofs.YteoadfckcilalaaGreatDoor
open Go.RowKit

section
variable {w wr : World} {g : Nat} {s : St} {n : Int} {dt tv bv : Value} {blk : List UInt8}
end
section
variable {P : Program} {ops : Array Oper} {rest : List Oper} {o : Oper} {a : Act} {w : World} {Q : Exit → Act → World → Prop}
/-- A whole array, stored into the cells of a greater variable. -/
theorem wpList_store_sub (hgd : o.guard = none) (ty : TypeId) (x y : Operand) (ho : o.op = .store ty x y)
    (g off : Nat) (cells : Array Value) (hx : a.eval x = .pointer (some ⟨g, off, none⟩)) (hy : a.eval y = .agg cells)
    (t : TypeId) (cur new : Array Value) (hg : w.heap[g]? = some (.cells cur t (0, 0))) (hi : (P.info? ty).map (·.size) = some cells.size)
    (hfit : off + cells.size ≤ cur.size) (h1 : cells.all (·.oneCell') = true) (hn : (cur.toList.take off ++ cells.toList ++ cur.toList.drop (off + cells.size)).toArray = new)
    (h : wpList P ops Q rest (a.put o.dst undef) (w.setRow g new)) : wpList P ops Q (o :: rest) a w :=
  wpList_plain hgd fun K hK => by
    have hst := run_storeCells_at P g off t cells.toList 0 cur w hg (by simpa using hfit) (fun v hv => (Array.all_eq_true_iff_forall_mem.1 h1) v (by simpa using hv))
    have hsv : (storeVar ty ⟨g, off, none⟩ (.agg cells)).run P w = .ok () (w.setRow g new) := by
      cases hq : P.info? ty with
      | none => simp [hq] at hi
      | some i =>
        have hs : cells.size = i.size := by simp [hq] at hi; omega
        rw [← hn]
        simpa [storeVar, sizeOf, typeInfo, hq, Value.cells, hs] using hst
    unfold Oper.wp execOp
    simp only [ho, hx, hy, Instr.storeAt, Instr.sureAddr, Sem.run_bind, Sem.run_pure, Result.andThen_ok, hsv]
    exact hK _ _ h
end
end Go.Proofs.YteoadfckcilalaaGreatDoor
namespace Go.Proofs.YteoadfckcilalaaGreatDoor
open Go.RowKit

theorem isBytes_takeR {w : World} {a : Option Addr} {l : List UInt8} {c : Nat} (h : IsBytes w a l c) (k : Nat) : IsBytes w a (l.take k) c := by
  rcases h with ⟨h1, h2, h3⟩ | ⟨x, h1, h2, h3, h4⟩
  · subst h3
    exact .inl ⟨h1, by rw [h2, List.take_nil], rfl⟩
  · refine .inr ⟨x, h1, Nat.le_trans (by rw [List.length_take]; omega) h2, h3, fun j hj => ?_⟩
    have hj2 : j < l.length := by rw [List.length_take] at hj; omega
    rw [List.getElem_take]
    exact h4 j hj2
section
variable (B : Nat → Prop) (s : RS) (b : List UInt8) (most body : Int) (ba : Option Addr) (bc : Nat) (fa ga la : Option Addr) (fc gc lc : Nat) (w : World)
end
end Go.Proofs.YteoadfckcilalaaGreatDoor
namespace Go.Proofs.YteoadfckcilalaaGreatDoor
open Go.RowKit

theorem run_fieldRdR (w : World) (g : Nat) : ∀ i, i < 9 → (Instr.fieldAt 37 (.pointer (some ⟨g, 0, none⟩)) i).run Tryz.prog w = .ok (.pointer (some ⟨g, [0, 1, 2, 3, 9, 14, 16, 17, 18].getD i 0, none⟩)) w
  | 0, _ => by simp [Instr.fieldAt, run_underlying Tryz.underlying37, Instr.sureAddr, fieldPlace, Addr.add]
  | 1, _ => by simp [Instr.fieldAt, run_underlying Tryz.underlying37, Instr.sureAddr, fieldPlace, Addr.add]
  | 2, _ => by simp [Instr.fieldAt, run_underlying Tryz.underlying37, Instr.sureAddr, fieldPlace, Addr.add]
  | 3, _ => by simp [Instr.fieldAt, run_underlying Tryz.underlying37, Instr.sureAddr, fieldPlace, Addr.add]
  | 4, _ => by simp [Instr.fieldAt, run_underlying Tryz.underlying37, Instr.sureAddr, fieldPlace, Addr.add]
  | 5, _ => by simp [Instr.fieldAt, run_underlying Tryz.underlying37, Instr.sureAddr, fieldPlace, Addr.add]
  | 6, _ => by simp [Instr.fieldAt, run_underlying Tryz.underlying37, Instr.sureAddr, fieldPlace, Addr.add]
  | 7, _ => by simp [Instr.fieldAt, run_underlying Tryz.underlying37, Instr.sureAddr, fieldPlace, Addr.add]
  | 8, _ => by simp [Instr.fieldAt, run_underlying Tryz.underlying37, Instr.sureAddr, fieldPlace, Addr.add]
theorem run_loadRR (w : World) (g : Nat) (cs : Array Value) (h : RVr w g cs) (hs : cs.size = 22) : (Instr.loadAt 37 (.pointer (some ⟨g, 0, none⟩))).run Tryz.prog w = .ok (.agg cs) w := by
  unfold RVr at h
  simp [Instr.loadAt, Instr.sureAddr, run_loadVar_row w g _ 37 _ _ _ h Tryz.underlying37 rfl (by rw [hs]; exact sizeRd)]
section
variable {Q : Exit → Act → World → Prop} {a : Act} {w : World} {o : Oper} {s : Spec}
theorem loc_fieldRd {x : Operand} {i : Nat} (ho : o.op = .fieldAddr 37 x i) {g j : Nat} (hx : a.eval x = .pointer (some ⟨g, 0, none⟩)) (hi : i < 9) (hj : [0, 1, 2, 3, 9, 14, 16, 17, 18].getD i 0 = j) (hs : s.p (.pointer (some ⟨g, j, none⟩)) w) :
    o.wp Tryz.prog a w (fun a' w' => ∃ v, a' = a.put o.dst v ∧ Below w.heap.size w w' ∧ s.p v w') Q := by
  subst hj
  exact loc_run (v := .pointer (some ⟨g, _, none⟩)) (by unfold execOp; rw [ho]; simp only [hx, Sem.run_bind, run_fieldRdR _ _ _ hi, Result.andThen_ok, Sem.run_pure]) (Below.refl _ _) hs
end
end Go.Proofs.YteoadfckcilalaaGreatDoor
namespace Go.Proofs.YteoadfckcilalaaGreatDoor
open Go.RowKit

theorem RVr.put {w : World} {g i : Nat} {cs : Array Value} {v : Value} (h : RVr w g cs) : RVr (w.setCell ⟨g, i, none⟩ v) g (cs.setIfInBounds i v) := heap_setCell_same w g i _ _ _ h
section
variable (B : Nat → Prop) (s : RS) (b : List UInt8) (most body : Int) (ba : Option Addr) (bc : Nat) (fa ga la : Option Addr) (fc gc lc : Nat) (w : World)
end
end Go.Proofs.YteoadfckcilalaaGreatDoor
