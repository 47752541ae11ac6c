/- Bytes of the source. The contracts of awake and of the laws of layer 2. The ID that the source makes. The request that the source makes: what is said of it. The request that the source makes. The law LineRequest. A line that was formatted is parsed to the same fields; the law LineTwice. The law LineFormat. The reference's reader: a reply whose head is in order. A slice of bytes in a block of the call's own that may bear the mark of a conversion: append in place, one byte stored. Sizes of what the source makes; local laws for wire. The reference's reader: a chunked body. A region that draws its order, whose last operation waits for all others and may write a slot that they read (s = s + f(..)); the rest goes on from there. Slices of slices of bytes: read, built in a region, opened among the arguments. -/
import Derived.Test.YteoadfckcilalaaGreatDoorPq1
import Derived.Test.YteoadfckcilalaaGreatDoorPq2
import Derived.Test.YteoadfckcilalaaGreatDoorPq3
import Derived.Test.YteoadfckcilalaaGreatDoorPq4
import Derived.Test.YteoadfckcilalaaGreatDoorRows
import Derived.WalkKit
import Derived.WalkSpells
import Derived.WalkLawsBesides
import Derived.BigQuiet
import Derived.Deep.QuietTactic
import Derived.Lib.Bytealg
import Derived.Lib.IndexLaws
import Derived.Lib.Hide
import Derived.Laws.IdiomStrings
import Derived.Lib.SlTrimSet
import Derived.Lib.IndexBytes
import Derived.Lib.Split
import Derived.Deep.AppendLies
import Derived.Shelf.Strings.SlTrimAscii
import Derived.Shelf.Strings.SplitShaped
import Derived.Shelf.LaysM
import Derived.Shelf.Strings.BuilderK
import Derived.Shelf.Strconv.Itoa4
import Derived.Shelf.Strings.Prefix
import Derived.Shelf.Bytes.SlIndexWhole
import Derived.Test.YteoadfckcilalaaGreatDoorProg
import Derived.Lib.SplitLaws
import Derived.WalkSmall
import Derived.ProofKit
import Derived.OpenShut
import Derived.Lib.Strings
import Derived.SliceStrings
import Derived.Deep.Quiet
import Derived.Tactics
import Derived.KernelRfl
import Derived.Below
import Derived.Laws.Bits64
import Derived.Lib.SlBytesConst
import Derived.Maps.AppendAt
import Derived.Laws.AppendOwnNone
import Derived.Great.BuildSlice
import Derived.Laws.Rows
import Derived.Laws.BitsAllLaws
import Derived.Laws.Shifts
import Derived.Maps.OwnOps
import Derived.Maps.OwnSet
import Derived.Deep.SlicePairs
import Derived.Lib.AppendZerosOnto
import Derived.Lib.AppendStr
import Derived.Laws.CopyOwn
import Derived.OwnWalk
import Derived.Laws.Strings3
import Derived.Laws.Concat
import Derived.Lib.ItoaMem
import Derived.IntWalk
import Derived.Sort.Grow
import Derived.Lib.LaidTab
import Derived.LaidSub
import Derived.Laws.Bits64b
import Derived.Laws.RangeAny
import Derived.LoopTactic
import Derived.Deep.DeepCutAuto
import Derived.Deep.CutBlock
import Derived.Deep.RegionHeld3
import Derived.Lib.ConvBytes
import Derived.Deep.MidRow
import Derived.Laws.Tables
import Derived.Deep.WholeRow
import Derived.StillTailTactics
import Derived.Lib.FrozenHead2
import Derived.Deep.Matrix
namespace Go.Proofs.YteoadfckcilalaaGreatDoor
open Go.RowKit

theorem Own.grown {B : Nat} {w w' : World} {v : Value} {l : List UInt8} {row : Option Nat} (h : Own B w v l) (hg : w.grownBy w' row) (hne : ∀ k, v.ownBlock = some k → some k ≠ row) : Own B w' v l :=
 h.same fun k hk => hg.block k (h.lt hk).2 (hne k hk)
theorem isBytes_oneF (w : World) (c : UInt8) : IsBytes (w.alloc (.cells #[.int .u8 (c.toNat : Int)] 5)) (some ⟨w.heap.size, 0, none⟩) [c] 1 := by
 refine .inr ⟨_, rfl, Nat.le_refl _, by decide, fun j hj => ?_⟩
 obtain rfl : j = 0 := by simpa using hj
 rw [Addr.add_lit, new_cellF]; rfl
set_option maxRecDepth 100000 in
set_option maxHeartbeats 2000000 in
theorem srcBytes_any (g m : Nat) (a : Option Addr) (n c : Nat) (w : World) (h : Src w g a n c) (hm : m ≤ 1000) :
  Calls Tryz.prog 45 #[.pointer (some ⟨g, 0, none⟩), .int .i64 m] w fun e w' => ∃ v l, e = .returned v ∧ Own w.heap.size w' v l ∧ l.length ≤ m ∧ Src w' g a n c ∧ w.grownBy w' (some g) := by
 have H0 := Box.mk h
 have HLOW := Box.mk h.low
 have hlt := h.lt
 clear h
 go_enter Tryz.func45, Tryz.ntmps45
 go_wp2_with fail
 refine (next_any g (m + 1) a n c w H0.out (by omega) (by omega)).mono ?_
 rintro e w1 ⟨k, hk, rfl, hsrc, hg1⟩
 have HS1 := Box.mk hsrc
 have HG1 := Box.mk hg1
 clear hsrc hg1 H0
 go_wp2_with fail
 go_loopw [5, 6] (fun v iv wr => ∃ j : Nat, j ≤ m ∧ iv = .int .i64 j ∧ ∃ l : List UInt8, l.length + j ≤ m ∧ Box (Own w.heap.size wr v l ∧ Src wr g a n c ∧ w.grownBy wr (some g))) (fun _ iv _ => (intOf iv).toNat)
 case atStart => exact ⟨k, by omega, rfl, [], by simp; omega, ⟨Own.start _ _, HS1.out, HG1.out⟩⟩
 case round =>
  clear HS1 HG1
  obtain ⟨j, hj, rfl, l, hl, HM⟩ := hrel
  by_cases hpos : 0 < j
  · go_wp2_with fail
    refine (next_any g 7 a n c wr HM.out.2.1 (by decide) (by decide)).mono ?_
    rintro e w2 ⟨i, hi, rfl, hsrc, hg2⟩
    have HO2 := Box.mk (HM.out.1.grown hg2 (fun q e e2 => by have := (HM.out.1.lt e).1; have := Option.some.inj e2; omega))
    have HS2 := Box.mk hsrc
    have HG2 := Box.mk (grownBy_trans HM.out.2.2 hg2)
    have hsz := HG2.out.size
    clear hsrc hg2 HM
    obtain ⟨y, hy⟩ : ∃ y : UInt8, ∀ hd, (⟨#[97, 98, 13, 10, 48, 59, 32]⟩ : ByteArray)[i]'hd = y := ⟨(⟨#[97, 98, 13, 10, 48, 59, 32]⟩ : ByteArray)[i]'(by show i < 7; exact hi), fun _ => rfl⟩
    have hy1 : (y.toNat : Int) ≤ 255 := by have := y.toNat_lt; omega
    go_wp2_with (at_builtin; refine wpList_append_ownb _ rfl _ _ rfl rfl (HO2.out.keep (below_oneF w2 (.cells #[.int .u8 (y.toNat : Int)] 5))) (r := [y]) rfl (isBytes_oneF w2 y) (by simp; omega) (by simp; omega) ?c3)
    case c3 =>
     intro v' w3 hown hgrow _
     have HO3 := Box.mk hown
     have hgrow2 : w2.grownBy w3 u5.ownBlock := ⟨hgrow.os, hgrow.tape, hgrow.output, Nat.le_trans (by simp) hgrow.size, fun k hk hne => by
      rw [hgrow.block k (by simp; omega) hne]
      exact (below_oneF w2 _).block k hk⟩
     have HS3 := Box.mk (HS2.out.grown hgrow2 (fun e => by have := (HO2.out.lt e.symm).1; omega) (fun x e h0 e2 => by have := (HO2.out.lt e2.symm).1; have := HLOW.out x e h0; omega))
     have HG3 := Box.mk (grownBy_new HG2.out hgrow2 (fun i e => (HO2.out.lt e).1))
     clear hown hgrow hgrow2 HO2 HS2 HG2 hy
     go_wp2_with fail
     go_roundw
     case rel => exact ⟨j - 1, by omega, by go_num, l ++ [y], by simp; omega, ⟨HO3.out, HS3.out, HG3.out⟩⟩
     case measure => simp [intOf]; omega
  · obtain rfl : j = 0 := by omega
    go_wp2_with fail
    go_ret
    exact ⟨_, l, rfl, HM.out.1, by omega, HM.out.2.1, HM.out.2.2⟩
end Go.Proofs.YteoadfckcilalaaGreatDoor
namespace Go.Proofs.YteoadfckcilalaaGreatDoor
open Go.RowKit

theorem digs_len {b : Nat} (hb : 2 ≤ b) : ∀ (k n : Nat), n < 2 ^ k → 1 ≤ k → (digs b n).length ≤ k
 | 0, n, _, h => absurd h (by omega)
 | k + 1, n, hn, _ => by
  by_cases h : n < b
  · rw [digs_small h]; simp
  · rw [digs_big hb h, List.length_append]
    have h1 : n / b ≤ n / 2 := Nat.div_le_div_left hb (by omega)
    have h2 : n / 2 < 2 ^ k := by rw [Nat.pow_succ] at hn; omega
    have h3 : 1 ≤ n / b := by
     have : b / b ≤ n / b := Nat.div_le_div_right (by omega)
     rw [Nat.div_self (by omega)] at this; exact this
    have hk : 1 ≤ k := by
     match k, h2 with
     | 0, h2 => simp at h2; omega
     | k + 1, _ => omega
    have := digs_len hb k (n / b) (by omega) hk
    simp; omega
theorem fmtS_size {b : Nat} (hb : 2 ≤ b) (n : Int) (h1 : n ≤ 9223372036854775807) : (fmtS b n).size ≤ 64 := by
  unfold fmtS; split
  · decide
  · show (digs b n.toNat).toArray.size ≤ 64
    simpa using digs_len hb 64 n.toNat (by have : (2 : Nat) ^ 64 = 18446744073709551616 := by decide
                                           omega) (by omega)
theorem fmtS_max {b : Nat} (hb : 2 ≤ b) (n : Int) (h1 : n ≤ 9223372036854775807) : (fmtS b n).size ≤ maxLen := Nat.le_trans (fmtS_size hb n h1) (by decide)
end Go.Proofs.YteoadfckcilalaaGreatDoor
namespace Go.Proofs.YteoadfckcilalaaGreatDoor
open Go.RowKit

theorem fmtS_len (a : Nat) (h : a ≤ 1000000000) : (fmtS 10 (a : Int)).size ≤ maxLen := fmtS_max (by decide) _ (by omega)
theorem refSum_two (s1 s2 : ByteArray) (a : Addr) (c : Nat) (w : World) (h1 : s1.size ≤ maxLen) (h2 : s2.size ≤ maxLen) (h : StrsIn w (some a) [s1, s2]) :
  Calls Tryz.prog 95 #[.slice (some a) 2 c] w fun e w' => ∃ h : Nat, e = .returned (.int .u64 h) ∧ h < 18446744073709551616 ∧ Below w.heap.size w w' := by
 refine (refSum_any [s1, s2] (some a) c w (by show 2 ≤ maxLen; decide) (fun x hx => ?_) h).mono ?_
 · simp at hx
   rcases hx with rfl | rfl
   · exact h1
   · exact h2
 · rintro e w' ⟨rfl, hb⟩
   exact ⟨_, rfl, (by unfold sumL; rw [List.foldl_cons, List.foldl_cons, List.foldl_nil]; exact sumN_lt _ _), hb⟩
def hexOk (c : UInt8) : Bool := decide (48 ≤ c.toNat ∧ c.toNat ≤ 57 ∨ 97 ≤ c.toNat ∧ c.toNat ≤ 102)
theorem hex_digit {z : Int} (h0 : 0 ≤ z) (h1 : z ≤ 15) : (fmtS 16 z).size = 1 ∧ (fmtS 16 z).data.toList.all hexOk = true := by
 obtain ⟨k, rfl⟩ : ∃ k : Nat, z = k := ⟨z.toNat, by omega⟩
 have hk : k < 16 := by omega
 have h : ∀ m : Fin 16, (fmtS 16 (m.val : Int)).size = 1 ∧ (fmtS 16 (m.val : Int)).data.toList.all hexOk = true := by decide +kernel
 exact h ⟨k, hk⟩

set_option maxRecDepth 100000 in
set_option maxHeartbeats 2000000 in
theorem refNewID_any (a b : Nat) (w : World) (ha : a ≤ 1000000000) (hb : b ≤ 1000000000) :
  Calls Tryz.prog 67 #[.int .i64 a, .int .i64 b] w fun e w' => ∃ s : ByteArray, e = .returned (.string s) ∧ s.size = 16 ∧ s.data.toList.all hexOk = true ∧ Below w.heap.size w w' := by
 go_enter Tryz.func67, Tryz.ntmps67
 go_wp2_with fail
 refine (refDecimal_any a _ (by omega) (by omega)).mono ?_
 rintro e w1 ⟨rfl, hb1⟩
 have HB1 := Box.mk hb1
 clear hb1
 go_wp2_with fail
 refine (refDecimal_any b _ (by omega) (by omega)).mono ?_
 rintro e w2 ⟨rfl, hb2⟩
 have HB2 := Box.mk (below_trans HB1.out hb2)
 have HZ := Box.mk (And.intro (fmtS_len a ha) (fmtS_len b hb))
 clear hb2 HB1
 generalize fmtS 10 a = s1 at *
 generalize fmtS 10 b = s2 at *
 go_wp2_with fail
 refine (refSum_two s1 s2 _ _ _ HZ.out.1 HZ.out.2 (strsIn_twoF w2 s1 s2 _)).mono ?_
 rintro e w3 ⟨h, rfl, hh, hb3⟩
 have HB3 := Box.mk (below_trans (below_twoF HB2.out (.cells #[.string s1, .string s2] 9)) hb3)
 clear hb3 HB2 HZ
 go_wp2_with fail
 go_loopw [6, 7] (fun v iv wr => ∃ k : Nat, k ≤ 16 ∧ iv = .int .i64 k ∧ ∃ s : ByteArray, v = .string s ∧ s.size ≤ 1000 ∧ Box (s.size = k ∧ s.data.toList.all hexOk = true ∧ Below w.heap.size w wr)) (fun _ iv _ => 16 - (intOf iv).toNat)
 case atStart => exact ⟨0, Nat.zero_le _, rfl, ⟨#[]⟩, rfl, by decide, ⟨rfl, rfl, HB3.out⟩⟩
 case round =>
  clear HB3
  obtain ⟨k, hk, rfl, s, rfl, hs, HM⟩ := hrel
  by_cases hlt : k < 16
  · go_wp2_with fail
    obtain ⟨d, hd, hd15⟩ : ∃ d : Nat, wrap64 (bits .and .u64 ((h : Int) / 2 ^ (60 - 4 * k)) 15) = d ∧ d ≤ 15 := by
     have e1 : ((h : Int) / 2 ^ (60 - 4 * k)) = ((h / 2 ^ (60 - 4 * k) : Nat) : Int) := by push_cast; rfl
     have h2 : h / 2 ^ (60 - 4 * k) < 18446744073709551616 := Nat.lt_of_le_of_lt (Nat.div_le_self _ _) hh
     have h3 := bits_and_u64_nat (h / 2 ^ (60 - 4 * k)) 15 h2 (by decide)
     refine ⟨h / 2 ^ (60 - 4 * k) &&& 15, ?_, Nat.and_le_right⟩
     rw [e1, show (15 : Int) = ((15 : Nat) : Int) from rfl, h3]
     have h4 : h / 2 ^ (60 - 4 * k) &&& 15 ≤ 15 := Nat.and_le_right
     generalize h / 2 ^ (60 - 4 * k) &&& 15 = x at *
     simp only [wrap64]; omega
    rw [hd]
    have HD := Box.mk (hex_digit (z := (d : Int)) (by omega) (by omega))
    refine (refHex_any (d : Int) wr (by omega) (by omega)).mono ?_
    rintro e w4 ⟨rfl, hb4⟩
    generalize fmtS 16 (d : Int) = t at *
    have hts : t.size ≤ 10 := by have := HD.out.1; omega
    have HM2 := Box.mk (show (s ++ t).size = k + 1 ∧ (s ++ t).data.toList.all hexOk = true ∧ Below w.heap.size w w4 from ⟨by rw [ByteArray.size_append, HM.out.1, HD.out.1], by rw [ba_app_list, List.all_append, HM.out.2.1, HD.out.2]; rfl, below_trans HM.out.2.2 hb4⟩)
    clear hb4 HM HD hd
    go_wp2_with fail
    go_roundw
    case rel => exact ⟨k + 1, by omega, by go_num, s ++ t, rfl, by have := HM2.out.1; omega, HM2⟩
    case measure => simp [intOf]; omega
  · obtain rfl : k = 16 := by omega
    go_wp2_with fail
    go_ret
    exact ⟨s, rfl, HM.out.1, HM.out.2.1, HM.out.2.2⟩

set_option maxHeartbeats 1000000 in
theorem srcID_any (g : Nat) (a : Option Addr) (n c : Nat) (w : World) (h : Src w g a n c) :
  Calls Tryz.prog 44 #[.pointer (some ⟨g, 0, none⟩)] w fun e w' => ∃ s : ByteArray, e = .returned (.string s) ∧ s.size = 16 ∧ s.data.toList.all hexOk = true ∧ Src w' g a n c ∧ w.grownBy w' (some g) := by
 have H0 := Box.mk h
 clear h
 go_enter Tryz.func44, Tryz.ntmps44
 go_wp2_with fail
 refine (next_any g 8 a n c w H0.out (by decide) (by decide)).mono ?_
 rintro e w1 ⟨k, hk, rfl, hsrc, hg1⟩
 have HS := Box.mk hsrc
 have HG := Box.mk hg1
 clear hsrc hg1 H0
 go_wp2_with fail
 refine (refNewID_any k 7 w1 (by omega) (by decide)).mono ?_
 rintro e w2 ⟨s, rfl, hz, hx, hb⟩
 have HF := Box.mk (And.intro hz (And.intro hx (And.intro (HS.out.keep hb) (grownBy_trans HG.out (grownBy_below hb)))))
 clear hz hx hb
 go_wp2_with fail
 go_ret
 exact ⟨s, rfl, HF.out.1, HF.out.2.1, HF.out.2.2.1, HF.out.2.2.2⟩
end Go.Proofs.YteoadfckcilalaaGreatDoor
namespace Go.Proofs.YteoadfckcilalaaGreatDoor
open Go.RowKit

theorem trimL_none : ∀ l : List UInt8, l.all (fun c => !blankB c) = true → trimL l = l := fun l h => by
 have hd : ∀ k : List UInt8, k.all (fun c => !blankB c) = true → k.dropWhile blankB = k := fun k hk => by
  cases k with
  | nil => rfl
  | cons a t =>
   rw [List.all_cons, Bool.and_eq_true] at hk
   have : blankB a = false := by simpa using hk.1
   rw [List.dropWhile_cons, this]; rfl
 have hr : rdrop blankB l = l := by
  unfold rdrop
  rw [hd l.reverse (by rw [List.all_reverse]; exact h), List.reverse_reverse]
 unfold trimL
 rw [hr, hd l h]
def hostF : Fld := (⟨#[72, 111, 115, 116]⟩, ⟨#[104]⟩)
def cohort : ByteArray := ⟨#[99, 111, 104, 111, 114, 116, 61]⟩
def cookF (s : ByteArray) : Fld := (⟨#[67, 111, 111, 107, 105, 101]⟩, cohort ++ s)
def expF : Fld := (⟨#[69, 120, 112, 101, 99, 116]⟩, ⟨#[49, 48, 48, 45, 99, 111, 110, 116, 105, 110, 117, 101]⟩)
def IdOk (s : ByteArray) : Prop := s.size = 16 ∧ s.data.toList.all hexOk = true
def RF1 (x : List Fld) : Prop := ∃ y, (∀ f ∈ y, SrcF f) ∧ y.length ≤ 3 ∧ x = y ++ [hostF]
def RF2 (x : List Fld) : Prop := RF1 x ∨ ∃ y s, RF1 y ∧ IdOk s ∧ x = y ++ [cookF s]
def RF3 (x : List Fld) : Prop := RF2 x ∨ ∃ y, RF2 y ∧ x = y ++ [expF]
theorem host_made : MadeF hostF := ⟨by decide +kernel, by decide, by decide⟩
theorem exp_made : MadeF expF := ⟨by decide +kernel, by decide, by decide⟩
theorem hex_byte {c : UInt8} (h : hexOk c = true) : valB c = true ∧ blankB c = false := by
 have hk : ∀ k : Fin 256, hexOk (UInt8.ofNat k.val) = true → valB (UInt8.ofNat k.val) = true ∧ blankB (UInt8.ofNat k.val) = false := by decide +kernel
 have := hk ⟨c.toNat, c.toNat_lt⟩
 simp only [UInt8.ofNat_toNat] at this
 exact this h
theorem cook_made {s : ByteArray} (h : IdOk s) : MadeF (cookF s) := by
 have hl : (cohort ++ s).data.toList = cohort.data.toList ++ s.data.toList := ba_app_list _ _
 have hv : valS (cohort ++ s) = true := by
  unfold valS visS
  have h1 : trimL (cohort ++ s).data.toList = (cohort ++ s).data.toList := trimL_none _ (by
   rw [hl, List.all_append]
   have : cohort.data.toList.all (fun c => !blankB c) = true := by decide
   rw [this, Bool.true_and, List.all_eq_true]
   intro c hc
   rw [(hex_byte (List.all_eq_true.1 h.2 c hc)).2]; rfl)
  have h2 : trimBA (cohort ++ s) = cohort ++ s := ba_ext (by rw [trimBA_list, h1])
  rw [h2]
  simp only [beq_self_eq_true, Bool.and_true]
  rw [hl, List.all_append]
  have : cohort.data.toList.all valB = true := by decide +kernel
  rw [this, Bool.true_and, List.all_eq_true]
  intro c hc
  exact (hex_byte (List.all_eq_true.1 h.2 c hc)).1
 refine ⟨?_, by show 6 ≤ 1000; decide, ?_⟩
 · show fldB _ _ = true
   unfold fldB
   rw [show valS (cookF s).2 = true from hv]
   show (tokS ⟨#[67, 111, 111, 107, 105, 101]⟩ && true) = true
   decide +kernel
 · show (cohort ++ s).size ≤ 1000
   rw [ByteArray.size_append, h.1]; decide
theorem RF1.made {x : List Fld} (h : RF1 x) : (∀ f ∈ x, MadeF f) ∧ x.length ≤ 4 := by
 obtain ⟨y, h1, h2, rfl⟩ := h
 refine ⟨fun f hf => ?_, by rw [List.length_append]; show _ + 1 ≤ 4; omega⟩
 rcases List.mem_append.1 hf with h | h
 · exact (h1 f h).made
 · obtain rfl := List.mem_singleton.1 h; exact host_made
theorem RF2.made {x : List Fld} (h : RF2 x) : (∀ f ∈ x, MadeF f) ∧ x.length ≤ 5 := by
 rcases h with h | ⟨y, s, h1, h2, rfl⟩
 · exact ⟨h.made.1, by have := h.made.2; omega⟩
 · refine ⟨fun f hf => ?_, by have := h1.made.2; rw [List.length_append]; show _ + 1 ≤ 5; omega⟩
   rcases List.mem_append.1 hf with h | h
   · exact h1.made.1 f h
   · obtain rfl := List.mem_singleton.1 h; exact cook_made h2
theorem RF3.made {x : List Fld} (h : RF3 x) : (∀ f ∈ x, MadeF f) ∧ x.length ≤ 6 := by
 rcases h with h | ⟨y, h1, rfl⟩
 · exact ⟨h.made.1, by have := h.made.2; omega⟩
 · refine ⟨fun f hf => ?_, by have := h1.made.2; rw [List.length_append]; show _ + 1 ≤ 6; omega⟩
   rcases List.mem_append.1 hf with h | h
   · exact h1.made.1 f h
   · obtain rfl := List.mem_singleton.1 h; exact exp_made

def methF : List ByteArray := [⟨#[71, 69, 84]⟩, ⟨#[71, 69, 84]⟩, ⟨#[80, 79, 83, 84]⟩, ⟨#[72, 69, 65, 68]⟩, ⟨#[80, 85, 84]⟩]
def targF : List ByteArray := [⟨#[47]⟩, ⟨#[47, 97, 63, 98]⟩, ⟨#[47, 114, 111, 108, 108, 111, 117, 116]⟩, ⟨#[47, 114, 101, 112, 111, 114, 116, 115]⟩]
theorem methF_ok : (methF.all fun s => tokS s && decide (s.size ≤ 1000)) = true := by decide +kernel
theorem targF_ok : (targF.all fun s => targetS s && decide (s.size ≤ 1000)) = true := by decide +kernel
theorem meth_at {s : ByteArray} (h : s ∈ methF) : tokS s = true ∧ s.size ≤ 1000 := by
 have := List.all_eq_true.1 methF_ok s h
 simpa using this
theorem targ_at {s : ByteArray} (h : s ∈ targF) : targetS s = true ∧ s.size ≤ 1000 := by
 have := List.all_eq_true.1 targF_ok s h
 simpa using this

def RqSt (R : List Fld → Prop) (B g : Nat) (a : Option Addr) (n c : Nat) (w0 : World) (gr q : Nat) (m t : ByteArray) (w : World) : Prop :=
 ∃ z vF x, (z = 0 ∨ z = 1) ∧ w.heap[gr]? = some (.cells #[.string m, .string t, .int .i64 z, vF, .bool false, .slice none 0 0] 29 (0, 0)) ∧ OwnF B w vF x ∧ R x ∧
  Src w g a n c ∧ w0.grownBy w (some g) ∧ RVar w q ⟨#[]⟩ ⟨#[]⟩ 0
theorem RqSt.keep {R : List Fld → Prop} {B g : Nat} {a : Option Addr} {n c : Nat} {w0 : World} {gr q : Nat} {m t : ByteArray} {w w' : World} (h : RqSt R B g a n c w0 gr q m t w) (hb : Below w.heap.size w w') : RqSt R B g a n c w0 gr q m t w' := by
 obtain ⟨z, vF, x, h1, h2, h3, h5, h8, h9, h10⟩ := h
 exact ⟨z, vF, x, h1, by rw [hb.block gr (Array.getElem?_eq_some_iff.1 h2).1]; exact h2, h3.keep hb, h5, h8.keep hb, grownBy_trans h9 (grownBy_below hb), h10.keep hb⟩
theorem OwnF.mono {B B' : Nat} {w : World} {v : Value} {l : List Fld} (h : OwnF B w v l) (hb : B' ≤ B) : OwnF B' w v l := by
 obtain ⟨h1, h2⟩ := h
 refine ⟨h1, ?_⟩
 rcases h2 with h2 | ⟨g, cap, cur, hv, hg, hc, r⟩
 · exact .inl h2
 · exact .inr ⟨g, cap, cur, hv, Nat.le_trans hb hg, hc, r⟩
theorem Own.mono {B B' : Nat} {w : World} {v : Value} {l : List UInt8} (h : Own B w v l) (hb : B' ≤ B) : Own B' w v l := by
 obtain ⟨h1, h2⟩ := h
 refine ⟨h1, ?_⟩
 rcases h2 with h2 | ⟨g, cap, cur, hv, hg, hc, r⟩
 · exact .inl h2
 · exact .inr ⟨g, cap, cur, hv, Nat.le_trans hb hg, hc, r⟩
structure RqN (B g : Nat) (a : Option Addr) (n : Nat) (w0 : World) (gr q : Nat) : Prop where
 lo : g < w0.heap.size
 src : ∀ x, a = some x → 0 < n → x.block < w0.heap.size
 hq : q = w0.heap.size
 hgr : q < gr
 top : gr < B
theorem RqSt.next {R : List Fld → Prop} {B g : Nat} {a : Option Addr} {n c : Nat} {w0 : World} {gr q : Nat} {m t : ByteArray} {w w' : World} (h : RqSt R B g a n c w0 gr q m t w) (N : RqN B g a n w0 gr q) (hg : w.grownBy w' (some g)) (hs : Src w' g a n c) :
  RqSt R B g a n c w0 gr q m t w' := by
 obtain ⟨z, vF, x, h1, h2, h3, h5, h8, h9, h10⟩ := h
 have n1 := N.lo
 have n2 := N.hq
 have n3 := N.hgr
 have n4 := N.top
 refine ⟨z, vF, x, h1, ?_, h3.grown hg (fun k hk e => ?_), h5, hs, grownBy_trans h9 hg, ?_⟩
 · rw [hg.block gr (Array.getElem?_eq_some_iff.1 h2).1 (fun e => by have := Option.some.inj e; omega)]; exact h2
 · have := (h3.lt hk).1; have := Option.some.inj e; omega
 · exact (hg.block q (Array.getElem?_eq_some_iff.1 h10).1 (fun e => by have := Option.some.inj e; omega)).trans h10
theorem grownBy_setCell {w : World} {gr i : Nat} {v : Value} : w.grownBy (w.setCell ⟨gr, i, none⟩ v) (some gr) :=
 ⟨rfl, rfl, rfl, by simp [World.setCell], fun k _ hne => heap_setCell_other w ⟨gr, i, none⟩ k _ (fun e => hne (by rw [e]))⟩
theorem RqSt.put {R' : List Fld → Prop} {B g : Nat} {a : Option Addr} {n c : Nat} {w0 : World} {gr q : Nat} {m t : ByteArray} {w : World} (N : RqN B g a n w0 gr q) {z : Int} {vF : Value} {x : List Fld} {cs : Array Value} {i : Nat} {v : Value}
  (hz : z = 0 ∨ z = 1) (hrow : w.heap[gr]? = some (.cells cs 29 (0, 0))) (hcs : cs.setIfInBounds i v = #[.string m, .string t, .int .i64 z, vF, .bool false, .slice none 0 0]) (hF : OwnF B w vF x) (hR : R' x)
  (hS : Src w g a n c) (hG : w0.grownBy w (some g)) (hq : RVar w q ⟨#[]⟩ ⟨#[]⟩ 0) : RqSt R' B g a n c w0 gr q m t (w.setCell ⟨gr, i, none⟩ v) := by
 have n1 := N.lo
 have n2 := N.hq
 have n3 := N.hgr
 have n4 := N.top
 have hg : w.grownBy (w.setCell ⟨gr, i, none⟩ v) (some gr) := grownBy_setCell
 refine ⟨z, vF, x, hz, ?_, hF.grown hg (fun k hk e => ?_), hR, hS.other hg (by omega) (fun y e h0 => by have := N.src y e h0; omega), grownBy_new hG hg (fun j e => by have := Option.some.inj e; omega), ?_⟩
 · rw [← hcs]; exact heap_setCell_same w gr i cs 29 v hrow
 · have := (hF.lt hk).1; have := Option.some.inj e; omega
 · exact (heap_setCell_other w ⟨gr, i, none⟩ q _ (by show q ≠ gr; omega)).trans hq
theorem RqSt.app {R' : List Fld → Prop} {B g : Nat} {a : Option Addr} {n c : Nat} {w0 : World} {gr q : Nat} {m t : ByteArray} {w w' : World} (N : RqN B g a n w0 gr q) {z : Int} {cs : Array Value} {v' : Value} {x' : List Fld} {row : Option Nat}
  (hz : z = 0 ∨ z = 1) (hrow : w.heap[gr]? = some (.cells cs 29 (0, 0))) (hcs : cs.setIfInBounds 3 v' = #[.string m, .string t, .int .i64 z, v', .bool false, .slice none 0 0]) (hr : ∀ k, row = some k → B ≤ k) (hg : w.grownBy w' row) (hF : OwnF B w' v' x') (hR : R' x')
  (hS : Src w g a n c) (hG : w0.grownBy w (some g)) (hq : RVar w q ⟨#[]⟩ ⟨#[]⟩ 0) : RqSt R' B g a n c w0 gr q m t (w'.setCell ⟨gr, 3, none⟩ v') := by
 have n1 := N.lo
 have n2 := N.hq
 have n3 := N.hgr
 have n4 := N.top
 refine RqSt.put N hz ?_ hcs hF hR (hS.grown hg (fun e => by have := hr g e.symm; omega) (fun y e h0 e2 => by have := hr _ e2.symm; have := N.src y e h0; omega)) (grownBy_new hG hg (fun j e => by have := hr j e; omega)) ?_
 · rw [hg.block gr (Array.getElem?_eq_some_iff.1 hrow).1 (fun e => by have := hr gr e.symm; omega)]; exact hrow
 · exact (hg.block q (Array.getElem?_eq_some_iff.1 hq).1 (fun e => by have := hr q e.symm; omega)).trans hq

def ReqMade (w : World) (g : Nat) (a : Option Addr) (n c : Nat) (e : Ending) (w' : World) : Prop :=
 ∃ m t z vF x fr vB l, e = .returned (.agg #[.string m, .string t, .int .i64 z, vF, .bool fr, vB]) ∧ m ∈ methF ∧ t ∈ targF ∧ (z = 0 ∨ z = 1) ∧ OwnF w.heap.size w' vF x ∧ Own w.heap.size w' vB l ∧
  RF3 x ∧ l.length ≤ 30 ∧ (fr = false → l = []) ∧ Src w' g a n c ∧ w.grownBy w' (some g)

end Go.Proofs.YteoadfckcilalaaGreatDoor
namespace Go.Proofs.YteoadfckcilalaaGreatDoor
open Go.RowKit

def Spec.nope : Spec := ⟨fun _ _ => False, fun _ _ _ h _ => h⟩
def Spec.ids (f : ByteArray → Value) : Spec := ⟨fun v _ => ∃ s, IdOk s ∧ v = f s, fun _ _ _ h _ => h⟩
def CookS (w : World) (v : Value) : Prop := ∃ s b c, IdOk s ∧ v = .slice (some ⟨b, 0, none⟩) 1 c ∧ w.cell? ⟨b, 0, none⟩ = some (.string (cookF s).1) ∧ w.cell? ⟨b, 1, none⟩ = some (.string (cookF s).2)
def Spec.cooks : Spec := ⟨fun v w => CookS w v, fun _ _ _ h hb => by
 obtain ⟨s, b, c, h1, h2, h3, h4⟩ := h
 exact ⟨s, b, c, h1, h2, below_cell hb h3, below_cell hb h4⟩⟩
def CookA (B : Nat) (x : List Fld) (w : World) (v : Value) : Prop := ∃ s, IdOk s ∧ OwnF B w v (x ++ [cookF s])
def Spec.capp (B : Nat) (x : List Fld) : Spec := ⟨fun v w => CookA B x w v, fun _ _ _ h hb => by
 obtain ⟨s, h1, h2⟩ := h
 exact ⟨s, h1, h2.keep hb⟩⟩
section
variable {Q : Exit → Act → World → Prop} {act : Act} {w : World} {o : Oper} {s : Spec} {K : Act → World → Prop}
theorem loc_slice1F {x : Operand} (ho : o.op = .buildSlice 27 1 #[(0, x)]) {f : Fld} (hx : act.eval x = .agg #[.string f.1, .string f.2]) (hs : ∀ w', w'.cell? ⟨w.heap.size, 0, none⟩ = some (.string f.1) → w'.cell? ⟨w.heap.size, 1, none⟩ = some (.string f.2) → s.p (.slice (some ⟨w.heap.size, 0, none⟩) 1 1) w') :
  o.wp Tryz.prog act w (fun a' w' => ∃ v, a' = act.put o.dst v ∧ Below w.heap.size w w' ∧ s.p v w') Q := by
 obtain ⟨i0, hi, hz0, hz1, hz2⟩ := info_parts Tryz.info88
 have hrun := run_buildSlice (P := Tryz.prog) w 27 88 1 #[(0, .agg #[.string f.1, .string f.2])] #[.string f.1, .string f.2] i0 _ Tryz.underlying27 hi hz0 (by rw [hz1]; decide) (by rw [hz1]; decide) (by rw [hz1]; simp [Instr.fill, Value.cells, Array.range_succ, show Array.range 0 = #[] from rfl])
 refine loc_run (v := .slice (some ⟨w.heap.size, 0, none⟩) 1 1) (w' := w.alloc (.cells #[.string f.1, .string f.2] 88)) ?_ (below_oneF _ _) (hs _ (by rw [new_cellF]; rfl) (by rw [new_cellF]; rfl))
 unfold execOp
 simp only [ho, List.map_toArray, List.map_cons, List.map_nil, hx]
 rw [Sem.run_bind, hrun]; rfl
theorem wp_append_oneF {x y : Operand} (ho : o.op = .call { callee := .builtin .append, args := #[x, y], argTypes := #[27, 27] }) {B : Nat} {l : List Fld} (hx : OwnF B w (act.eval x) l) {b c : Nat} {f : Fld} (hy : act.eval y = .slice (some ⟨b, 0, none⟩) 1 c)
  (h0 : w.cell? ⟨b, 0, none⟩ = some (.string f.1)) (h1 : w.cell? ⟨b, 1, none⟩ = some (.string f.2)) (hn : l.length + 1 ≤ 4398046511104) (hB : B ≤ w.heap.size)
  (h : ∀ v' w', OwnF B w' v' (l ++ [f]) → w.grownBy w' (act.eval x).ownBlock → K (act.put o.dst v') w') : o.wp Tryz.prog act w K Q := by
 obtain ⟨i0, hi, hz0, hz1, hz2⟩ := info_parts Tryz.info88
 refine wp_append_lies w x y 27 ho B 88 i0 _ 2 32 Tryz.underlying27 hi hz0 hz1 hz2 rfl (by decide) (act.eval x) l.length (cellsF l) rfl hx ⟨b, 0, none⟩ 1 c [.string f.1, .string f.2] hy rfl ?_ ?_ (by decide) (by unfold maxLen; omega) (by omega) hB w.heap.size rfl ?_
 · intro j u hj
   match j, hj with
   | 0, hj => simp at hj; subst hj; rw [Addr.add_lit]; exact h0
   | 1, hj => simp at hj; subst hj; rw [Addr.add_lit]; exact h1
   | j + 2, hj => simp at hj
 · intro u hu; simp at hu; rcases hu with rfl | rfl <;> rfl
 · intro g cap w' hown hgrow hg hlt
   refine h _ w' ?_ hgrow
   unfold OwnF
   rw [List.length_append, cellsF_app]; exact hown
theorem wp_store_slice {P : Program} {ty : TypeId} {x y : Operand} (ho : o.op = .store ty x y) {p : Addr} {sa : Option Addr} {sn sc : Nat} {u : Value} (hx : act.eval x = .pointer (some p)) (hy : act.eval y = .slice sa sn sc) (hi : (P.info? ty).map (·.size) = some 1)
  (hc : w.cell? p = some u) (hf : w.frozen? p = false) (h : K (act.put o.dst undef) (w.setCell p (.slice sa sn sc))) : o.wp P act w K Q := by
 have hz : (sizeOf ty).run P w = .ok 1 w := by
  cases hq : P.info? ty with
  | none => rw [hq] at hi; cases hi
  | some i => rw [hq] at hi; simp at hi; simp [sizeOf, typeInfo, hq, hi]
 unfold Oper.wp execOp
 simp_all [Instr.storeAt, Instr.sureAddr, storeVar, storeCells, Value.cells, go_sem]
theorem chain_call {f : FuncId} {args : List Operand} {ts : Array TypeId} {P : Program} (ho : o.op = .call { callee := .value (.func f), args := args.toArray, argTypes := ts })
  (hf : (P.funcs[f]?).map (fun fn => fn.name != "runtime.NumGoroutine" && fn.body.isSome) = some true) (h : Calls P f (args.map act.eval).toArray w fun e w' => ∃ v, e = .returned v ∧ K (act.put o.dst v) w') : o.wp P act w K Q := by
 have hrun : (execOp act.eval o).run P w = .ok (.enter f (args.map act.eval).toArray) w := by
  unfold execOp; rw [ho]
  cases hfn : P.funcs[f]? with
  | none => rw [hfn] at hf; cases hf
  | some fn =>
   rw [hfn] at hf
   simp only [Option.map_some, Option.some.injEq, Bool.and_eq_true, bne_iff_ne, ne_eq] at hf
   have hb : fn.body ≠ none := fun e => by rw [e] at hf; exact absurd hf.2 (by simp)
   simp [resolve, Deferred.ofValue, invoke, callFunc, show act.eval (.func f) = .func (.func f) #[] #[] from rfl, hfn, hf.1, hb]
 unfold Oper.wp
 rw [hrun, Oper.upon_enter]
 refine h.mono ?_
 rintro e w' ⟨v, rfl, hk⟩
 exact hk
end

theorem agg_fields (w : World) : (isAgg 27).run Tryz.prog w = .ok false w := by
 unfold isAgg; rw [Sem.run_bind, run_underlying Tryz.underlying27 w]; rfl
theorem RqSt.src {R : List Fld → Prop} {B g : Nat} {a : Option Addr} {n c : Nat} {w0 : World} {gr q : Nat} {m t : ByteArray} {w : World} (h : RqSt R B g a n c w0 gr q m t w) : Src w g a n c := by
 obtain ⟨_, _, _, _, _, _, _, h, _, _⟩ := h
 exact h
theorem RqSt.weaken {R R' : List Fld → Prop} {B g : Nat} {a : Option Addr} {n c : Nat} {w0 : World} {gr q : Nat} {m t : ByteArray} {w : World} (h : RqSt R B g a n c w0 gr q m t w) (hr : ∀ x, R x → R' x) : RqSt R' B g a n c w0 gr q m t w := by
 obtain ⟨z, vF, x, h1, h2, h3, h5, h⟩ := h
 exact ⟨z, vF, x, h1, h2, h3, hr x h5, h⟩
structure RqJ (g : Nat) (a : Option Addr) (n c : Nat) (w0 : World) (gr q : Nat) (m t : ByteArray) (z : Int) (vF : Value) (w : World) : Prop where
 row : w.heap[gr]? = some (.cells #[.string m, .string t, .int .i64 z, vF, .bool false, .slice none 0 0] 29 (0, 0))
 src : Src w g a n c
 grown : w0.grownBy w (some g)
 res : RVar w q ⟨#[]⟩ ⟨#[]⟩ 0
theorem RqJ.keep {g : Nat} {a : Option Addr} {n c : Nat} {w0 : World} {gr q : Nat} {m t : ByteArray} {z : Int} {vF : Value} {w w' : World} (h : RqJ g a n c w0 gr q m t z vF w) (hb : Below w.heap.size w w') : RqJ g a n c w0 gr q m t z vF w' :=
 ⟨by rw [hb.block gr (Array.getElem?_eq_some_iff.1 h.row).1]; exact h.row, h.src.keep hb, grownBy_trans h.grown (grownBy_below hb), h.res.keep hb⟩
theorem RqJ.next {B g : Nat} {a : Option Addr} {n c : Nat} {w0 : World} {gr q : Nat} {m t : ByteArray} {z : Int} {vF : Value} {w w' : World} (h : RqJ g a n c w0 gr q m t z vF w) (N : RqN B g a n w0 gr q) (hg : w.grownBy w' (some g)) (hs : Src w' g a n c) : RqJ g a n c w0 gr q m t z vF w' := by
 have n1 := N.lo
 have n2 := N.hq
 have n3 := N.hgr
 exact ⟨(hg.block gr (Array.getElem?_eq_some_iff.1 h.row).1 (fun e => by have := Option.some.inj e; omega)).trans h.row, hs, grownBy_trans h.grown hg, (hg.block q (Array.getElem?_eq_some_iff.1 h.res).1 (fun e => by have := Option.some.inj e; omega)).trans h.res⟩
theorem RqJ.app {B g : Nat} {a : Option Addr} {n c : Nat} {w0 : World} {gr q : Nat} {m t : ByteArray} {z : Int} {vF : Value} {row : Option Nat} {w w' : World} (h : RqJ g a n c w0 gr q m t z vF w) (N : RqN B g a n w0 gr q) (hg : w.grownBy w' row) (hr : ∀ k, row = some k → B ≤ k) : RqJ g a n c w0 gr q m t z vF w' := by
 have n1 := N.lo
 have n2 := N.hq
 have n3 := N.hgr
 have n4 := N.top
 exact ⟨(hg.block gr (Array.getElem?_eq_some_iff.1 h.row).1 (fun e => by have := hr _ e.symm; omega)).trans h.row, h.src.grown hg (fun e => by have := hr g e.symm; omega) (fun y e h0 e2 => by have := hr _ e2.symm; have := N.src y e h0; omega), grownBy_new h.grown hg (fun j e => by have := hr j e; omega), (hg.block q (Array.getElem?_eq_some_iff.1 h.res).1 (fun e => by have := hr q e.symm; omega)).trans h.res⟩

structure RqK (B g : Nat) (a : Option Addr) (n c : Nat) (w0 : World) (gr q : Nat) (vF : Value) (x : List Fld) (cs : Array Value) (w : World) : Prop where
 row : w.heap[gr]? = some (.cells cs 29 (0, 0))
 own : OwnF B w vF x
 src : Src w g a n c
 grown : w0.grownBy w (some g)
 res : RVar w q ⟨#[]⟩ ⟨#[]⟩ 0
theorem RqK.set {B g : Nat} {a : Option Addr} {n c : Nat} {w0 : World} {gr q : Nat} {vF : Value} {x : List Fld} {cs : Array Value} {w : World} (h : RqK B g a n c w0 gr q vF x cs w) (N : RqN B g a n w0 gr q) (i : Nat) (v : Value) :
  RqK B g a n c w0 gr q vF x (cs.setIfInBounds i v) (w.setCell ⟨gr, i, none⟩ v) := by
 have n1 := N.lo
 have n2 := N.hq
 have n3 := N.hgr
 have n4 := N.top
 have hg : w.grownBy (w.setCell ⟨gr, i, none⟩ v) (some gr) := grownBy_setCell
 exact ⟨heap_setCell_same w gr i cs 29 v h.row, h.own.grown hg (fun k hk e => by have := (h.own.lt hk).1; have := Option.some.inj e; omega), h.src.other hg (by omega) (fun y e h0 => by have := N.src y e h0; omega), grownBy_new h.grown hg (fun j e => by have := Option.some.inj e; omega), (heap_setCell_other w ⟨gr, i, none⟩ q _ (by show q ≠ gr; omega)).trans h.res⟩
theorem RqK.next {B g : Nat} {a : Option Addr} {n c : Nat} {w0 : World} {gr q : Nat} {vF : Value} {x : List Fld} {cs : Array Value} {w w' : World} (h : RqK B g a n c w0 gr q vF x cs w) (N : RqN B g a n w0 gr q) (hg : w.grownBy w' (some g)) (hs : Src w' g a n c) : RqK B g a n c w0 gr q vF x cs w' := by
 have n1 := N.lo
 have n2 := N.hq
 have n3 := N.hgr
 have n4 := N.top
 exact ⟨(hg.block gr (Array.getElem?_eq_some_iff.1 h.row).1 (fun e => by have := Option.some.inj e; omega)).trans h.row, h.own.grown hg (fun k hk e => by have := (h.own.lt hk).1; have := Option.some.inj e; omega), hs, grownBy_trans h.grown hg, (hg.block q (Array.getElem?_eq_some_iff.1 h.res).1 (fun e => by have := Option.some.inj e; omega)).trans h.res⟩
theorem Own.set {B g i : Nat} {w : World} {v u : Value} {l : List UInt8} (h : Own B w v l) (hg : g < B) : Own B (w.setCell ⟨g, i, none⟩ u) v l :=
 h.grown grownBy_setCell (fun k hk e => by have := (h.lt hk).1; have := Option.some.inj e; omega)
def RqFin (B g : Nat) (a : Option Addr) (n c : Nat) (w0 : World) (gr q : Nat) (m t : ByteArray) (w : World) : Prop :=
 ∃ z vF x fr vB l, (z = 0 ∨ z = 1) ∧ RqK B g a n c w0 gr q vF x #[.string m, .string t, .int .i64 z, vF, .bool fr, vB] w ∧ Own B w vB l ∧ RF3 x ∧ l.length ≤ 30 ∧ (fr = false → l = [])

set_option maxRecDepth 100000 in
set_option maxHeartbeats 4000000 in
theorem srcReq_any (g : Nat) (a : Option Addr) (n c : Nat) (w : World) (h : Src w g a n c) :
  Calls Tryz.prog 21 #[.pointer (some ⟨g, 0, none⟩)] w (ReqMade w g a n c) := by
 have H0 := Box.mk h
 have HLOW := Box.mk h.low
 have hlt := h.lt
 clear h
 go_enter Tryz.func21, Tryz.ntmps21
 go_wp2_with fail
 obtain ⟨W, hW⟩ : ∃ W, W = (w.alloc (.cells #[.string ⟨#[]⟩, .string ⟨#[]⟩, .int .i64 0, .slice none 0 0, .bool false, .slice none 0 0] 29)).alloc (.cells (methF.map Value.string).toArray 9) := ⟨_, rfl⟩
 have HBW := Box.mk (show Below w.heap.size w W by rw [hW]; exact below_twoF (below_oneF w _) _)
 have HQ := Box.mk (show RVar W w.heap.size ⟨#[]⟩ ⟨#[]⟩ 0 by rw [hW]; exact (show RVar (w.alloc _) _ _ _ _ from heap_alloc_new _ _).keep (below_oneF _ _))
 have HL := Box.mk (show StrsIn W (some ⟨w.heap.size + 1, 0, none⟩) methF by
  have h1 := strsIn_newF (w.alloc (.cells #[.string ⟨#[]⟩, .string ⟨#[]⟩, .int .i64 0, .slice none 0 0, .bool false, .slice none 0 0] 29)) methF 9
  rw [World.size_alloc] at h1
  rw [hW]; exact h1)
 have HS := Box.mk (H0.out.keep HBW.out)
 change Calls _ _ _ ((w.alloc (.cells #[.string ⟨#[]⟩, .string ⟨#[]⟩, .int .i64 0, .slice none 0 0, .bool false, .slice none 0 0] 29)).alloc (.cells (methF.map Value.string).toArray 9)) _
 rw [← hW]
 clear hW
 refine (of_n g (w.heap.size + 1) 5 methF 5 a n c W HS.out HL.out (by omega) rfl (by decide) (by decide)).mono ?_
 rintro e w1 ⟨m, hm, rfl, hsrc, hg1⟩
 have HNM := Box.mk hm
 have HS1 := Box.mk hsrc
 have HG1 := Box.mk (show w.grownBy w1 (some g) from grownBy_trans (grownBy_below HBW.out) hg1)
 have HQ1 := Box.mk (show RVar w1 w.heap.size ⟨#[]⟩ ⟨#[]⟩ 0 from (hg1.block _ (Array.getElem?_eq_some_iff.1 HQ.out).1 (fun e => by have := Option.some.inj e; omega)).trans HQ.out)
 clear hm hsrc hg1 HS HL HQ HBW H0
 go_wp2_with fail
 obtain ⟨W, hW⟩ : ∃ W, W = w1.alloc (.cells (targF.map Value.string).toArray 9) := ⟨_, rfl⟩
 have HBW := Box.mk (show Below w1.heap.size w1 W by rw [hW]; exact below_oneF w1 _)
 have HL := Box.mk (show StrsIn W (some ⟨w1.heap.size, 0, none⟩) targF by rw [hW]; exact strsIn_newF w1 targF 9)
 have HS2 := Box.mk (HS1.out.keep HBW.out)
 have hlt1 := HS1.out.lt
 change Calls _ _ _ (w1.alloc (.cells (targF.map Value.string).toArray 9)) _
 rw [← hW]
 clear hW
 refine (of_n g w1.heap.size 4 targF 4 a n c W HS2.out HL.out (by omega) rfl (by decide) (by decide)).mono ?_
 rintro e w2 ⟨t, ht, rfl, hsrc, hg2⟩
 have HTM := Box.mk ht
 have HS3 := Box.mk hsrc
 have HG3 := Box.mk (show w.grownBy w2 (some g) from grownBy_trans HG1.out (grownBy_trans (grownBy_below HBW.out) hg2))
 have HQ3 := Box.mk (show RVar w2 w.heap.size ⟨#[]⟩ ⟨#[]⟩ 0 from (hg2.block _ (Array.getElem?_eq_some_iff.1 (HQ1.out.keep HBW.out)).1 (fun e => by have := Option.some.inj e; omega)).trans (HQ1.out.keep HBW.out))
 clear ht hsrc hg2 HS2 HL HQ1 HBW HS1 HG1
 have hgr := HG3.out.size
 have hq2 : w.heap.size < w2.heap.size := (Array.getElem?_eq_some_iff.1 HQ3.out).1
 go_wp2_with fail
 have HN := Box.mk (show RqN (w2.heap.size + 1) g a n w w2.heap.size w.heap.size from ⟨hlt, HLOW.out, rfl, hq2, Nat.lt_succ_self _⟩)
 have HST := Box.mk (show RqSt (fun x => x = []) (w2.heap.size + 1) g a n c w w2.heap.size w.heap.size m t (w2.alloc (.cells #[.string m, .string t, .int .i64 1, .slice none 0 0, .bool false, .slice none 0 0] 29)) from
  ⟨1, _, [], .inr rfl, heap_alloc_new _ _, OwnF.start _ _, rfl, HS3.out.keep (below_oneF _ _), grownBy_trans HG3.out (grownBy_below (below_oneF _ _)), HQ3.out.keep (below_oneF _ _)⟩)
 obtain ⟨W, hW⟩ : ∃ W, W = w2.alloc (.cells #[.string m, .string t, .int .i64 1, .slice none 0 0, .bool false, .slice none 0 0] 29) := ⟨_, rfl⟩
 have hgs : w2.heap.size < W.heap.size := by rw [hW, World.size_alloc]; omega
 have hsW := Box.mk (show Src W g a n c by rw [hW]; exact HS3.out.keep (below_oneF _ _))
 change Calls _ _ _ (w2.alloc (.cells #[.string m, .string t, .int .i64 1, .slice none 0 0, .bool false, .slice none 0 0] 29)) _
 rw [← hW] at HST ⊢
 clear hW HS3 HG3 HQ3
 generalize hgr0 : w2.heap.size = gr at *
 clear hgr0 hgr
 generalize hq0 : w.heap.size = q at *
 have HQ0 := Box.mk hq0
 clear hq0
 refine (next_any g 6 a n c W hsW.out (by decide) (by decide)).mono ?_
 rintro e w3 ⟨k, hk, rfl, hsrc, hg3⟩
 have HST3 := Box.mk (HST.out.next HN.out hg3 hsrc)
 clear hsrc hg3 hsW HST
 go_upto_if 13 with fail
 go_cut [] (fun wx => Box (RqSt (fun x => x = []) (gr + 1) g a n c w gr q m t wx))
 case first =>
  obtain ⟨z, vF, x, h1, h2, h3, h5, h8, h9, h10⟩ := HST3.out
  have H2 := Box.mk h2
  have HA := Box.mk (And.intro h3 (And.intro h8 (And.intro h9 h10)))
  have hf := frozen_of_row w3 gr 2 _ _ h2
  have hc2 : w3.cell? ⟨gr, 2, none⟩ = some (.int .i64 z) := by rw [cell_of_row _ _ _ _ _ _ h2]; rfl
  subst h5
  clear h1 h2 h3 h8 h9 h10
  by_cases hk0 : k = 0
  · have e0 : (((k : Nat) : Int) == 0) = true := by rw [hk0]; rfl
    clear hk0
    go_wp2_with fail
    go_meet
    exact ⟨RqSt.put HN.out (.inl rfl) H2.out rfl HA.out.1 rfl HA.out.2.1 HA.out.2.2.1 HA.out.2.2.2⟩
  · have e0 : (((k : Nat) : Int) == 0) = false := by rw [beq_eq_false_iff_ne]; omega
    clear hk0
    go_wp2_with fail
    go_meet
    exact HST3
 case rest =>
  obtain ⟨z, vF, x, h1, h2, h3, h5, h8, h9, h10⟩ := hcut.out
  have hgc : gr < wc.heap.size := (Array.getElem?_eq_some_iff.1 h2).1
  have HA := Box.mk (And.intro h1 (And.intro h2 (And.intro h8 (And.intro h9 h10))))
  clear h1 h2 h3 h5 h8 h9 h10 HST3 hcut
  go_wp2_with fail
  refine (srcFieldsS_any g 3 a n c wc HA.out.2.2.1 (by decide)).mono ?_
  rintro e w4 ⟨v4, y, rfl, hy, hyl, hyf, hsrc, hg4⟩
  have HY := Box.mk (hy.mono (show gr + 1 ≤ wc.heap.size from hgc))
  have HRF := Box.mk (show RF1 (y ++ [hostF]) from ⟨y, hyf, hyl, rfl⟩)
  have HROW := Box.mk ((hg4.block gr hgc (fun e => by have := Option.some.inj e; omega)).trans HA.out.2.1)
  have HQ4 := Box.mk (show RVar w4 q ⟨#[]⟩ ⟨#[]⟩ 0 from (hg4.block q (by omega) (fun e => by have := Option.some.inj e; omega)).trans HA.out.2.2.2.2)
  have HS4 := Box.mk hsrc
  have HG4 := Box.mk (grownBy_trans HA.out.2.2.2.1 hg4)
  have hsz4 := hg4.size
  have HZ := Box.mk HA.out.1
  clear hy hyf hsrc hg4 HA
  go_wp2_with (at_builtin; refine wpList_append_ownf _ rfl _ _ rfl rfl (HY.out.keep (below_oneF w4 (.cells #[.string hostF.1, .string hostF.2] 88))) rfl (y := hostF) ?c1 ?c2 (by omega) (by simp; omega) ?c3)
  case c1 => simp [hostF]
  case c2 => simp [hostF]
  case c3 =>
   intro v5 w5 hown hgrow
   obtain ⟨X, hX⟩ : ∃ X, y ++ [hostF] = X := ⟨_, rfl⟩
   rw [hX] at hown HRF
   clear hX
   have hb4 := below_oneF w4 (.cells #[.string hostF.1, .string hostF.2] 88)
   have HST6 := Box.mk (RqSt.app (R' := RF1) HN.out HZ.out ((hb4.block gr (Nat.lt_of_lt_of_le hgc hsz4)).trans HROW.out) rfl (fun k hk => (HY.out.lt hk).1) hgrow hown HRF.out (HS4.out.keep hb4) (grownBy_trans HG4.out (grownBy_below hb4)) (HQ4.out.keep hb4))
   have hrow := (hgrow.block gr (by rw [World.size_alloc]; omega) (fun e => by have := (HY.out.lt e.symm).1; omega)).trans ((hb4.block gr (Nat.lt_of_lt_of_le hgc hsz4)).trans HROW.out)
   have hf := frozen_of_row w5 gr 3 _ _ hrow
   have hc3 : w5.cell? ⟨gr, 3, none⟩ = some vF := by rw [cell_of_row _ _ _ _ _ _ hrow]; rfl
   obtain ⟨sa, sc, hv5, _, _⟩ := hown.shape
   subst hv5
   clear hown hgrow hrow hb4 HY HRF HROW HQ4 HS4 HG4 HZ
   go_wp2_with fail
   have hgc6 : gr < (w5.setCell ⟨gr, 3, none⟩ (.slice sa X.length sc)).heap.size := by
    obtain ⟨_, _, _, _, h2, _⟩ := HST6.out
    exact (Array.getElem?_eq_some_iff.1 h2).1
   clear hf hc3
   generalize w5.setCell ⟨gr, 3, none⟩ (.slice sa X.length sc) = W6 at *
   refine (next_any g 2 a n c W6 HST6.out.src (by decide) (by decide)).mono ?_
   rintro e w7 ⟨k2, hk2, rfl, hsrc, hg7⟩
   have HST7 := Box.mk (HST6.out.next HN.out hg7 hsrc)
   clear hsrc hg7 HST6 hgc6
   go_upto_if 23 with fail
   go_cut [] (fun wx => Box (RqSt RF2 (gr + 1) g a n c w gr q m t wx))
   case first =>
    by_cases hk0 : k2 = 0
    · have e0 : (((k2 : Nat) : Int) == 0) = true := by rw [hk0]; rfl
      clear hk0
      obtain ⟨z, vF, x, h1, h2, h3, h5, h8, h9, h10⟩ := HST7.out
      have HZ := Box.mk h1
      have HJ := Box.mk (show RqJ g a n c w gr q m t z vF w7 from ⟨h2, h8, h9, h10⟩)
      have HF := Box.mk h3
      have HR := Box.mk h5
      have hx4 := h5.made.2
      clear h1 h2 h3 h5 h8 h9 h10 HST7
      go_wp2_with fail
      rename_i J hJ _
      have hgw : gr < w7.heap.size := (Array.getElem?_eq_some_iff.1 HJ.out.row).1
      refine wp_region_phases [3, 7, 9] (fun p => match p with | 0 => [0, 1, 2] | 1 => [0, 1, 4, 5, 6] | 2 => [8] | _ => [])
       (fun p => match p with
        | 0 => [.val (.pointer (some ⟨gr, 3, none⟩)), .val vF, .val (.pointer (some ⟨g, 0, none⟩)), .nope, .nope, .nope, .nope, .nope, .nope, .any]
        | 1 => [.val (.pointer (some ⟨gr, 3, none⟩)), .val vF, .any, .ids (fun s => .string s), .ids (fun s => .string (cohort ++ s)), .ids (fun s => .agg #[.string (cookF s).1, .string (cookF s).2]), .cooks, .nope, .nope, .any]
        | 2 => [.any, .any, .any, .any, .any, .any, .any, .capp (gr + 1) x, .val (.pointer (some ⟨gr, 3, none⟩)), .any]
        | _ => [.any, .any, .any, .any, .any, .any, .any, .any, .any, .any])
       (fun p => match p with
        | 0 => fun wx => RqJ g a n c w gr q m t z vF wx ∧ OwnF (gr + 1) wx vF x ∧ gr < wx.heap.size
        | 1 => fun wx => RqJ g a n c w gr q m t z vF wx ∧ OwnF (gr + 1) wx vF x ∧ gr < wx.heap.size
        | 2 => fun wx => RqJ g a n c w gr q m t z vF wx
        | _ => fun wx => RqSt RF2 (gr + 1) g a n c w gr q m t wx)
       (by kernel_rfl) (by kernel_rfl) (by kernel_rfl) (by kernel_rfl) (by kernel_rfl) (by kernel_rfl) ?_ ⟨HJ.out, HF.out, hgw⟩ ?_ ?_ ?_
      · intro p w1 w2 h hb
        match p, h with
        | 0, h => exact ⟨h.1.keep hb, h.2.1.keep hb, Nat.lt_of_lt_of_le h.2.2 hb.size⟩
        | 1, h => exact ⟨h.1.keep hb, h.2.1.keep hb, Nat.lt_of_lt_of_le h.2.2 hb.size⟩
        | 2, h => exact RqJ.keep h hb
        | (_ + 3), h => exact RqSt.keep h hb
      · intro p hp
        match p, hp with
        | 0, _ =>
         refine ⟨?_, ?_, ?_, trivial⟩ <;> intro a1 w1 hv hf hd
         · exact ⟨wanted_none rfl, loc_fieldR rfl (hf.base 3 rfl) (by decide) rfl⟩
         · exact ⟨wanted_none rfl, loc_cell rfl (hd 0 rfl) (by rw [cell_of_row _ _ _ _ _ _ hv.1.row]; rfl) (agg_fields _) rfl⟩
         · exact ⟨wanted_none rfl, loc_move rfl (hf.base 0 rfl)⟩
        | 1, _ =>
         refine ⟨?_, ?_, ?_, ?_, ?_, trivial⟩ <;> intro a1 w1 hv hf hd
         · exact ⟨wanted_none rfl, loc_fieldR rfl (hf.base 3 rfl) (by decide) rfl⟩
         · exact ⟨wanted_none rfl, loc_cell rfl (hd 0 rfl) (by rw [cell_of_row _ _ _ _ _ _ hv.1.row]; rfl) (agg_fields _) rfl⟩
         · obtain ⟨s, hs, e⟩ := hd 3 rfl
           exact ⟨wanted_none rfl, loc_addS (b := cohort) rfl rfl e (by rw [hs.1]; decide) ⟨s, hs, rfl⟩⟩
         · obtain ⟨s, hs, e⟩ := hd 4 rfl
           exact ⟨wanted_none rfl, loc_buildF (b := (cookF s).1) (c := (cookF s).2) rfl rfl e ⟨s, hs, rfl⟩⟩
         · obtain ⟨s, hs, e⟩ := hd 5 rfl
           exact ⟨wanted_none rfl, loc_slice1F (f := cookF s) rfl e fun w' h0 h1 => ⟨s, _, _, hs, rfl, h0, h1⟩⟩
        | 2, _ =>
         refine ⟨?_, trivial⟩
         intro a1 w1 hv hf hd
         exact ⟨wanted_none rfl, loc_fieldR rfl (hf.base 3 rfl) (by decide) rfl⟩
        | 3, _ => exact trivial
      · intro p hp
        match p, hp with
        | 0, _ =>
         intro a2 w2 hv hf hd
         refine ⟨wanted_none rfl, chain_call rfl (by kernel_rfl) ?_⟩
         show Calls _ _ #[a2.eval (.tmp 26)] w2 _
         rw [show a2.eval (.tmp 26) = .pointer (some ⟨g, 0, none⟩) from hd 2 rfl]
         refine (srcID_any g a n c w2 hv.1.src).mono ?_
         rintro e w' ⟨s, rfl, h16, hhex, hsrc, hg⟩
         exact ⟨_, rfl, _, rfl, ⟨hv.1.next HN.out hg hsrc, hv.2.1.grown hg (fun k hk e => by have := (hv.2.1.lt hk).1; have := Option.some.inj e; omega), Nat.lt_of_lt_of_le hv.2.2 hg.size⟩, ⟨s, ⟨h16, hhex⟩, rfl⟩,
          ⟨.inr fun _ _ h => h, .inr fun _ _ h => h, .inr fun _ _ _ => trivial, .inl rfl, .inr fun _ _ h => h.elim, .inr fun _ _ h => h.elim, .inr fun _ _ h => h.elim, .inr fun _ _ h => h.elim, .inr fun _ _ h => h.elim, .inr fun _ _ _ => trivial, trivial⟩⟩
        | 1, _ =>
         intro a2 w2 hv hf hd
         have e25 : a2.eval (.tmp 25) = vF := hd 1 rfl
         obtain ⟨s, b, cb, hs, e30, h0, h1⟩ := hd 6 rfl
         refine ⟨wanted_none rfl, wp_append_oneF rfl (by show OwnF (gr + 1) w2 (a2.eval (.tmp 25)) x; rw [e25]; exact hv.2.1) e30 h0 h1 (by omega) hv.2.2 fun v' w3 hown hgrow => ?_⟩
         rw [show a2.eval (.tmp 25) = vF from e25] at hgrow
         exact ⟨v', rfl, hv.1.app HN.out hgrow (fun k hk => (hv.2.1.lt hk).1), ⟨s, hs, hown⟩,
          ⟨.inr fun _ _ _ => trivial, .inr fun _ _ _ => trivial, .inr fun _ _ _ => trivial, .inr fun _ _ _ => trivial, .inr fun _ _ _ => trivial, .inr fun _ _ _ => trivial, .inr fun _ _ _ => trivial, .inl rfl, .inr fun _ _ h => h.elim, .inr fun _ _ _ => trivial, trivial⟩⟩
        | 2, _ =>
         intro a2 w2 hv hf hd
         obtain ⟨s, hs, hown⟩ := hd 7 rfl
         obtain ⟨sa, sc, e31, _, _⟩ := hown.shape
         have e32 : a2.eval (.tmp 32) = .pointer (some ⟨gr, 3, none⟩) := hd 8 rfl
         refine ⟨wanted_none rfl, wp_store_slice (u := vF) rfl e32 e31 (by kernel_rfl) (by rw [cell_of_row _ _ _ _ _ _ hv.row]; rfl) (frozen_of_row w2 gr 3 _ _ hv.row) ?_⟩
         rw [e31] at hown
         exact ⟨undef, rfl, RqSt.put HN.out HZ.out hv.row rfl hown (.inr ⟨x, s, HR.out, hs, rfl⟩) hv.src hv.grown hv.res, trivial,
          ⟨.inr fun _ _ _ => trivial, .inr fun _ _ _ => trivial, .inr fun _ _ _ => trivial, .inr fun _ _ _ => trivial, .inr fun _ _ _ => trivial, .inr fun _ _ _ => trivial, .inr fun _ _ _ => trivial, .inr fun _ _ _ => trivial, .inr fun _ _ _ => trivial, .inl rfl, trivial⟩⟩
      · intro a2 w2 hv hf hh
        clear hh
        rw [fr_putAll hf]
        clear hf
        simp only [putAll]
        generalize a2.eval (.tmp 24) = u24
        generalize a2.eval (.tmp 25) = u25
        generalize a2.eval (.tmp 26) = u26
        generalize a2.eval (.tmp 27) = u27
        generalize a2.eval (.tmp 28) = u28
        generalize a2.eval (.tmp 29) = u29
        generalize a2.eval (.tmp 30) = u30
        generalize a2.eval (.tmp 31) = u31
        generalize a2.eval (.tmp 32) = u32
        clear a2
        simp only [Act.put, List.setIfInBounds_toArray, List.set_cons_succ, List.set_cons_zero]
        refine hJ _ _ ?_
        go_meet
        exact ⟨hv⟩
    · have e0 : (((k2 : Nat) : Int) == 0) = false := by rw [beq_eq_false_iff_ne]; omega
      clear hk0
      go_wp2_with fail
      go_meet
      exact ⟨HST7.out.weaken fun _ h => .inl h⟩
   case rest =>
    have HSTC := Box.mk hcut.out
    clear hcut HST7
    go_wp2_with fail
    refine (next_any g 5 a n c wc HSTC.out.src (by decide) (by decide)).mono ?_
    rintro e w8 ⟨k3, hk3, rfl, hsrc, hg8⟩
    have HST8 := Box.mk (HSTC.out.next HN.out hg8 hsrc)
    clear hsrc hg8 HSTC
    go_upto_if 35 with fail
    go_cut [] (fun wx => Box (RqSt RF3 (gr + 1) g a n c w gr q m t wx))
    case first =>
     by_cases hk0 : k3 = 0
     · have e0 : (((k3 : Nat) : Int) == 0) = true := by rw [hk0]; rfl
       clear hk0
       obtain ⟨z, vF, x, h1, h2, h3, h5, h8, h9, h10⟩ := HST8.out
       have hgw : gr < w8.heap.size := (Array.getElem?_eq_some_iff.1 h2).1
       have hb8 := below_oneF w8 (.cells #[.string expF.1, .string expF.2] 88)
       have hc3 : w8.cell? ⟨gr, 3, none⟩ = some vF := by rw [cell_of_row _ _ _ _ _ _ h2]; rfl
       have HA := Box.mk (And.intro h1 (And.intro h2 (And.intro h3 (And.intro h5 (And.intro h8 (And.intro h9 h10))))))
       have HB8 := Box.mk hb8
       have hx5 := h5.made.2
       clear h1 h2 h3 h5 h8 h9 h10 hb8 HST8
       go_wp2_with (at_builtin; refine wpList_append_ownf _ rfl _ _ rfl rfl (HA.out.2.2.1.keep HB8.out) rfl (y := expF) ?d1 ?d2 (by omega) (by simp; omega) ?d3)
       case d1 => simp [expF]
       case d2 => simp [expF]
       case d3 =>
        intro v9 w9 hown hgrow
        obtain ⟨X9, hX⟩ : ∃ X9, x ++ [expF] = X9 := ⟨_, rfl⟩
        have HRF9 := Box.mk (show RF3 X9 by rw [← hX]; exact .inr ⟨x, HA.out.2.2.2.1, rfl⟩)
        rw [hX] at hown
        clear hX
        have HST9 := Box.mk (RqSt.app (R' := RF3) HN.out HA.out.1 ((HB8.out.block gr hgw).trans HA.out.2.1) rfl (fun k hk => (HA.out.2.2.1.lt hk).1) hgrow hown HRF9.out (HA.out.2.2.2.2.1.keep HB8.out) (grownBy_trans HA.out.2.2.2.2.2.1 (grownBy_below HB8.out)) (HA.out.2.2.2.2.2.2.keep HB8.out))
        have hrow := (hgrow.block gr (by rw [World.size_alloc]; omega) (fun e => by have := (HA.out.2.2.1.lt e.symm).1; omega)).trans ((HB8.out.block gr hgw).trans HA.out.2.1)
        have hf := frozen_of_row w9 gr 3 _ _ hrow
        have hc3 : w9.cell? ⟨gr, 3, none⟩ = some vF := by rw [cell_of_row _ _ _ _ _ _ hrow]; rfl
        obtain ⟨sa9, sc9, hv9, _, _⟩ := hown.shape
        subst hv9
        clear hown hgrow hrow HA HRF9
        go_wp2_with fail
        go_meet
        exact HST9
     · have e0 : (((k3 : Nat) : Int) == 0) = false := by rw [beq_eq_false_iff_ne]; omega
       clear hk0
       go_wp2_with fail
       go_meet
       exact ⟨HST8.out.weaken fun _ h => .inl h⟩
    case rest =>
     have HSTC := Box.mk hcut.out
     clear hcut HST8
     go_wp2_with fail
     refine (next_any g 4 a n c wc HSTC.out.src (by decide) (by decide)).mono ?_
     rintro e wa ⟨k4, hk4, rfl, hsrc, hga⟩
     obtain ⟨z, vF, x, h1, h2, h3, h5, h8, h9, h10⟩ := HSTC.out.next HN.out hga hsrc
     have HK := Box.mk (show RqK (gr + 1) g a n c w gr q vF x #[.string m, .string t, .int .i64 z, vF, .bool false, .slice none 0 0] wa from ⟨h2, h3, h8, h9, h10⟩)
     have HZ := Box.mk h1
     have HR := Box.mk h5
     have hf4 := frozen_of_row wa gr 4 _ _ h2
     have hf5 := frozen_of_row wa gr 5 _ _ h2
     clear h1 h2 h3 h5 h8 h9 h10 hsrc hga HSTC
     go_upto_block 0 with fail
     go_cut [] (fun wx => Box (RqFin (gr + 1) g a n c w gr q m t wx))
     case first =>
      have hc4 : wa.cell? ⟨gr, 4, none⟩ = some (.bool false) := by rw [cell_of_row _ _ _ _ _ _ HK.out.row]; rfl
      have hc5 : wa.cell? ⟨gr, 5, none⟩ = some (.slice none 0 0) := by rw [cell_of_row _ _ _ _ _ _ HK.out.row]; rfl
      have hc2 : wa.cell? ⟨gr, 2, none⟩ = some (.int .i64 z) := by rw [cell_of_row _ _ _ _ _ _ HK.out.row]; rfl
      by_cases hk0 : k4 = 0
      · have e0 : (((k4 : Nat) : Int) == 0) = true := by rw [hk0]; rfl
        clear hk0 hf4 hf5 hc4 hc5 hc2
        go_wp2_with fail
        refine (srcBytes_any g 30 a n c wa HK.out.src (by decide)).mono ?_
        rintro e wb ⟨vB, l, rfl, hB, hl, hsrc, hgb⟩
        have HKB := Box.mk (HK.out.next HN.out hgb hsrc)
        have HBB := Box.mk (hB.mono (show gr + 1 ≤ wa.heap.size from (Array.getElem?_eq_some_iff.1 HK.out.row).1))
        clear hB hsrc hgb HK
        obtain ⟨sB, cB, hvB, _⟩ := HBB.out.val
        subst hvB
        have hf4 := frozen_of_row wb gr 4 _ _ HKB.out.row
        have hf5 := frozen_of_row wb gr 5 _ _ HKB.out.row
        have hc4 : wb.cell? ⟨gr, 4, none⟩ = some (.bool false) := by rw [cell_of_row _ _ _ _ _ _ HKB.out.row]; rfl
        have hc5 : wb.cell? ⟨gr, 5, none⟩ = some (.slice none 0 0) := by rw [cell_of_row _ _ _ _ _ _ HKB.out.row]; rfl
        go_wp2_with fail
        go_meet
        exact ⟨⟨z, vF, x, true, _, l, HZ.out, (HKB.out.set HN.out 4 _).set HN.out 5 _, (HBB.out.set (Nat.lt_succ_self _)).set (Nat.lt_succ_self _), HR.out, hl, fun h => by cases h⟩⟩
      · have e0 : (((k4 : Nat) : Int) == 0) = false := by rw [beq_eq_false_iff_ne]; omega
        by_cases hk1 : k4 = 1
        · have e1 : (((k4 : Nat) : Int) == 1) = true := by rw [hk1]; rfl
          clear hk0 hk1
          rcases HZ.out with rfl | rfl
          · go_wp2_with fail
            go_meet
            exact ⟨⟨0, vF, x, false, _, [], .inl rfl, (HK.out.set HN.out 4 _).set HN.out 5 _, Own.start _ _, HR.out, by decide, fun _ => rfl⟩⟩
          · have HK5 := Box.mk ((HK.out.set HN.out 4 (.bool true)).set HN.out 5 (.slice none 0 0))
            go_wp2_with fail
            generalize (wa.setCell ⟨gr, 4, none⟩ (.bool true)).setCell ⟨gr, 5, none⟩ (.slice none 0 0) = wq at *
            refine (srcBytes_any g 30 a n c wq HK5.out.src (by decide)).mono ?_
            rintro e wb ⟨vB, l, rfl, hB, hl, hsrc, hgb⟩
            have HKB := Box.mk (HK5.out.next HN.out hgb hsrc)
            have HBB := Box.mk (hB.mono (show gr + 1 ≤ wq.heap.size from (Array.getElem?_eq_some_iff.1 HK5.out.row).1))
            clear hB hsrc hgb HK HK5 hf4 hf5 hc4 hc5 hc2
            obtain ⟨sB, cB, hvB, _⟩ := HBB.out.val
            subst hvB
            have hf5 := frozen_of_row wb gr 5 _ _ HKB.out.row
            have hc5 : wb.cell? ⟨gr, 5, none⟩ = some (.slice none 0 0) := by rw [cell_of_row _ _ _ _ _ _ HKB.out.row]; rfl
            go_wp2_with fail
            go_meet
            exact ⟨⟨1, vF, x, true, _, l, .inr rfl, HKB.out.set HN.out 5 _, HBB.out.set (Nat.lt_succ_self _), HR.out, hl, fun h => by cases h⟩⟩
        · have e1 : (((k4 : Nat) : Int) == 1) = false := by rw [beq_eq_false_iff_ne]; omega
          clear hk0 hk1
          go_wp2_with fail
          go_meet
          exact ⟨⟨z, vF, x, false, _, [], HZ.out, HK.out, Own.start _ _, HR.out, by decide, fun _ => rfl⟩⟩
     case rest =>
      obtain ⟨z, vF, x, fr, vB, l, h1, hk, hB, hR, hl, hfr⟩ := hcut.out
      obtain ⟨sF, cF, hvF, _, _⟩ := hk.own.shape
      obtain ⟨sB, cB, hvB, _⟩ := hB.val
      subst hvF hvB
      have hrow := hk.row
      have hres := hk.res
      have HK2 := Box.mk hk
      have HB2 := Box.mk (And.intro hB (And.intro hR (And.intro hl hfr)))
      have HZ2 := Box.mk h1
      clear hk hB hR hl hfr h1 hcut HK HZ HR
      go_wp2_with (first | (refine wpList_load_row rfl 29 _ rfl gr rfl 29 _ (0, 0) _ hrow Tryz.underlying29 rfl sizeR ?_) | (refine wpList_store_row rfl 29 _ _ rfl q #[.string m, .string t, .int .i64 z, .slice sF x.length cF, .bool fr, .slice sB l.length cB] rfl rfl 29 _ hres sizeR rfl (by simp [Value.oneCell']) ?_))
      (try simp only [Exit.inBlock, Exit.then])
      refine bodyPost_ret (results_cell_row rfl _ _ q _ _ _ _ rfl (setRow_heap _ _ _ _ _ _ hres) Tryz.underlying29 rfl sizeR) rfl ?_
      have hnew := grownBy_setRowF wc q #[.string m, .string t, .int .i64 z, .slice sF x.length cF, .bool fr, .slice sB l.length cB]
      have hq9 := HQ0.out
      have n3 := HN.out.hgr
      exact ⟨m, t, z, _, x, fr, _, l, rfl, HNM.out, HTM.out, HZ2.out, (HK2.out.own.grown hnew (fun k hk e => by have := (HK2.out.own.lt hk).1; have := Option.some.inj e; omega)).mono (by omega), (HB2.out.1.grown hnew (fun k hk e => by have := (HB2.out.1.lt hk).1; have := Option.some.inj e; omega)).mono (by omega),
       HB2.out.2.1, HB2.out.2.2.1, HB2.out.2.2.2, HK2.out.src.other hnew (by omega) (fun y e h0 => by have := HLOW.out y e h0; omega), grownBy_new HK2.out.grown hnew (fun i e => by have := Option.some.inj e; omega)⟩
end Go.Proofs.YteoadfckcilalaaGreatDoor
namespace Go.Proofs.YteoadfckcilalaaGreatDoor
open Go.RowKit

theorem Own.bytesL {B : Nat} {w : World} {v : Value} {l : List UInt8} (h : Own B w v l) : ∃ a c, v = .slice a l.length c ∧ IsBytes w a l c := h.val
section
variable (line : ByteArray) (b : Option Addr) (n cb : Nat) (at_ : Int) (c : UInt8) (wild : Int) (mm : Int) (w : World)
end
end Go.Proofs.YteoadfckcilalaaGreatDoor
namespace Go.Proofs.YteoadfckcilalaaGreatDoor
open Go.RowKit

theorem splitL_one (c : UInt8) : ∀ l : List UInt8, ¬ c ∈ l → splitL c l = [l]
 | [], _ => rfl
 | b :: t, h => by
  have hb : ¬ b = c := fun e => h (by rw [e]; exact List.mem_cons_self)
  have ih := splitL_one c t (fun e => h (List.mem_cons_of_mem _ e))
  rw [splitL, if_neg hb, ih]; rfl
theorem tok_blank {m : ByteArray} (h : tokS m = true) : ¬ (32 : UInt8) ∈ m.data.toList := fun e => by
 unfold tokS at h
 rw [Bool.and_eq_true] at h
 have := List.all_eq_true.1 h.1 32 e
 revert this; decide +kernel
theorem targ_blank {t : ByteArray} (h : targetS t = true) : ¬ (32 : UInt8) ∈ t.data.toList := fun e => by
 unfold targetS at h
 rw [Bool.and_eq_true] at h
 have := List.all_eq_true.1 h.1 32 e
 revert this; decide +kernel
theorem three_words (m t v : ByteArray) (hm : ¬ (32 : UInt8) ∈ m.data.toList) (ht : ¬ (32 : UInt8) ∈ t.data.toList) (hv : ¬ (32 : UInt8) ∈ v.data.toList) : splitS 32 (m ++ ⟨#[32]⟩ ++ t ++ ⟨#[32]⟩ ++ v) = [m, t, v] := by
 unfold splitS
 have e : (m ++ ⟨#[32]⟩ ++ t ++ ⟨#[32]⟩ ++ v).data.toList = m.data.toList ++ 32 :: (t.data.toList ++ 32 :: v.data.toList) := by
  rw [ba_app_list, ba_app_list, ba_app_list, ba_app_list]
  show m.data.toList ++ [32] ++ t.data.toList ++ [32] ++ v.data.toList = _
  simp
 rw [e, splitL_append, splitL_append, splitL_one 32 _ hm, splitL_one 32 _ ht, splitL_one 32 _ hv]
 simp only [List.map_append, List.map_cons, List.map_nil, ofL_of]
 rfl
theorem versionS_ok {z : Int} (hz : z = 0 ∨ z = 1) : verZ (versionS z) = (z, 0) ∧ ¬ (32 : UInt8) ∈ (versionS z).data.toList := by
 rcases hz with rfl | rfl
 · decide +kernel
 · decide +kernel
theorem twice_req {m t : ByteArray} {z : Int} (hm : tokS m = true) (ht : targetS t = true) (hz : z = 0 ∨ z = 1) : lineR (splitS 32 (fmtReq m t z)) = (some (m, t, z), 0) := by
 have h01 : 0 ≤ z ∧ z ≤ 1 := by omega
 have e : fmtReq m t z = m ++ ⟨#[32]⟩ ++ t ++ ⟨#[32]⟩ ++ versionS z := by
  unfold fmtReq; rw [if_pos ⟨hm, ht, h01⟩]
  have h := (versionS_dec h01.1 h01.2).1
  rw [ByteArray.append_assoc, ← h, ← ByteArray.append_assoc]
 obtain ⟨h1, h2⟩ := versionS_ok hz
 rw [e, three_words m t _ (tok_blank hm) (targ_blank ht) h2, lineR_ok hm ht (by rw [h1]), h1]
theorem and1 (n : Int) : ∃ z : Int, bits BinOp.and IntKind.i64 n 1 = z ∧ (z = 0 ∨ z = 1) := by
 have h2 : (BitVec.ofInt 64 (1 : Int)).toNat = 1 := by decide
 have h3 : (BitVec.ofInt 64 n).toNat &&& 1 ≤ 1 := Nat.and_le_right
 have e : bits BinOp.and IntKind.i64 n 1 = (((BitVec.ofInt 64 n).toNat &&& 1 : Nat) : Int) := by
  show IntKind.i64.wrap ((BitVec.ofInt 64 n &&& BitVec.ofInt 64 1).toNat : Int) = _
  rw [BitVec.toNat_and, h2, IntWalk.i64_in _ (by omega)]
 exact ⟨_, e, by omega⟩
end Go.Proofs.YteoadfckcilalaaGreatDoor
namespace Go.Proofs.YteoadfckcilalaaGreatDoor
open Go.RowKit

theorem lt_row {w : World} {g : Nat} {o : Obj} (h : w.heap[g]? = some o) : g < w.heap.size := (Array.getElem?_eq_some_iff.1 h).1

section
variable {act : Act} {w : World} {o : Oper} {K : Act → World → Prop} {Q : Exit → Act → World → Prop}
end

section
variable (m t : ByteArray) (z : Int) (fa ba : Option Addr) (fn fc bn bc : Nat) (fr : Bool) (st : Int) (r : ByteArray) (z2 : Int) (ga ha : Option Addr) (gn gc hn hc : Nat) (b : Option Addr) (n cb : Nat) (raw : Bool) (mm : Int) (w : World)
end
end Go.Proofs.YteoadfckcilalaaGreatDoor
namespace Go.Proofs.YteoadfckcilalaaGreatDoor
open Go.RowKit

theorem RVr.put {w : World} {g i : Nat} {cs : Array Value} {v : Value} (h : RVr w g cs) : RVr (w.setCell ⟨g, i, none⟩ v) g (cs.setIfInBounds i v) := heap_setCell_same w g i _ _ _ h
section
variable (B : Nat → Prop) (s : RS) (b : List UInt8) (most body : Int) (ba : Option Addr) (bc : Nat) (fa ga la : Option Addr) (fc gc lc : Nat) (w : World)
end
end Go.Proofs.YteoadfckcilalaaGreatDoor
namespace Go.Proofs.YteoadfckcilalaaGreatDoor
open Go.RowKit

def NoFz (n : Nat) (fz : Nat × Nat) : Prop := fz.2 = 0 ∨ n ≤ fz.1
theorem noFz_frozen {w : World} {g i : Nat} {cur : Array Value} {t : TypeId} {fz : Nat × Nat} (hg : w.heap[g]? = some (.cells cur t fz)) (hf : NoFz cur.size fz) (hi : i < cur.size) : w.frozen? ⟨g, i, none⟩ = false := by
 obtain ⟨lo, hi'⟩ := fz
 simp only [World.frozen?, hg, Bool.and_eq_false_iff, decide_eq_false_iff_not]
 rcases hf with h | h
 · right; simp only at h; omega
 · left; simp only at h; omega
theorem run_storeCells_atM (P : Program) (g o : Nat) (t : TypeId) (fz : Nat × Nat) : ∀ (vs : List Value) (i : Nat) (cur : Array Value) (w : World), w.heap[g]? = some (.cells cur t fz) → NoFz cur.size fz → o + i + vs.length ≤ cur.size → (∀ v ∈ vs, v.oneCell' = true) →
  (storeCells ⟨g, o, none⟩ vs i).run P w = .ok () (w.setRow g (cur.toList.take (o + i) ++ vs ++ cur.toList.drop (o + i + vs.length)).toArray)
 | [], i, cur, w, hg, _, _, _ => by
  simp only [storeCells, List.append_nil, List.length_nil, Nat.add_zero, List.take_append_drop, Array.toArray_toList]
  rw [setRow_self w g cur t fz hg]
  rfl
 | v :: rest, i, cur, w, hg, hfz, hl, h1 => by
  have hi : o + i < cur.size := by simp at hl; omega
  have hadd : (⟨g, o, none⟩ : Addr).add i = ⟨g, o + i, none⟩ := by unfold Addr.add; split <;> simp_all
  have hcell : w.cell? ⟨g, o + i, none⟩ = some cur[o + i] := by simp [World.cell?, hg, hi]
  have hfro : w.frozen? ⟨g, o + i, none⟩ = false := noFz_frozen hg hfz hi
  have hst : (store ((⟨g, o, none⟩ : Addr).add i) v).run P w = .ok () (w.setRow g (cur.setIfInBounds (o + i) v)) := by
   rw [hadd, run_store P w _ v _ (h1 v (by simp)), hcell]
   simp [hfro, setCell_eq_setRow w g (o + i) cur t fz v hg]
  have ih := run_storeCells_atM P g o t fz rest (i + 1) (cur.setIfInBounds (o + i) v) (w.setRow g (cur.setIfInBounds (o + i) v)) (setRow_heap w g cur _ t _ hg) (by rw [Array.size_setIfInBounds]; exact hfz) (by simp at hl ⊢; omega) (fun x hx => h1 x (by simp [hx]))
  simp only [storeCells, Sem.run_bind, hst, Result.andThen_ok, ih, setRow_setRow]
  congr 3
  have e := list_seg_step cur.toList (o + i) v rest (by simp at hl ⊢; omega)
  simpa [Array.toList_setIfInBounds, Nat.add_assoc] using e
def OwnM (B : Nat) (w : World) (v : Value) (l : List UInt8) : Prop :=
 ∃ g cap cur fz, v = .slice (some ⟨g, 0, none⟩) l.length cap ∧ B ≤ g ∧ w.heap[g]? = some (.cells cur 5 fz) ∧ NoFz cur.size fz ∧ l.length ≤ cap ∧ cap ≤ maxLen ∧ cur.size = cap ∧ cur.toList.take l.length = bytesV l
theorem OwnM.lt {B : Nat} {w : World} {v : Value} {l : List UInt8} (h : OwnM B w v l) {k : Nat} (hk : v.ownBlock = some k) : B ≤ k ∧ k < w.heap.size := by
 obtain ⟨g, cap, cur, fz, rfl, hb, hg, _⟩ := h
 obtain rfl : g = k := Option.some.inj hk
 exact ⟨hb, (Array.getElem?_eq_some_iff.1 hg).1⟩
theorem OwnM.same {B : Nat} {w w' : World} {v : Value} {l : List UInt8} (h : OwnM B w v l) (hs : ∀ k, v.ownBlock = some k → w'.heap[k]? = w.heap[k]?) : OwnM B w' v l := by
 obtain ⟨g, cap, cur, fz, hv, hb, hg, r⟩ := h
 exact ⟨g, cap, cur, fz, hv, hb, by rw [hs g (by rw [hv]; rfl)]; exact hg, r⟩
theorem OwnM.keep {B : Nat} {w w' : World} {v : Value} {l : List UInt8} (h : OwnM B w v l) (hb : Below w.heap.size w w') : OwnM B w' v l :=
 h.same fun k hk => hb.block k (h.lt hk).2
theorem OwnM.low {B B' : Nat} {w : World} {v : Value} {l : List UInt8} (h : OwnM B w v l) (hB : B' ≤ B) : OwnM B' w v l := by
 obtain ⟨g, cap, cur, fz, hv, hb, r⟩ := h
 exact ⟨g, cap, cur, fz, hv, Nat.le_trans hB hb, r⟩
theorem OwnM.form {B : Nat} {w : World} {v : Value} {l : List UInt8} (h : OwnM B w v l) : ∃ g c, v = .slice (some ⟨g, 0, none⟩) l.length c ∧ l.length ≤ c ∧ IsBytes w (some ⟨g, 0, none⟩) l c := by
 obtain ⟨g, cap, cur, fz, rfl, hb, hg, hf, h1, h2, h3, ht⟩ := h
 refine ⟨g, cap, rfl, h1, .inr ⟨_, rfl, h1, h2, fun j hj => ?_⟩⟩
 have e : cur.toList[j]? = some (Value.int .u8 (l[j].toNat : Int)) := by
  have := congrArg (fun x => x[j]?) ht
  simp only [bytesV] at this
  rw [List.getElem?_take_of_lt hj, List.getElem?_map, List.getElem?_eq_getElem hj] at this
  exact this
 rw [Addr.add_lit]
 simp only [World.cell?, hg, Nat.zero_add]
 simpa using e
theorem OwnM.thawed {B g c n : Nat} {w : World} {l : List UInt8} (h : OwnM B w (.slice (some ⟨g, 0, none⟩) n c) l) {k : Nat} (hk : k < l.length) : w.frozen? ⟨g, k, none⟩ = false := by
 obtain ⟨g', cap, cur, fz, hv, hb, hg, hf, h1, h2, h3, ht⟩ := h
 injection hv with e1 _ _
 injection e1 with e1
 injection e1 with e1 _ _
 subst e1
 exact noFz_frozen hg hf (by omega)
theorem OwnM.put8 {B g c n : Nat} {w : World} {l : List UInt8} (h : OwnM B w (.slice (some ⟨g, 0, none⟩) n c) l) (k : Nat) (x : UInt8) :
  OwnM B (w.setCell ⟨g, k, none⟩ (.int .u8 (x.toNat : Int))) (.slice (some ⟨g, 0, none⟩) n c) (l.set k x) ∧ w.grownBy (w.setCell ⟨g, k, none⟩ (.int .u8 (x.toNat : Int))) (some g) := by
 obtain ⟨g', cap, cur, fz, hv, hb, hg, hf, h1, h2, h3, ht⟩ := h
 injection hv with e1 e2 e3
 injection e1 with e1
 injection e1 with e1 _ _
 subst e1 e2 e3
 refine ⟨?_, grownBy_setCell⟩
 rw [setCell_eq_setRow w g k cur 5 fz _ hg]
 refine ⟨g, c, _, fz, by rw [List.length_set], hb, setRow_heap w g cur _ _ _ hg, by rw [Array.size_setIfInBounds]; exact hf, by rw [List.length_set]; exact h1, h2, by rw [Array.size_setIfInBounds]; exact h3, ?_⟩
 rw [List.length_set, Array.toList_setIfInBounds, List.take_set, ht]
 unfold bytesV; rw [List.map_set]
theorem OwnM.of_own {B : Nat} {w : World} {v : Value} {l : List UInt8} (h : Own B w v l) (hl : 0 < l.length) : OwnM B w v l := by
 obtain ⟨_, h2⟩ := h
 rcases h2 with ⟨_, h3⟩ | ⟨g, cap, cur, hv, hb, hg, hn, hm, hs, ht⟩
 · omega
 · exact ⟨g, cap, cur, (0, 0), hv, hb, hg, .inl rfl, hn, hm, by simpa using hs, by simpa using ht⟩
theorem OwnM.conv (w : World) (s : ByteArray) (hs : s.size ≤ 4000000000) : OwnM w.heap.size (Lib.bytesWorld w 5 s) (.slice (some ⟨w.heap.size, 0, none⟩) s.size (grownCap w s.size 0 5)) s.data.toList := by
 have hge := grownCap_ge w s.size 0 5
 have hz : (Lib.bytesCells w 5 s).size = grownCap w s.size 0 5 := by
  unfold Lib.bytesCells
  rw [Array.size_append, Array.size_map, Array.size_replicate]
  have : s.data.size = s.size := rfl
  omega
 have el : s.data.toList.length = s.size := by rw [Array.length_toList]; rfl
 refine ⟨w.heap.size, _, _, _, by rw [el], Nat.le_refl _, Lib.bytesWorld_at_new w 5 s, .inr (Nat.le_refl _), by rw [el]; exact hge, grownCap_le_maxLen w s.size 0 5 (by unfold maxLen; omega), hz, ?_⟩
 unfold Lib.bytesCells
 rw [Array.toList_append, el, List.take_left' (by rw [Array.length_toList, Array.size_map]; rfl), Array.toList_map]
 rfl
set_option maxRecDepth 100000 in
theorem ownM_string (w : World) (ty : TypeId) {B : Nat} {v : Value} {l : List UInt8} (h : OwnM B w v l) (s : ByteArray) (hn : l.length + s.size ≤ 1000000000) (hB : B ≤ w.heap.size) :
  ∃ v' w', (Builtin.append_ #[23, 9] ty #[v, .string s]).run Tryz.prog w = .ok v' w' ∧ OwnM B w' v' (l ++ s.data.toList) ∧ w.grownBy w' v.ownBlock ∧ (v'.ownBlock = v.ownBlock ∨ v'.ownBlock = some w.heap.size) := by
 obtain ⟨i0, hi, hz0, hz1, hz2⟩ := info_parts Tryz.info5
 obtain ⟨g, cap, cur, fz, rfl, hb, hg, hf, h1, h2, h3, ht⟩ := h
 have el : (l ++ s.data.toList).length = l.length + s.size := by rw [List.length_append, Array.length_toList]; rfl
 have ev : bytesV (l ++ s.data.toList) = bytesV l ++ Lib.strCells s := by unfold bytesV Lib.strCells; rw [List.map_append]
 have es := Lib.strCells_length s
 by_cases hroom : l.length + s.size ≤ cap
 · have hf1 := Lib.run_firstCells_string (P := Tryz.prog) w 1 s
   have hst := run_storeCells_atM Tryz.prog g l.length 5 fz (Lib.strCells s) 0 cur w hg hf (by rw [es]; omega) (Lib.strCells_oneCell s)
   simp only [Nat.add_zero, es] at hst
   have hr : (Builtin.append_ #[23, 9] ty #[.slice (some ⟨g, 0, none⟩) l.length cap, .string s]).run Tryz.prog w = .ok (.slice (some ⟨g, 0, none⟩) (l.length + s.size) cap) (w.setRow g (cur.toList.take l.length ++ Lib.strCells s ++ cur.toList.drop (l.length + s.size)).toArray) := by
    simp [Builtin.append_, run_underlying Tryz.underlying23, run_underlying Tryz.underlying9, sizeOf, typeInfo, hi, hz1, Builtin.lenOf, hroom, hf1, Addr.add_lit, hst]
   have hcz : ((cur.toList.take l.length ++ Lib.strCells s ++ cur.toList.drop (l.length + s.size)).toArray).size = cur.size := by
    simp only [List.size_toArray, List.length_append, List.length_take, List.length_drop, Array.length_toList, es]
    omega
   refine ⟨_, _, hr, ⟨g, cap, _, fz, by rw [el], hb, setRow_heap w g cur _ _ _ hg, by rw [hcz]; exact hf, by rw [el]; exact hroom, h2, by rw [hcz]; exact h3, ?_⟩, ⟨rfl, rfl, rfl, by simp, fun k _ hk => setRow_other w g k _ (fun e => hk (by simp [Value.ownBlock, e]))⟩, .inl rfl⟩
   rw [ht, ev, el]
   have e9 : l.length + s.size = (bytesV l ++ Lib.strCells s).length := by rw [List.length_append, es, bytesV_len]
   rw [e9]
   exact List.take_left
 · have holds : ∀ j u, (bytesV l)[j]? = some u → w.cell? ((⟨g, 0, none⟩ : Addr).add j) = some u := by
    intro j u hu
    rw [Addr.add_lit, Nat.zero_add, cell_of_row w g j cur _ _ hg]
    rw [← ht, List.getElem?_take] at hu
    split at hu
    · simpa using hu
    · cases hu
   have hr := Lib.run_append_grow_string (P := Tryz.prog) w 23 9 ty 5 i0 (.int .u8 0) Tryz.underlying23 Tryz.underlying9 hi hz0 ⟨g, 0, none⟩ l.length cap (bytesV l) (by rw [hz1, bytesV_len, Nat.mul_one]) holds s (by omega) (by omega) (by rw [hz2]; exact growslice_fits (by omega) (by omega))
   have hge := grownCap_ge w (l.length + s.size) cap 5
   have hcm : grownCap w (l.length + s.size) cap 5 ≤ maxLen := grownCap_le_maxLen w _ cap _ (by unfold maxLen; omega)
   refine ⟨_, _, hr, ⟨w.heap.size, _, _, (0, 0), by rw [el], hB, heap_alloc_new w.drew _, .inl rfl, by rw [el]; exact hge, hcm, ?_, ?_⟩, ⟨rfl, rfl, rfl, by simp, fun k hk _ => heap_alloc_old w.drew _ hk⟩, .inr rfl⟩
   · have hzz : (Value.int IntKind.u8 0).cells.size = 1 := rfl
     simp only [Array.size_append, List.size_toArray, size_zeroCells, hzz, bytesV_len, es]
     omega
   · simp only [Array.toList_append, List.append_assoc]
     rw [← List.append_assoc, ev, el]
     have e9 : l.length + s.size = (bytesV l ++ Lib.strCells s).length := by rw [List.length_append, es, bytesV_len]
     rw [e9]
     exact List.take_left
set_option maxRecDepth 100000 in
theorem ownM_slice (w : World) (ty : TypeId) {B : Nat} {v : Value} {l : List UInt8} (h : OwnM B w v l) {a : Option Addr} {r : List UInt8} {c : Nat} (hr : IsBytes w a r c) (hn : l.length + r.length ≤ 1000000000) (hB : B ≤ w.heap.size) :
  ∃ v' w', (Builtin.append_ #[23, 23] ty #[v, .slice a r.length c]).run Tryz.prog w = .ok v' w' ∧ OwnM B w' v' (l ++ r) ∧ w.grownBy w' v.ownBlock ∧ (v'.ownBlock = v.ownBlock ∨ v'.ownBlock = some w.heap.size) := by
 obtain ⟨i0, hi, hz0, hz1, hz2⟩ := info_parts Tryz.info5
 obtain ⟨g, cap, cur, fz, rfl, hb, hg, hf, h1, h2, h3, ht⟩ := h
 have el : (l ++ r).length = l.length + r.length := List.length_append
 have ev : bytesV (l ++ r) = bytesV l ++ bytesV r := by unfold bytesV; rw [List.map_append]
 rcases hr with ⟨rfl, rfl, rfl⟩ | ⟨ad, rfl, hr1, hr2, hr3⟩
 · refine ⟨.slice (some ⟨g, 0, none⟩) l.length cap, w, ?_, by rw [List.append_nil]; exact ⟨g, cap, cur, fz, rfl, hb, hg, hf, h1, h2, h3, ht⟩, ⟨rfl, rfl, rfl, Nat.le_refl _, fun _ _ _ => rfl⟩, .inl rfl⟩
   simp [Builtin.append_, run_underlying Tryz.underlying23, sizeOf, typeInfo, hi, Builtin.lenOf, Builtin.firstCells, loadCells, h1, storeCells]
 · have hnews : ∀ j u, (bytesV r)[j]? = some u → w.cell? (ad.add j) = some u := by
    intro j u hj
    unfold bytesV at hj
    rw [List.getElem?_map] at hj
    obtain ⟨c', hc', rfl⟩ := Option.map_eq_some_iff.1 hj
    obtain ⟨hlt, rfl⟩ := List.getElem?_eq_some_iff.1 hc'
    exact hr3 j hlt
   have hone : ∀ u ∈ bytesV r, u.oneCell' = true := by
    intro u hu
    unfold bytesV at hu
    obtain ⟨c', _, rfl⟩ := List.mem_map.1 hu
    rfl
   by_cases hroom : l.length + r.length ≤ cap
   · have hf1 := run_firstCells_some (P := Tryz.prog) w i0.size r.length ad r.length c (bytesV r) (by rw [hz1, bytesV_len, Nat.mul_one]) hnews
     have hst := run_storeCells_atM Tryz.prog g l.length 5 fz (bytesV r) 0 cur w hg hf (by rw [bytesV_len]; omega) hone
     simp only [Nat.add_zero, bytesV_len] at hst
     rw [hz1] at hf1
     have hr : (Builtin.append_ #[23, 23] ty #[.slice (some ⟨g, 0, none⟩) l.length cap, .slice (some ad) r.length c]).run Tryz.prog w = .ok (.slice (some ⟨g, 0, none⟩) (l.length + r.length) cap) (w.setRow g (cur.toList.take l.length ++ bytesV r ++ cur.toList.drop (l.length + r.length)).toArray) := by
      simp [Builtin.append_, run_underlying Tryz.underlying23, sizeOf, typeInfo, hi, hz1, Builtin.lenOf, hroom, hf1, Addr.add_lit, hst]
     have hcz : ((cur.toList.take l.length ++ bytesV r ++ cur.toList.drop (l.length + r.length)).toArray).size = cur.size := by
      simp only [List.size_toArray, List.length_append, List.length_take, List.length_drop, Array.length_toList, bytesV_len]
      omega
     refine ⟨_, _, hr, ⟨g, cap, _, fz, by rw [el], hb, setRow_heap w g cur _ _ _ hg, by rw [hcz]; exact hf, by rw [el]; exact hroom, h2, by rw [hcz]; exact h3, ?_⟩, ⟨rfl, rfl, rfl, by simp, fun k _ hk => setRow_other w g k _ (fun e => hk (by simp [Value.ownBlock, e]))⟩, .inl rfl⟩
     rw [ht, ev, el]
     have e9 : l.length + r.length = (bytesV l ++ bytesV r).length := by rw [List.length_append, bytesV_len, bytesV_len]
     rw [e9]
     exact List.take_left
   · have holds : ∀ j u, (bytesV l)[j]? = some u → w.cell? ((⟨g, 0, none⟩ : Addr).add j) = some u := by
      intro j u hu
      rw [Addr.add_lit, Nat.zero_add, cell_of_row w g j cur _ _ hg]
      rw [← ht, List.getElem?_take] at hu
      split at hu
      · simpa using hu
      · cases hu
     have hr := run_append_grow (P := Tryz.prog) w 23 ty 5 i0 (.int .u8 0) Tryz.underlying23 hi hz0 ⟨g, 0, none⟩ l.length cap (bytesV l) (by rw [hz1, bytesV_len, Nat.mul_one]) holds ad r.length c (bytesV r) (by rw [hz1, bytesV_len, Nat.mul_one]) hnews (by omega) (by omega) (by rw [hz2]; exact growslice_fits (by omega) (by omega))
     have hge := grownCap_ge w (l.length + r.length) cap 5
     have hcm : grownCap w (l.length + r.length) cap 5 ≤ maxLen := grownCap_le_maxLen w _ cap _ (by unfold maxLen; omega)
     refine ⟨_, _, hr, ⟨w.heap.size, _, _, (0, 0), by rw [el], hB, heap_alloc_new w.drew _, .inl rfl, by rw [el]; exact hge, hcm, ?_, ?_⟩, ⟨rfl, rfl, rfl, by simp, fun k hk _ => heap_alloc_old w.drew _ hk⟩, .inr rfl⟩
     · have hzz : (Value.int IntKind.u8 0).cells.size = 1 := rfl
       simp only [Array.size_append, List.size_toArray, size_zeroCells, hzz, bytesV_len]
       omega
     · simp only [Array.toList_append, List.append_assoc]
       rw [← List.append_assoc, ev, el]
       have e9 : l.length + r.length = (bytesV l ++ bytesV r).length := by rw [List.length_append, bytesV_len, bytesV_len]
       rw [e9]
       exact List.take_left
section
variable {ops : Array Oper} {rest : List Oper} {o : Oper} {act : Act} {Q : Exit → Act → World → Prop}
theorem wpList_append_mb (w : World) (hgd : o.guard = none) (s x : Operand) (ho : o.op = .call { callee := .builtin .append, args := #[s, x], argTypes := #[23, 23] })
  {B : Nat} {v : Value} {l : List UInt8} (hs : act.eval s = v) (h : OwnM B w v l) {a : Option Addr} {r : List UInt8} {c : Nat} (hx : act.eval x = .slice a r.length c) (hr : IsBytes w a r c) (hn : l.length + r.length ≤ 1000000000) (hB : B ≤ w.heap.size)
  (K : ∀ v' w', OwnM B w' v' (l ++ r) → w.grownBy w' v.ownBlock → (v'.ownBlock = v.ownBlock ∨ v'.ownBlock = some w.heap.size) → wpList Tryz.prog ops Q rest (act.put o.dst v') w') : wpList Tryz.prog ops Q (o :: rest) act w := by
 refine wpList_plain hgd fun K2 hK => ?_
 obtain ⟨v', w', hr', h2, h3, h4⟩ := ownM_slice w o.type h hr hn hB
 unfold Oper.wp execOp
 simp only [ho, resolve, invoke, builtin, Sem.run_bind, Sem.run_pure, Result.andThen_ok, List.map_toArray, List.map_cons, List.map_nil, hs, hx, hr']
 exact hK _ _ (K v' w' h2 h3 h4)
end
end Go.Proofs.YteoadfckcilalaaGreatDoor
namespace Go.Proofs.YteoadfckcilalaaGreatDoor
open Go.RowKit

theorem namesF_small : (namesF.all fun s => decide (s.size ≤ 20)) = true := by decide +kernel
theorem valsF_small : (valsF.all fun s => decide (s.size ≤ 40)) = true := by decide +kernel
def TinyX (x : List Fld) : Prop := ∀ f ∈ x, f.1.size + f.2.size ≤ 60
theorem SrcF.tiny {f : Fld} (h : SrcF f) : f.1.size + f.2.size ≤ 60 := by
 obtain ⟨s, hs, v, hv, rfl⟩ := h
 have h1 := of_decide_eq_true (List.all_eq_true.1 namesF_small s hs)
 have h2 := of_decide_eq_true (List.all_eq_true.1 valsF_small v hv)
 have h3 := trimBA_size v
 show s.size + (trimBA v).size ≤ 60
 omega
theorem tiny_app {x : List Fld} {f : Fld} (h : TinyX x) (hf : f.1.size + f.2.size ≤ 60) : TinyX (x ++ [f]) := fun k hk => by
 rcases List.mem_append.1 hk with h1 | h1
 · exact h k h1
 · obtain rfl := List.mem_singleton.1 h1; exact hf
theorem RF1.tiny {x : List Fld} (h : RF1 x) : TinyX x := by
 obtain ⟨y, h1, _, rfl⟩ := h
 exact tiny_app (fun f hf => (h1 f hf).tiny) (by decide)
theorem RF2.tiny {x : List Fld} (h : RF2 x) : TinyX x := by
 rcases h with h | ⟨y, s, h1, h2, rfl⟩
 · exact h.tiny
 · refine tiny_app h1.tiny ?_
   show (6 : Nat) + (cohort ++ s).size ≤ 60
   rw [ByteArray.size_append, h2.1]; decide
theorem RF3.tiny {x : List Fld} (h : RF3 x) : TinyX x := by
 rcases h with h | ⟨y, h1, rfl⟩
 · exact h.tiny
 · exact tiny_app h1.tiny (by decide)
theorem linesB_tiny : ∀ (x : List Fld), TinyX x → (linesB x).length ≤ 64 * x.length
 | [], _ => by simp [linesB]
 | f :: x, h => by
  have h1 := linesB_tiny x fun k hk => h k (List.mem_cons_of_mem _ hk)
  have h2 := h f (List.mem_cons_self ..)
  unfold linesB at *
  rw [List.flatMap_cons, List.length_append, lineB_len, List.length_cons]
  omega
theorem TinyX.small {x : List Fld} (h : TinyX x) : SmallF x := fun f hf => by
 have := h f hf
 omega
theorem fmtS10_one {z : Int} (h : z = 0 ∨ z = 1) : (fmtS 10 z).size ≤ 1 := by
 rcases h with rfl | rfl
 · decide +kernel
 · decide +kernel
theorem methF_tiny : (methF.all fun s => decide (s.size ≤ 4)) = true := by decide +kernel
theorem targF_tiny : (targF.all fun s => decide (s.size ≤ 8)) = true := by decide +kernel
theorem fmtReq_made {m t : ByteArray} {z : Int} (hm : m ∈ methF) (ht : t ∈ targF) (hz : z = 0 ∨ z = 1) : 0 < (fmtReq m t z).size ∧ (fmtReq m t z).size ≤ 40 := by
 have h1 := of_decide_eq_true (List.all_eq_true.1 methF_tiny m hm)
 have h2 := of_decide_eq_true (List.all_eq_true.1 targF_tiny t ht)
 have h3 := fmtS10_one hz
 have h4 := (meth_at hm).1
 have h5 := (targ_at ht).1
 unfold fmtReq
 rw [if_pos ⟨h4, h5, by omega, by omega⟩]
 simp only [ByteArray.size_append]
 have e1 : http1.size = 8 := rfl
 have e2 : (⟨#[32]⟩ : ByteArray).size = 1 := rfl
 omega
theorem below_convH (w : World) (e : TypeId) (s : ByteArray) : Below w.heap.size w (Lib.bytesWorld w e s) :=
 ⟨rfl, rfl, rfl, by rw [Lib.bytesWorld_size]; omega, fun k hk => Lib.bytesWorld_at_old w e s k hk⟩
theorem RetHd.own {w w' : World} {l : List UInt8} {e : Ending} (h : RetHd w l e w') (h0 : 0 < l.length) (h1 : l.length ≤ 4000000000) : ∃ v, e = .returned v ∧ OwnM w.heap.size w' v l ∧ Below w.heap.size w w' := by
 rcases h with ⟨rfl, _⟩ | ⟨W, s, rfl, _, rfl, rfl, hb⟩
 · simp at h0
 · refine ⟨_, rfl, (OwnM.conv W s ?_).low hb.size, below_trans hb (below_convH W _ s)⟩
   rw [Array.length_toList] at h1
   exact h1
def Spec.strsNew (B : Nat) (l : List ByteArray) : Spec := ⟨fun v w => ∃ b, v = .slice (some ⟨b, 0, none⟩) l.length l.length ∧ B ≤ b ∧ StrsIn w (some ⟨b, 0, none⟩) l, fun _ _ _ h hb => by
 obtain ⟨b, h1, h2, h3⟩ := h
 exact ⟨b, h1, h2, h3.keep hb⟩⟩
def Spec.strOf (l : List ByteArray) : Spec := ⟨fun v _ => ∃ s ∈ l, v = .string s, fun _ _ _ h _ => h⟩
section
variable {Q : Exit → Act → World → Prop} {act : Act} {w : World} {o : Oper} {s : Spec} {K : Act → World → Prop}
theorem loc_strsH {ps : Array (Nat × Operand)} {len : Nat} (l : List ByteArray) (hl : l.length = len) (ho : o.op = .buildSlice 71 len ps) (hps : ps.map (fun p => (p.1, act.eval p.2)) = (l.zipIdx.map fun p => (p.2, Value.string p.1)).toArray)
  (h0 : 0 < l.length) (h1 : l.length ≤ 1000) (hfill : Instr.fill (fun i => some (i * 1, 1)) ((Array.range (len * 1)).map ((Value.string ⟨#[]⟩).cells[· % (Value.string ⟨#[]⟩).cells.size]!)) (l.zipIdx.map fun p => (p.2, Value.string p.1)) = some (l.map Value.string).toArray)
  (hs : StrsIn (w.alloc (.cells (l.map Value.string).toArray 9)) (some ⟨w.heap.size, 0, none⟩) l → s.p (.slice (some ⟨w.heap.size, 0, none⟩) l.length l.length) (w.alloc (.cells (l.map Value.string).toArray 9))) :
  o.wp Tryz.prog act w (fun a' w' => ∃ v, a' = act.put o.dst v ∧ Below w.heap.size w w' ∧ s.p v w') Q := by
 subst hl
 obtain ⟨i0, hi, hz0, hz1, hz2⟩ := info_parts Tryz.info9
 have hrun := run_buildSlice (P := Tryz.prog) w 71 9 l.length (l.zipIdx.map fun p => (p.2, Value.string p.1)).toArray (l.map Value.string).toArray i0 _ Tryz.underlying71 hi hz0 (by rw [hz1]; omega) (by rw [hz1]; omega) (by rw [hz1]; exact hfill)
 refine loc_run (v := .slice (some ⟨w.heap.size, 0, none⟩) l.length l.length) (w' := w.alloc (.cells (l.map Value.string).toArray 9)) ?_ (below_oneF _ _) (hs (strsIn_newF w l _))
 unfold execOp
 simp only [ho]
 rw [hps, Sem.run_bind, hrun]; rfl
theorem sizeOf_u8H (w : World) : (sizeOf 5).run Tryz.prog w = .ok 1 w := by
 obtain ⟨i0, hi, hz0, hz1, hz2⟩ := info_parts Tryz.info5
 simp [sizeOf, typeInfo, hi, hz1]
theorem loc_uptoH {x y : Operand} (ho : o.op = .slice 23 x none (some y) none) {ad : Option Addr} {n c k : Nat} (hx : act.eval x = .slice ad n c) (hy : act.eval y = .int .i64 k) (hk : k ≤ n) (hc : n ≤ c) (hs : s.p (.slice ad k c) w) :
  o.wp Tryz.prog act w (fun a' w' => ∃ v, a' = act.put o.dst v ∧ Below w.heap.size w w' ∧ s.p v w') Q := by
 have es : (sizeOf (Tryz.prog.elem 23)).run Tryz.prog w = .ok 1 w := by rw [show Tryz.prog.elem 23 = 5 by kernel_rfl]; exact sizeOf_u8H w
 refine loc_run (v := .slice ad k c) ?_ (Below.refl _ _) hs
 have hrun : (Instr.sliceAt 23 (.slice ad n c) none (some (.int .i64 (k : Int))) none).run Tryz.prog w = .ok (.slice ad k c) w := by
  rw [run_sliceAt_slice w 23 _ _ _ _ (by kernel_rfl), run_slice_h w 23 _ _ _ (by kernel_rfl) .i64 (k : Int) (by omega) (by omega), es]
  have ha : Option.map (fun x : Addr => x.add 0) ad = ad := by cases ad <;> simp [Addr.add]
  simp [Result.andThen, sliced, ha]
 unfold execOp
 simp only [ho, hx, hy, Option.map_some, Option.map_none, Sem.run_bind, hrun, Result.andThen_ok, Sem.run_pure]
theorem wp_append_mstrH {x y : Operand} (ho : o.op = .call { callee := .builtin .append, args := #[x, y], argTypes := #[23, 9] }) {B : Nat} {l : List UInt8} (hx : OwnM B w (act.eval x) l) {t : ByteArray} (hy : act.eval y = .string t)
  (hn : l.length + t.size ≤ 1000000000) (hB : B ≤ w.heap.size)
  (h : ∀ v' w', OwnM B w' v' (l ++ t.data.toList) → w.grownBy w' (act.eval x).ownBlock → (v'.ownBlock = (act.eval x).ownBlock ∨ v'.ownBlock = some w.heap.size) → K (act.put o.dst v') w') : o.wp Tryz.prog act w K Q := by
 obtain ⟨v', w', hr, h2, h3, h4⟩ := ownM_string w o.type hx t hn hB
 unfold Oper.wp execOp
 simp only [ho, resolve, invoke, builtin, Sem.run_bind, Sem.run_pure, Result.andThen_ok, List.map_toArray, List.map_cons, List.map_nil, hy, hr]
 exact h v' w' h2 h3 h4
end
end Go.Proofs.YteoadfckcilalaaGreatDoor
namespace Go.Proofs.YteoadfckcilalaaGreatDoor
open Go.RowKit

theorem row_awayR {w : World} {g : Nat} {cs : Array Value} {T : TypeId} {fz : Nat × Nat} (h : w.heap[g]? = some (.cells cs T fz)) (hn : ∀ (i : Nat) (z : Int), cs[i]? ≠ some (.int .u8 z)) {a : Option Addr} {l : List UInt8} {c : Nat} (hb : IsBytes w a l c) : ∀ x, a = some x → l ≠ [] → x.block ≠ g := by
 intro x hx hl hg
 rcases hb with ⟨h1, _⟩ | ⟨y, h1, _, _, h4⟩
 · rw [h1] at hx; cases hx
 · rw [h1] at hx
   obtain rfl := Option.some.inj hx
   have h5 := h4 0 (List.length_pos_iff.2 hl)
   have h6 : w.heap[(y.add 0).block]? = some (.cells cs T fz) := by rw [add_blockC, hg]; exact h
   unfold World.cell? at h5
   rw [h6] at h5
   simp only at h5
   split at h5
   · cases h5
   · exact hn _ _ h5
theorem noU8_22 {cs : Array Value} (h : cs.toList.all (fun v => match v with | .int .u8 _ => false | _ => true) = true) : ∀ (i : Nat) (z : Int), cs[i]? ≠ some (.int .u8 z) := fun i z e => by
 have h1 := List.all_eq_true.1 h (.int .u8 z) (by
  have : cs.toList[i]? = some (.int .u8 z) := by rw [Array.getElem?_toList]; exact e
  exact List.mem_of_getElem? this)
 cases h1
set_option linter.unusedVariables false
section
variable (B : Nat → Prop) (s : RS) (b : List UInt8) (body room : Int) (ba : Option Addr) (bc : Nat) (fa ga la : Option Addr) (fc gc lc : Nat) (w : World)
end
end Go.Proofs.YteoadfckcilalaaGreatDoor
namespace Go.Proofs.YteoadfckcilalaaGreatDoor
open Go.RowKit

def isDstX (ops : Array Oper) (st k : Nat) : Bool := (List.range ops.size).any fun i => !decide (i = st) && ((ops[i]?).bind (·.dst) == some k)
structure FrX (ops : Array Oper) (st : Nat) (a0 a : Act) : Prop where
 defers : a.defers = a0.defers
 size : a.tmps.size = a0.tmps.size
 base : ∀ k, isDstX ops st k = false → a.eval (.tmp k) = a0.eval (.tmp k)
def StepX (P : Program) (Q : Exit → Act → World → Prop) (ops : Array Oper) (S : List Spec) (st : Nat) (a0 : Act) (w0 : World) (o : Oper) (s : Spec) : Prop :=
 ∀ a w, Below w0.heap.size w0 w → FrX ops st a0 a → (∀ j, waitsFor o j = true → Holds ops S a w j) →
  Region.wanted o (yielded ops a.tmps) = true ∧ o.wp P a w (fun a' w' => ∃ v, a' = a.put o.dst v ∧ Below w.heap.size w w' ∧ s.p v w') Q
def StepsX (P : Program) (Q : Exit → Act → World → Prop) (ops : Array Oper) (S : List Spec) (st : Nat) (a0 : Act) (w0 : World) : List Nat → Prop
 | i :: r => (match ops[i]?, S[i]? with | some o, some s => StepX P Q ops S st a0 w0 o s | _, _ => False) ∧ StepsX P Q ops S st a0 w0 r
 | [] => True
def TailX (P : Program) (Q : Exit → Act → World → Prop) (ops : Array Oper) (S : List Spec) (st : Nat) (a0 : Act) (w0 : World) : Prop :=
 match ops[st]? with
 | some o => ∀ a w, Below w0.heap.size w0 w → FrX ops st a0 a → (∀ j, j < ops.size → j ≠ st → Holds ops S a w j) → Region.wanted o (yielded ops a.tmps) = true ∧ o.wp P a w (fun a' w' => Q .normal a' w') Q
 | none => False
section
variable {P : Program} {Q : Exit → Act → World → Prop} {ops : Array Oper} {S : List Spec} {a0 : Act} {w0 : World} {st : Nat}
theorem stepsX_at : ∀ {l : List Nat}, StepsX P Q ops S st a0 w0 l → ∀ i, i ∈ l → ∀ o, ops[i]? = some o → ∃ s, S[i]? = some s ∧ StepX P Q ops S st a0 w0 o s
 | i :: r, h, j, hj, o, ho => by
  rcases List.mem_cons.1 hj with rfl | hj
  · have h1 := h.1
    rw [ho] at h1
    cases hs : S[j]? with
    | none => rw [hs] at h1; exact h1.elim
    | some s => rw [hs] at h1; exact ⟨s, rfl, h1⟩
  · exact stepsX_at h.2 j hj o ho
theorem frX_put {a : Act} {o : Oper} {i : Nat} (ho : ops[i]? = some o) (hi : i ≠ st) (hf : FrX ops st a0 a) (v : Value) : FrX ops st a0 (a.put o.dst v) := by
 refine ⟨?_, ?_, fun k hk => ?_⟩
 · have := hf.defers
   cases o.dst <;> simpa [Act.put] using this
 · have := hf.size
   cases o.dst <;> simpa [Act.put] using this
 · rw [eval_put_other, hf.base k hk]
   intro hk2
   have : isDstX ops st k = true := by
    unfold isDstX
    exact List.any_eq_true.2 ⟨i, List.mem_range.2 (Array.getElem?_eq_some_iff.1 ho).1, by rw [ho]; simp [hi, hk2]⟩
   rw [hk] at this; cases this
theorem wp_region_tail {id : Nat} (S : List Spec) (st : Nat) (others : List Nat) (hm : P.follows .mixedOrders = true)
  (hB : (List.range ops.size).all (fun i => match ops[i]? with | some x => x.after.all (fun e => !Region.binds .any e || decide (e.on < i)) | none => true) = true)
  (hd : dstsOk ops a0.tmps.size = true) (hl : lateB ops st [] = true) (hstlt : decide (st < ops.size) = true) (hoth : (List.range ops.size).all (fun i => decide (i = st) || others.contains i) = true)
  (h : StepsX P Q ops S st a0 w0 others) (hS : TailX P Q ops S st a0 w0) : (Code.region id ops true).wp P Q a0 w0 := by
 have hstlt := of_decide_eq_true hstlt
 have hosto : ops[st]? = some ops[st] := Array.getElem?_eq_getElem hstlt
 unfold TailX at hS
 rw [hosto] at hS
 simp only at hS
 have hwait : ∀ i, i < ops.size → i ≠ st → waitsFor ops[st] i = true := fun i hi hne => by
  have := List.all_eq_true.1 hl i (List.mem_range.2 hi)
  rw [hosto] at this
  simp only [Bool.or_eq_true, decide_eq_true_eq, List.contains_nil, Bool.false_eq_true, or_false] at this
  rcases this with h3 | h3
  · exact absurd h3 hne
  · exact h3
 refine wp_region_inv hm (fun m a w => (m.getD st false = false ∧ FrX ops st a0 a ∧ Below w0.heap.size w0 w ∧ ∀ j, m.getD j false = true → Holds ops S a w j) ∨
  (m.getD st false = true ∧ Q .normal a w ∧ ∀ j, waitsFor ops[st] j = true → m.getD j false = true)) ?_ ?_ ?_
 · rintro m a w hs hh i hi
   obtain ⟨h1, o, ho, hall⟩ := mem_ready.1 hi
   have hil : i < ops.size := (Array.getElem?_eq_some_iff.1 ho).1
   have hmi : m.getD i false = false := by
    have hs' : i < m.size := by rw [hs]; exact hil
    simp [hs'] at h1 ⊢; exact h1
   have hdeps : ∀ j, waitsFor o j = true → m.getD j false = true := fun j hj => by
    obtain ⟨e, he, h2⟩ := List.any_eq_true.1 hj
    simp only [Bool.and_eq_true, beq_iff_eq] at h2
    obtain ⟨h3, rfl⟩ := h2
    exact hall e (Array.mem_toList_iff.1 he) h3
   unfold wpOp
   simp only [ho]
   by_cases hist : i = st
   · subst hist
     have hoe : o = ops[i] := Option.some.inj (ho.symm.trans hosto)
     subst hoe
     rcases hh with ⟨_, hf, hb, hh⟩ | ⟨h2, _⟩
     · obtain ⟨hw, hwp⟩ := hS a w hb hf fun j hj hne => hh j (hdeps j (hwait j hj hne))
       rw [if_pos hw]
       refine .inl (Oper.wp_mono ?_ hwp)
       intro a' w' hq
       have hsz : i < m.size := by rw [hs]; exact hil
       exact .inr ⟨by simp [hsz], hq, fun j hj => getD_set_true (hdeps j hj)⟩
     · rw [hmi] at h2; cases h2
   · have hmem : i ∈ others := by
      have := List.all_eq_true.1 hoth i (List.mem_range.2 hil)
      simp only [Bool.or_eq_true, decide_eq_true_eq, List.contains_iff_mem] at this
      rcases this with h | h
      · exact absurd h hist
      · exact h
     rcases hh with ⟨h2, hf, hb, hh⟩ | ⟨h2, hp, hall2⟩
     · obtain ⟨s, hsi, hstep⟩ := stepsX_at h i hmem o ho
       obtain ⟨hw, hwp⟩ := hstep a w hb hf fun j hj => hh j (hdeps j hj)
       rw [if_pos hw]
       refine .inl (Oper.wp_mono ?_ hwp)
       rintro a' w' ⟨v, rfl, hb', hsp⟩
       refine .inl ⟨by rw [getD_set_ne false hist]; exact h2, frX_put ho hist hf v, hb.trans (hb'.mono hb.size), fun j hj => ?_⟩
       by_cases hji : j = i
       · subst hji
         unfold Holds
         simp only [ho, hsi]
         cases hdo : o.dst with
         | none => trivial
         | some d =>
          show s.p ((a.put (some d) v).eval (.tmp d)) w'
          rw [eval_put_same]
          · exact hsp
          · rw [hf.size]; exact (dsts_lt hd ho hdo).1
       · have hj' : m.getD j false = true := by rw [getD_set_ne false (fun e => hji e.symm)] at hj; exact hj
         exact holds_put hd ho hji (holds_mono (hh j hj') hb')
     · have := hall2 i (hwait i hil hist)
       rw [hmi] at this; cases this
 · rintro m a w hs hh hr
   have hmarked : ∀ j, j < ops.size → m.getD j false = true := fun j => by
    induction j using Nat.strongRecOn with
    | _ j ih =>
     intro hj
     cases hmj : m.getD j false with
     | true => rfl
     | false =>
      exfalso
      have hoj : ops[j]? = some ops[j] := Array.getElem?_eq_getElem hj
      have hbk := List.all_eq_true.1 hB j (List.mem_range.2 hj)
      rw [hoj] at hbk
      simp only [Array.all_eq_true_iff_forall_mem, Bool.or_eq_true, Bool.not_eq_true', decide_eq_true_eq] at hbk
      have hlt : ∀ e ∈ ops[j].after, Region.binds .any e = true → e.on < j := fun e he hbd => by
       rcases hbk e he with h | h
       · rw [hbd] at h; cases h
       · exact h
      have : j ∈ Region.ready .any ops m := mem_ready.2 ⟨by
       have hs' : j < m.size := by rw [hs]; exact hj
       simp [hs'] at hmj ⊢; exact hmj, ops[j], hoj, fun e he hbd => ih _ (hlt e he hbd) (by have := hlt e he hbd; omega)⟩
      rw [hr] at this; cases this
   rcases hh with ⟨h2, _⟩ | ⟨_, hp, _⟩
   · rw [hmarked st hstlt] at h2; cases h2
   · exact hp
 · refine .inl ⟨?_, ⟨rfl, rfl, fun _ _ => rfl⟩, (Below.refl _ _).drew, fun j hj => ?_⟩
   · simp only [Array.getD_eq_getD_getElem?, Array.getElem?_replicate]; split <;> rfl
   · exfalso
     simp only [Array.getD_eq_getD_getElem?, Array.getElem?_replicate] at hj
     split at hj <;> simp at hj
theorem frX_putAll {a : Act} (l : List Oper) (hl : ∀ k, isDstX ops st k = true → (l.any fun o => o.dst == some k) = true) (h : FrX ops st a0 a) : a = putAll a l a0 := by
 have h1 := putAll_size a l a0
 have h2 := putAll_defers a l a0
 have h3 : ∀ k, (putAll a l a0).eval (.tmp k) = a.eval (.tmp k) := fun k => putAll_eval a k _ _ h.size.symm (by
  cases hk : isDstX ops st k with
  | true => exact .inr (hl k hk)
  | false => exact .inl (h.base k hk).symm)
 generalize putAll a l a0 = p at *
 rw [act_eq (a := a) (a0 := a0) h.size h.defers, act_eq (a := p) (a0 := a0) h1 h2]
 congr 2
 exact List.map_congr_left fun k _ => (h3 k).symm
theorem isDstX_take {n : Nat} (hst : st = n) (hsz : ops.size = n + 1) : ∀ k, isDstX ops st k = true → ((ops.toList.take n).any fun o => o.dst == some k) = true := fun k hk => by
 unfold isDstX at hk
 obtain ⟨i, hi, h⟩ := List.any_eq_true.1 hk
 simp only [Bool.and_eq_true, Bool.not_eq_true', decide_eq_false_iff_not, beq_iff_eq] at h
 have hil := List.mem_range.1 hi
 have hin : i < n := by omega
 have ho : ops[i]? = some ops[i] := Array.getElem?_eq_getElem hil
 rw [ho] at h
 refine List.any_eq_true.2 ⟨ops[i], ?_, by simpa using h.2⟩
 have : (ops.toList.take n)[i]? = some ops[i] := by rw [List.getElem?_take_of_lt hin]; simp
 exact List.mem_of_getElem? this
theorem tail_assign {a : Act} {w : World} {o : Oper} {x : Operand} (hg : o.guard = none) (ho : o.op = .assign x) (h : Q .normal (a.put o.dst (a.eval x)) w) :
  Region.wanted o (yielded ops a.tmps) = true ∧ o.wp P a w (fun a' w' => Q .normal a' w') Q := by
 refine ⟨wanted_none hg, ?_⟩
 unfold Oper.wp
 rw [show (execOp a.eval o).run P w = .ok (.value (a.eval x)) w by unfold execOp; rw [ho]; rfl]
 exact h
end
end Go.Proofs.YteoadfckcilalaaGreatDoor
namespace Go.Proofs.YteoadfckcilalaaGreatDoor
open Go.ChangeShapes Go.WideShapes Go.ChangeAt Go.RowKit

def SlcIn (w : World) (a : Option Addr) (ls : List (List UInt8)) : Prop :=
 ∀ j (hj : j < ls.length), ∃ x ba bc, a = some x ∧ w.cell? (x.add j) = some (.slice ba ls[j].length bc) ∧ IsBytes w ba ls[j] bc
theorem SlcIn.keep {w w' : World} {a : Option Addr} {ls : List (List UInt8)} (h : SlcIn w a ls) (hb : Below w.heap.size w w') : SlcIn w' a ls := fun j hj => by
 obtain ⟨x, ba, bc, h1, h2, h3⟩ := h j hj
 exact ⟨x, ba, bc, h1, below_cell hb h2, h3.keep hb⟩
theorem alloc_cell_new (w : World) (cs : Array Value) (t : TypeId) (fr : Nat × Nat) (j : Nat) : (w.alloc (.cells cs t fr)).cell? ⟨w.heap.size, j, none⟩ = cs[j]? :=
 cell_of_row _ _ _ _ _ _ (heap_alloc_new w (.cells cs t fr))
theorem below_one (w : World) (o : Obj) : Below w.heap.size w (w.alloc o) := (Below.refl _ _).alloc (Nat.le_refl _) _
theorem slcIn_build1 {w : World} {a : Option Addr} {l : List UInt8} {c : Nat} (h : IsBytes w a l c) (t : TypeId) (fr : Nat × Nat) :
  SlcIn (w.alloc (.cells #[.slice a l.length c] t fr)) (some ⟨w.heap.size, 0, none⟩) [l] := fun j hj => by
 obtain rfl : j = 0 := by simpa using hj
 refine ⟨_, a, c, rfl, ?_, h.keep (below_one _ _)⟩
 rw [Addr.add_lit, Nat.zero_add, alloc_cell_new]; rfl
theorem slcIn_build2 {w : World} {a b : Option Addr} {l k : List UInt8} {c d : Nat} (h : IsBytes w a l c) (h2 : IsBytes w b k d) (t : TypeId) (fr : Nat × Nat) :
  SlcIn (w.alloc (.cells #[.slice a l.length c, .slice b k.length d] t fr)) (some ⟨w.heap.size, 0, none⟩) [l, k] := fun j hj => by
 have hj' : j < 2 := by simpa using hj
 match j, hj' with
 | 0, _ =>
  refine ⟨_, a, c, rfl, ?_, h.keep (below_one _ _)⟩
  rw [Addr.add_lit, Nat.zero_add, alloc_cell_new]; rfl
 | 1, _ =>
  refine ⟨_, b, d, rfl, ?_, h2.keep (below_one _ _)⟩
  rw [Addr.add_lit, Nat.zero_add, alloc_cell_new]; rfl
def SlcV (w : World) (v : Value) (ls : List (List UInt8)) : Prop := ∃ a c, v = .slice a ls.length c ∧ SlcIn w a ls
theorem SlcV.keep {w w' : World} {v : Value} {ls : List (List UInt8)} (h : SlcV w v ls) (hb : Below w.heap.size w w') : SlcV w' v ls := by
 obtain ⟨a, c, h1, h2⟩ := h
 exact ⟨a, c, h1, h2.keep hb⟩
def Spec.slc (ls : List (List UInt8)) : Spec := ⟨fun v w => SlcV w v ls, fun _ _ _ h hb => h.keep hb⟩

section
variable {Q : Exit → Act → World → Prop} {a : Act} {w : World} {o : Oper} {s : Spec}
theorem Tryz.info23 : (Tryz.prog.info? 23).map (fun i => (i.zero, i.size, i.bytes)) = some (some (.slice none 0 0), 1, 24) := by kernel_rfl
theorem run_build_slices (W : World) (a b : Option Addr) (n m c d : Nat) :
  (Instr.buildSlice 95 2 #[(0, .slice a n c), (1, .slice b m d)]).run Tryz.prog W = .ok (.slice (some ⟨W.heap.size, 0, none⟩) 2 2) (W.alloc (.cells #[.slice a n c, .slice b m d] 23)) := by
 obtain ⟨i0, hi, hz0, hz1, hz2⟩ := info_parts Tryz.info23
 exact run_buildSlice W 95 23 2 _ _ i0 _ Tryz.underlying95 hi hz0 (by rw [hz1]; decide) (by rw [hz1]; decide) (by rw [hz1]; simp [Instr.fill, Value.cells, Array.range_succ, show Array.range 0 = #[] from rfl])
theorem loc_slices2 {x y : Operand} (ho : o.op = .buildSlice 95 2 #[(0, x), (1, y)]) {l k : List UInt8} (hx : BytesV w (a.eval x) l) (hy : BytesV w (a.eval y) k) (hs : ∀ v w', SlcV w' v [l, k] → s.p v w') :
  o.wp Tryz.prog a w (fun a' w' => ∃ v, a' = a.put o.dst v ∧ Below w.heap.size w w' ∧ s.p v w') Q := by
 obtain ⟨xa, xc, hx1, hx2⟩ := hx
 obtain ⟨ya, yc, hy1, hy2⟩ := hy
 have hrun := run_build_slices w xa ya l.length k.length xc yc
 refine loc_run (v := .slice (some ⟨w.heap.size, 0, none⟩) 2 2) (w' := w.alloc (.cells #[.slice xa l.length xc, .slice ya k.length yc] 23)) ?_ (below_one _ _) (hs _ _ ⟨_, 2, rfl, slcIn_build2 hx2 hy2 _ _⟩)
 unfold execOp
 simp only [ho, List.map_toArray, List.map_cons, List.map_nil, hx1, hy1]
 rw [Sem.run_bind, hrun]; rfl
end

end Go.Proofs.YteoadfckcilalaaGreatDoor
