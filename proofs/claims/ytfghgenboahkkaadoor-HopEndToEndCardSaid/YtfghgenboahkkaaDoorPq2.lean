/- slices.Concat, With of package field and of its reference, SameFields. Format, by the library's Builder and in the reference. The source of numbers of the laws: Within, Next, Of. The fields that the laws make: Field, Fields, fields, name. Fields of the source; fields and name of the laws. fields, name and awake of the laws; Short. awake of the laws; the law FieldFormat. The law FieldValues. The plain mathematics of numerals: digits, their value with a limit, and that a numeral is read as its number. The contract of the law AsciiList. Frames of messages: what is said of them; the reference's frame, OfRequest, OfReply, Persistent. OfRequest, OfReply and Persistent of package framing, and what they call. Contracts of the reference's functions that write a number. Contracts of strconv.FormatInt at base 16, and of the functions of package number that write a number. What package hop does to fields: mathematics. The names that go, and Strip, in the project and in the reference. Joined strings, by the library and in the reference. One field with one element more: the project's extend, the reference's list, Via of both. Copies of slices of bytes. The law FieldWithout. Opening the arguments of the laws on fields. FormatRequestLine of the reference. A slice of bytes of the call's own, beside other memory: what an append leaves alone. FormatStatusLine of the reference. ParseStatusLine of the reference. The request line, parsed: package startline and the reference. The request that the source makes: what is said of it. Queues: New, Valid, Room; the reference's. Forward, in the project. Backward, in the project, for a reply with the status 200 to GET. -/
import Derived.Test.YtfghgenboahkkaaDoorPq1
import Derived.Lib.AppendStr
import Derived.Laws.CopyOwn
import Derived.OwnWalk
import Derived.Laws.Strings3
import Derived.Laws.Concat
import Derived.Lib.ItoaMem
import Derived.Deep.RegionHeld3
import Derived.IntWalk
import Derived.Sort.Grow
import Derived.Lib.LaidTab
import Derived.LaidSub
import Derived.Shelf.Strings.OnBuilder
import Derived.Lib.LazyBuf
import Derived.Laws.RangeAny
import Derived.LoopTactic
import Derived.Laws.Bits64b
import Derived.Deep.DeepCutAuto
import Derived.Deep.Matrix
import Derived.Laws.Tables
namespace Go.Proofs.YtfghgenboahkkaaDoor
open Go.RowKit
def TwoF (w : World) (p : Nat) (l r : List Fld) : Prop :=
 ∃ a ca b cb, w.cell? ⟨p, 0, none⟩ = some (.slice a l.length ca) ∧ w.cell? ⟨p, 1, none⟩ = some (.slice b r.length cb) ∧ FldsC w a l ca ∧ FldsC w b r cb
theorem TwoF.keep {w w' : World} {p : Nat} {l r : List Fld} (h : TwoF w p l r) (hb : Below w.heap.size w w') : TwoF w' p l r := by
 obtain ⟨a, ca, b, cb, h1, h2, h3, h4⟩ := h
 exact ⟨a, ca, b, cb, below_cell hb h1, below_cell hb h2, h3.keep hb, h4.keep hb⟩
def nthF (l r : List Fld) (k : Nat) : List Fld := if k = 0 then l else r
def sumF (l r : List Fld) (k : Nat) : Nat := if k = 0 then 0 else if k = 1 then l.length else l.length + r.length
def joinF (l r : List Fld) (k : Nat) : List Fld := if k = 0 then [] else if k = 1 then l else l ++ r
theorem TwoF.at {w : World} {p : Nat} {l r : List Fld} (h : TwoF w p l r) {k : Nat} (hk : k < 2) : ∃ a c, w.cell? ⟨p, k, none⟩ = some (.slice a (nthF l r k).length c) ∧ FldsC w a (nthF l r k) c := by
 obtain ⟨a, ca, b, cb, h1, h2, h3, h4⟩ := h
 match k, hk with
 | 0, _ => exact ⟨a, ca, h1, h3⟩
 | 1, _ => exact ⟨b, cb, h2, h4⟩
theorem sumF_step (l r : List Fld) {k : Nat} (hk : k < 2) : sumF l r (k + 1) = sumF l r k + (nthF l r k).length := by
 match k, hk with
 | 0, _ => simp [sumF, nthF]
 | 1, _ => simp [sumF, nthF]
theorem joinF_step (l r : List Fld) {k : Nat} (hk : k < 2) : joinF l r (k + 1) = joinF l r k ++ nthF l r k := by
 match k, hk with
 | 0, _ => simp [joinF, nthF]
 | 1, _ => simp [joinF, nthF]
theorem joinF_len (l r : List Fld) (k : Nat) : (joinF l r k).length ≤ l.length + r.length := by
 unfold joinF; split
 · simp
 · split <;> simp
theorem sumF_le (l r : List Fld) (k : Nat) : sumF l r k ≤ l.length + r.length := by
 unfold sumF; split
 · omega
 · split <;> omega
theorem nthF_len (l r : List Fld) (k : Nat) : (nthF l r k).length ≤ l.length + r.length := by
 unfold nthF; split <;> omega
set_option maxRecDepth 100000 in
set_option maxHeartbeats 2000000 in
theorem concatF_acc (l r : List Fld) (p : Nat) (w : World) (h : TwoF w p l r) (hl : l.length ≤ 1000000) (hr : r.length ≤ 1000000) :
  Calls Tryd.prog 23 #[.slice (some ⟨p, 0, none⟩) 2 2] w (RetAccF w (l ++ r)) := by
 have H0 := Box.mk h
 clear h
 go_enter Tryd.func23, Tryd.ntmps23
 go_wp2_with fail
 go_loop [3, 11] (fun v iv => ∃ k : Nat, k ≤ 2 ∧ iv = .int .i64 k ∧ ∃ q : Nat, v = .int .i64 q ∧ Box (q = sumF l r k) ∧ q ≤ 2000000) (fun _ iv => 2 - (intOf iv).toNat)
 case atStart => exact ⟨0, Nat.zero_le _, rfl, 0, rfl, ⟨rfl⟩, by omega⟩
 case round =>
  obtain ⟨k, hk, rfl, q, rfl, HQ, hq⟩ := hrel
  by_cases hlt : k < 2
  · obtain ⟨a, c, hc, _⟩ := H0.out.at hlt
    have HS := Box.mk (sumF_step l r hlt)
    have h1 := sumF_le l r (k + 1)
    have h2 := nthF_len l r k
    have h3 : q + (nthF l r k).length ≤ 2000000 := by have := HS.out; have := HQ.out; omega
    go_wp2_with fail
    go_round
    case rel => exact ⟨k + 1, by omega, by go_num, q + (nthF l r k).length, by go_num, ⟨by rw [HS.out, HQ.out]⟩, by omega⟩
    case measure => simp [intOf]; omega
  · obtain rfl : k = 2 := by omega
    have h0 : q ≤ 4000000 := by omega
    go_wp2_with fail
    refine (growF_any q _ h0).mono ?_
    rintro e w1 ⟨v, rfl, hacc⟩
    have HA := Box.mk hacc
    clear hacc HQ
    go_wp2_with fail
    go_loopw [6, 27] (fun v iv wr => ∃ k : Nat, k ≤ 2 ∧ iv = .int .i64 k ∧ Box (AccF w wr v (joinF l r k))) (fun _ iv _ => 2 - (intOf iv).toNat)
    case atStart => exact ⟨0, Nat.zero_le _, rfl, ⟨HA.out⟩⟩
    case round =>
     clear HA
     obtain ⟨k, hk, rfl, HM⟩ := hrel
     by_cases hlt : k < 2
     · obtain ⟨a, c, hc, hf⟩ := (H0.out.keep HM.out.2).at hlt
       have HF := Box.mk hf
       have HJ := Box.mk (joinF_step l r hlt)
       have h1 := joinF_len l r k
       have h2 := nthF_len l r k
       clear hf
       go_wp2_with (at_builtin; refine wpList_append_accfs _ rfl _ _ rfl rfl HM.out rfl HF.out (by omega) ?c1)
       case c1 =>
        intro v' w' hacc
        have HACC := Box.mk (show AccF w w' v' (joinF l r (k + 1)) by rw [HJ.out]; exact hacc)
        clear hacc HM HF HJ
        go_wp2_with fail
        go_roundw
        case rel => exact ⟨k + 1, by omega, by go_num, HACC⟩
        case measure => simp [intOf]; omega
     · obtain rfl : k = 2 := by omega
       have HE := Box.mk (show AccF w wr _ (l ++ r) from HM.out)
       clear HM
       go_wp2_with fail
       go_ret
       exact ⟨_, rfl, HE.out⟩
theorem twoF_new (w : World) (l r : List Fld) (a b : Option Addr) (ca cb : Nat) (t : TypeId) (h : FldsC w a l ca) (k : FldsC w b r cb) : TwoF (w.alloc (.cells #[.slice a l.length ca, .slice b r.length cb] t)) w.heap.size l r :=
 ⟨a, ca, b, cb, by rw [new_cellF]; rfl, by rw [new_cellF]; rfl, h.keep (below_oneF _ _), k.keep (below_oneF _ _)⟩
set_option maxHeartbeats 1000000 in
theorem fWith_acc (l r : List Fld) (a b : Option Addr) (ca cb : Nat) (w : World) (h : FldsC w a l ca) (k : FldsC w b r cb) (hl : l.length ≤ 1000000) (hr : r.length ≤ 1000000) :
  Calls Tryd.prog 14 #[.slice a l.length ca, .slice b r.length cb] w (RetAccF w (l ++ r)) := by
 have H0 := Box.mk (twoF_new w l r a b ca cb 26 h k)
 have HB := Box.mk (below_oneF w (.cells #[.slice a l.length ca, .slice b r.length cb] 26))
 clear h k
 go_enter Tryd.func14, Tryd.ntmps14
 go_wp2_with fail
 refine (concatF_acc l r _ _ H0.out hl hr).mono ?_
 rintro e w1 ⟨v, rfl, hv⟩
 have HS := Box.mk (AccF.lift HB.out hv)
 clear hv
 go_wp2_with fail
 go_ret
 exact ⟨v, rfl, HS.out⟩
def sameF (x y : List Fld) : Bool := decide (x = y)
theorem sameF_len {x y : List Fld} (h : ¬ x.length = y.length) : sameF x y = false := by
 unfold sameF; rw [decide_eq_false_iff_not]; intro e; exact h (by rw [e])
theorem sameF_no {x y : List Fld} {k : Nat} (h1 : k < x.length) (h2 : k < y.length) (h : ¬ x[k] = y[k]) : sameF x y = false := by
 unfold sameF; rw [decide_eq_false_iff_not]; intro e; subst e; exact h rfl
theorem sameF_yes {x y : List Fld} (hl : x.length = y.length) (h : ∀ j (h1 : j < x.length) (h2 : j < y.length), x[j] = y[j]) : sameF x y = true := by
 unfold sameF; rw [decide_eq_true_eq]; exact List.ext_getElem hl h
theorem sameF_self (x : List Fld) : sameF x x = true := by unfold sameF; simp
set_option maxRecDepth 100000 in
set_option maxHeartbeats 2000000 in
theorem sameFields_any (x y : List Fld) (a b : Option Addr) (ca cb : Nat) (w : World) (hx : FldsIn w a x) (hy : FldsIn w b y) (_hxl : x.length ≤ 2000000) (_hyl : y.length ≤ 2000000) :
  Calls Tryd.prog 8 #[.slice a x.length ca, .slice b y.length cb] w fun e w' => e = .returned (.bool (sameF x y)) ∧ Below w.heap.size w w' := by
 have HX := Box.mk hx
 have HY := Box.mk hy
 clear hx hy
 go_enter Tryd.func8, Tryd.ntmps8
 by_cases hl : x.length = y.length
 · have HL := Box.mk hl
   have hl1 : ((x.length : Int) != (y.length : Int)) = false := by simp [hl]
   have hl2 : x.length ≤ y.length := by omega
   clear hl
   go_wp2
   go_loopw [5] (fun i wr => ∃ k : Nat, k ≤ x.length ∧ i = .int .i64 k ∧ Box (∀ j (h1 : j < x.length) (h2 : j < y.length), j < k → x[j] = y[j]) ∧ Box (Below w.heap.size w wr)) (fun i _ => x.length - (intOf i).toNat)
   case atStart => exact ⟨0, Nat.zero_le _, rfl, ⟨by intro j _ _ h; omega⟩, ⟨Below.refl _ _⟩⟩
   case round =>
    obtain ⟨k, hk, rfl, HP, HB⟩ := hrel
    by_cases hlt : k < x.length
    · have hlt2 : k < y.length := by omega
      obtain ⟨x1, rfl, c1, c2⟩ := (HX.out.keep HB.out) k hlt
      obtain ⟨y1, rfl, d1, d2⟩ := (HY.out.keep HB.out) k hlt2
      have c2 := cell_next c2
      have d2 := cell_next d2
      by_cases he : x[k] = y[k]
      · have HE := Box.mk (show ∀ j (h1 : j < x.length) (h2 : j < y.length), j < k + 1 → x[j] = y[j] from fun j h1 h2 hj => by
         by_cases e : j = k
         · subst e; exact he
         · exact HP.out j h1 h2 (by omega))
        have e1 : (x[k].1.toList == y[k].1.toList) = true := by rw [he]; simp
        have e2 : (x[k].2.toList == y[k].2.toList) = true := by rw [he]; simp
        clear he
        generalize x[k] = f at *
        generalize y[k] = g at *
        go_wp2_with fail
        go_quiet (fail)
        go_wp2
        go_roundw
        case rel => exact ⟨k + 1, by omega, by go_num, HE, ⟨below_drewN HB.out _⟩⟩
        case measure => simp [intOf]; omega
      · have HN := Box.mk (sameF_no hlt hlt2 he)
        by_cases e1 : (x[k].1.toList == y[k].1.toList) = true
        · have e2 : (x[k].2.toList == y[k].2.toList) = false := by
           rw [toList_eq]; simp only [decide_eq_false_iff_not]
           intro h2
           rw [toList_eq] at e1
           exact he (Prod.ext (of_decide_eq_true e1) h2)
          clear he
          generalize x[k] = f at *
          generalize y[k] = g at *
          go_wp2_with fail
          go_quiet (fail)
          go_wp2
          go_ret
          exact ⟨ret_bool HN.out.symm, below_drewN HB.out _⟩
        · have e1' : (x[k].1.toList == y[k].1.toList) = false := by simpa using e1
          clear he e1
          generalize x[k] = f at *
          generalize y[k] = g at *
          go_wp2_with fail
          go_quiet (fail)
          go_wp2
          go_ret
          exact ⟨ret_bool HN.out.symm, below_drewN HB.out _⟩
    · go_wp2
      go_ret
      exact ⟨ret_bool (sameF_yes HL.out fun j h1 h2 => HP.out j h1 h2 (by omega)).symm, HB.out⟩
 · have hl1 : ((x.length : Int) != (y.length : Int)) = true := by rw [bne_iff_ne]; omega
   have HL := Box.mk hl
   clear hl
   go_wp2
   go_ret
   exact ⟨ret_bool (sameF_len HL.out).symm, Below.refl _ _⟩
def SmallF (l : List Fld) : Prop := ∀ f ∈ l, f.1.size ≤ 1048576 ∧ f.2.size ≤ 1048576
theorem le_maxLen {n : Nat} (h : n ≤ 1048576) : n ≤ maxLen := by unfold maxLen; omega
def IntsF (w : World) (a : Option Addr) (n : Nat) : Prop :=
 ∀ j, j < n → ∃ x z, a = some x ∧ w.cell? (x.add j) = some (.int .i64 z) ∧ -9223372036854775808 ≤ z ∧ z ≤ 9223372036854775807
theorem IntsF.keep {w w' : World} {a : Option Addr} {n : Nat} (h : IntsF w a n) (hb : Below w.heap.size w w') : IntsF w' a n := fun j hj => by
 obtain ⟨x, z, e, h1, h2⟩ := h j hj
 exact ⟨x, z, e, below_cell hb h1, h2⟩
def Src (w : World) (g : Nat) (a : Option Addr) (n c : Nat) : Prop :=
 (∃ i : Nat, i ≤ n ∧ w.heap[g]? = some (.cells #[.slice a n c, .int .i64 i] 25 (0, 0))) ∧ n ≤ maxLen ∧ IntsF w a n ∧ ∀ x, a = some x → 0 < n → x.block ≠ g
theorem Src.lt {w : World} {g : Nat} {a : Option Addr} {n c : Nat} (h : Src w g a n c) : g < w.heap.size := by
 obtain ⟨⟨i, _, h⟩, _⟩ := h
 exact (Array.getElem?_eq_some_iff.1 h).1
theorem add_blockF (x : Addr) (j : Nat) : (x.add j).block = x.block := by unfold Addr.add; split <;> rfl
theorem IntsF.grown {w w' : World} {a : Option Addr} {n : Nat} {row : Option Nat} (h : IntsF w a n) (hg : w.grownBy w' row) (hne : ∀ x, a = some x → 0 < n → some x.block ≠ row) : IntsF w' a n := fun j hj => by
 obtain ⟨x, z, e, h1, h2⟩ := h j hj
 refine ⟨x, z, e, ?_, h2⟩
 have hlt := lt_cell h1
 rw [World.cell?_of_block (hg.block _ hlt (by rw [add_blockF]; exact hne x e (by omega)))]
 exact h1
theorem Src.grown {w w' : World} {g : Nat} {a : Option Addr} {n c : Nat} {row : Option Nat} (h : Src w g a n c) (hg : w.grownBy w' row) (hne : some g ≠ row) (hne2 : ∀ x, a = some x → 0 < n → some x.block ≠ row) : Src w' g a n c := by
 have hlt := h.lt
 obtain ⟨⟨i, hi, hr⟩, h2, h3, h4⟩ := h
 exact ⟨⟨i, hi, by rw [hg.block g hlt hne]; exact hr⟩, h2, h3.grown hg hne2, h4⟩
theorem Src.keep {w w' : World} {g : Nat} {a : Option Addr} {n c : Nat} (h : Src w g a n c) (hb : Below w.heap.size w w') : Src w' g a n c := by
 have hlt := h.lt
 obtain ⟨⟨i, hi, hr⟩, h2, h3, h4⟩ := h
 exact ⟨⟨i, hi, by rw [hb.block g hlt]; exact hr⟩, h2, h3.keep hb, h4⟩
theorem grownBy_trans {w w1 w2 : World} {row : Option Nat} (h : w.grownBy w1 row) (k : w1.grownBy w2 row) : w.grownBy w2 row :=
 ⟨k.os.trans h.os, k.tape.trans h.tape, k.output.trans h.output, Nat.le_trans h.size k.size, fun i hi hne => (k.block i (Nat.lt_of_lt_of_le hi h.size) hne).trans (h.block i hi hne)⟩
theorem grownBy_below {w w1 : World} {row : Option Nat} (h : Below w.heap.size w w1) : w.grownBy w1 row :=
 ⟨h.os, h.tape, h.output, h.size, fun i hi _ => h.block i hi⟩
theorem grownBy_new {w w1 w2 : World} {row : Option Nat} {q : Option Nat} (h : w.grownBy w1 row) (k : w1.grownBy w2 q) (hq : ∀ i, q = some i → w.heap.size ≤ i) : w.grownBy w2 row :=
 ⟨k.os.trans h.os, k.tape.trans h.tape, k.output.trans h.output, Nat.le_trans h.size k.size, fun i hi hne => (k.block i (Nat.lt_of_lt_of_le hi h.size) (fun e => by have := hq i e.symm; omega)).trans (h.block i hi hne)⟩
def withI (z : Int) (n : Nat) : Int := (wrap64 (z.tmod n + n)).tmod n
theorem withI_range (z : Int) (n : Nat) (h0 : 0 < n) (hn : n ≤ 1000000000) : ∃ k : Nat, k < n ∧ withI z n = (k : Int) := by
 have h1 : z.tmod n < n := Int.tmod_lt_of_pos z (by omega)
 have h2 : -(n : Int) < z.tmod n := Int.lt_tmod_of_pos z (by omega)
 unfold withI
 generalize z.tmod n = y at *
 have e : wrap64 (y + n) = y + n := by simp only [wrap64]; omega
 rw [e, Int.tmod_eq_emod_of_nonneg (by omega)]
 exact ⟨((y + n) % n).toNat, by have := Int.emod_lt_of_pos (y + n) (show (0 : Int) < n by omega); have := Int.emod_nonneg (y + n) (show (n : Int) ≠ 0 by omega); omega, by have := Int.emod_nonneg (y + n) (show (n : Int) ≠ 0 by omega); omega⟩
theorem withinF (z : Int) (n : Nat) (w : World) (h0 : 0 < n) (hn : n ≤ 1000000000) :
  Calls Tryd.prog 10 #[.int .i64 z, .int .i64 n] w fun e w' => e = .returned (.int .i64 (withI z n)) ∧ w' = w := by
 go_enter Tryd.func10, Tryd.ntmps10
 go_wp2
 go_ret
 exact ⟨rfl, rfl⟩
set_option maxRecDepth 100000 in
set_option maxHeartbeats 2000000 in
theorem next_any (g m : Nat) (a : Option Addr) (n c : Nat) (w : World) (h : Src w g a n c) (h0 : 0 < m) (hm : m ≤ 1000000000) :
  Calls Tryd.prog 4 #[.pointer (some ⟨g, 0, none⟩), .int .i64 m] w fun e w' => ∃ k : Nat, k < m ∧ e = .returned (.int .i64 k) ∧ Src w' g a n c ∧ w.grownBy w' (some g) := by
 have H0 := Box.mk h
 obtain ⟨⟨i, hi, hr⟩, hn, h2, h3⟩ := h
 have HR := Box.mk hr
 have HI := Box.mk h2
 have HA := Box.mk h3
 have HN := Box.mk hn
 have hc0 : w.cell? ⟨g, 0, none⟩ = some (.slice a n c) := by rw [cell_of_row _ _ _ _ _ _ hr]; rfl
 have hc1 : w.cell? ⟨g, 1, none⟩ = some (.int .i64 i) := by rw [cell_of_row _ _ _ _ _ _ hr]; rfl
 unfold maxLen at hn
 clear hr h2 h3
 go_enter Tryd.func4, Tryd.ntmps4
 by_cases hlt : i < n
 · obtain ⟨x, z, rfl, hz, z0, z1⟩ := HI.out i hlt
   have hne := HA.out x rfl (by omega)
   have HNE := Box.mk hne
   clear hne
   have hd : decide (n ≤ i) = false := by simp; omega
   have HZ := Box.mk hz
   clear hz
   go_wp2_with fail
   go_quiet (fail)
   clear hd
   obtain ⟨W, hW⟩ : ∃ W, W = w.drewN nq := ⟨_, rfl⟩
   have HRW := Box.mk (show W.heap[g]? = some (.cells #[.slice (some x) n c, .int .i64 i] 25 (0, 0)) by rw [hW]; exact HR.out)
   rw [← hW]
   have hf := frozen_of_row W g 1 _ _ HRW.out
   have hc0 : W.cell? ⟨g, 0, none⟩ = some (.slice (some x) n c) := by rw [cell_of_row _ _ _ _ _ _ HRW.out]; rfl
   have hc1 : W.cell? ⟨g, 1, none⟩ = some (.int .i64 i) := by rw [cell_of_row _ _ _ _ _ _ HRW.out]; rfl
   have HGW := Box.mk (show w.grownBy W (some g) by rw [hW]; exact ⟨rfl, rfl, rfl, Nat.le_refl _, fun _ _ _ => rfl⟩)
   clear hW
   go_wp2_with fail
   obtain ⟨W2, hW2⟩ : ∃ W2, W2 = W.setCell ⟨g, 1, none⟩ (.int .i64 ((i : Int) + 1)) := ⟨_, rfl⟩
   have HR2 := Box.mk (show W2.heap[g]? = some (.cells #[.slice (some x) n c, .int .i64 ((i : Int) + 1)] 25 (0, 0)) by rw [hW2, heap_setCell_same _ _ _ _ _ _ HRW.out]; simp)
   have HG2 := Box.mk (show w.grownBy W2 (some g) from grownBy_trans HGW.out (by
    rw [hW2]
    exact ⟨rfl, rfl, rfl, by simp [World.setCell], fun k _ hne => heap_setCell_other W ⟨g, 1, none⟩ k _ (fun e => hne (by rw [e]))⟩))
   change Code.wp _ _ _ _ (W.setCell ⟨g, 1, none⟩ (.int .i64 ((i : Int) + 1)))
   rw [← hW2]
   clear hW2 hf hc0 hc1 HGW HRW
   have hc0 : W2.cell? ⟨g, 0, none⟩ = some (.slice (some x) n c) := by rw [cell_of_row _ _ _ _ _ _ HR2.out]; rfl
   have hc1 : W2.cell? ⟨g, 1, none⟩ = some (.int .i64 ((i : Int) + 1)) := by rw [cell_of_row _ _ _ _ _ _ HR2.out]; rfl
   have hz2 : W2.cell? (x.add i) = some (.int .i64 z) := by
    rw [World.cell?_of_block (HG2.out.block _ (lt_cell HZ.out) (by rw [add_blockF]; exact fun e => HNE.out (Option.some.inj e)))]
    exact HZ.out
   have HS := Box.mk (show Src W2 g (some x) n c from ⟨⟨i + 1, hlt, HR2.out⟩, HN.out, HI.out.grown HG2.out (fun y e h e2 => HA.out y e h (Option.some.inj e2)), HA.out⟩)
   obtain ⟨k, hk, hwk⟩ := withI_range z m h0 hm
   have HWK := Box.mk hwk
   clear hwk
   go_quiet ((go_at_call 10; exact Calls.quiet_of_same (withinF _ _ _ h0 hm)))
   go_wp2
   go_ret
   exact ⟨k, hk, ret_int HWK.out, HS.out.keep (below_drewN (Below.refl _ _) _), grownBy_trans HG2.out ⟨rfl, rfl, rfl, Nat.le_refl _, fun _ _ _ => rfl⟩⟩
 · have hd : decide (n ≤ i) = true := by simp; omega
   go_wp2_with fail
   go_quiet (fail)
   go_wp2
   go_ret
   exact ⟨0, h0, rfl, H0.out.keep (below_drewN (Below.refl _ _) _), ⟨rfl, rfl, rfl, Nat.le_refl _, fun _ _ _ => rfl⟩⟩
set_option maxHeartbeats 1000000 in
theorem of_any (g b : Nat) (l : List ByteArray) (cb : Nat) (a : Option Addr) (n c : Nat) (w : World) (h : Src w g a n c) (hl : StrsIn w (some ⟨b, 0, none⟩) l) (hb : b ≠ g) (h0 : 0 < l.length) (h1 : l.length ≤ 1000) :
  Calls Tryd.prog 5 #[.pointer (some ⟨g, 0, none⟩), .slice (some ⟨b, 0, none⟩) l.length cb] w fun e w' => ∃ s ∈ l, e = .returned (.string s) ∧ Src w' g a n c ∧ w.grownBy w' (some g) := by
 have HL := Box.mk hl
 have HB := Box.mk hb
 clear hl hb
 go_enter Tryd.func5, Tryd.ntmps5
 go_wp2_with fail
 refine (next_any g l.length a n c w h h0 (by omega)).mono ?_
 rintro e w1 ⟨k, hk, rfl, hs, hg⟩
 obtain ⟨x, hx, hc⟩ := HL.out k hk
 obtain rfl := Option.some.inj hx
 have hc1 : w1.cell? ((⟨b, 0, none⟩ : Addr).add k) = some (.string l[k]) := by
  rw [World.cell?_of_block (hg.block _ (lt_cell hc) (by rw [add_blockF]; exact fun e => HB.out (Option.some.inj e)))]
  exact hc
 rw [Addr.add_lit, Nat.zero_add] at hc1
 have HS := Box.mk hs
 have HG := Box.mk hg
 have HMEM := Box.mk (List.getElem_mem hk)
 clear hs hg hc hx
 go_wp2_with fail
 go_ret
 exact ⟨_, HMEM.out, rfl, HS.out, HG.out⟩
theorem strsIn_newF (w : World) (l : List ByteArray) (t : TypeId) : StrsIn (w.alloc (.cells (l.map Value.string).toArray t)) (some ⟨w.heap.size, 0, none⟩) l := fun j hj =>
 ⟨_, rfl, by rw [Addr.add_lit, Nat.zero_add, new_cellF]; simp [hj]⟩
theorem grownBy_setRowF (w : World) (g : Nat) (cs : Array Value) : w.grownBy (w.setRow g cs) (some g) :=
 ⟨rfl, rfl, rfl, by simp [World.setRow], fun k _ hne => setRow_other w g k cs (fun e => hne (by rw [e]))⟩
theorem of_n (g b m : Nat) (l : List ByteArray) (cb : Nat) (a : Option Addr) (n c : Nat) (w : World) (h : Src w g a n c) (hl : StrsIn w (some ⟨b, 0, none⟩) l) (hb : b ≠ g) (hm : l.length = m) (h0 : 0 < m) (h1 : m ≤ 1000) :
  Calls Tryd.prog 5 #[.pointer (some ⟨g, 0, none⟩), .slice (some ⟨b, 0, none⟩) m cb] w fun e w' => ∃ s ∈ l, e = .returned (.string s) ∧ Src w' g a n c ∧ w.grownBy w' (some g) := by
 subst hm
 exact of_any g b l cb a n c w h hl hb h0 h1
def OwnF (B : Nat) (w : World) (v : Value) (l : List Fld) : Prop := w.ownsRow B 31 2 v l.length (cellsF l)
theorem OwnF.start (B : Nat) (w : World) : OwnF B w (.slice none 0 0) [] := World.ownsRow_nil _ _ _ _
theorem OwnF.lt {B : Nat} {w : World} {v : Value} {l : List Fld} (h : OwnF B w v l) {k : Nat} (hk : v.ownBlock = some k) : B ≤ k ∧ k < w.heap.size := World.ownsRow.lt h k hk
theorem OwnF.same {B : Nat} {w w' : World} {v : Value} {l : List Fld} (h : OwnF B w v l) (hs : ∀ k, v.ownBlock = some k → w'.heap[k]? = w.heap[k]?) : OwnF B w' v l := by
 obtain ⟨h1, h2⟩ := h
 refine ⟨h1, ?_⟩
 rcases h2 with h2 | ⟨g, cap, cur, hv, hg, hc, r⟩
 · exact .inl h2
 · exact .inr ⟨g, cap, cur, hv, hg, by rw [hs g (by rw [hv]; rfl)]; exact hc, r⟩
theorem OwnF.keep {B : Nat} {w w' : World} {v : Value} {l : List Fld} (h : OwnF B w v l) (hb : Below w.heap.size w w') : OwnF B w' v l :=
 h.same fun k hk => hb.block k (h.lt hk).2
theorem OwnF.grown {B : Nat} {w w' : World} {v : Value} {l : List Fld} {row : Option Nat} (h : OwnF B w v l) (hg : w.grownBy w' row) (hne : ∀ k, v.ownBlock = some k → some k ≠ row) : OwnF B w' v l :=
 h.same fun k hk => hg.block k (h.lt hk).2 (hne k hk)
theorem OwnF.shape {B : Nat} {w : World} {v : Value} {l : List Fld} (h : OwnF B w v l) : ∃ a cap, v = .slice a l.length cap ∧ FldsC w a l cap ∧ l.length ≤ cap := by
 obtain ⟨h1, h2⟩ := h
 rcases h2 with ⟨rfl, h2⟩ | ⟨g, cap, cur, rfl, hg, hc, hcap, hm, hsz, ht⟩
 · have : l = [] := List.eq_nil_of_length_eq_zero h2
   subst this
   exact ⟨none, 0, rfl, ⟨FldsIn.nil _ _, fun _ => ⟨rfl, rfl⟩⟩, Nat.le_refl _⟩
 · refine ⟨_, cap, rfl, ⟨FldsIn.of_cells fun j u hj => ?_, fun e => by cases e⟩, hcap⟩
   have e := congrArg (fun x => x[j]?) ht
   have hlt : j < l.length * 2 := by rw [← cellsF_len]; exact (List.getElem?_eq_some_iff.1 hj).1
   rw [hj, List.getElem?_take_of_lt hlt] at e
   rw [Addr.add_lit]
   simp only [World.cell?, hc, Nat.zero_add]
   simpa using e
section
variable {ops : Array Oper} {rest : List Oper} {o : Oper} {act : Act} {Q : Exit → Act → World → Prop}
theorem wpList_append_ownf (w : World) (hgd : o.guard = none) (s x : Operand) (ho : o.op = .call { callee := .builtin .append, args := #[s, x], argTypes := #[26, 26] })
  {B : Nat} {v : Value} {l : List Fld} (hs : act.eval s = v) (h : OwnF B w v l) {b c : Nat} (hx : act.eval x = .slice (some ⟨b, 0, none⟩) 1 c) {y : Fld} (hy : w.cell? ⟨b, 0, none⟩ = some (.string y.1)) (hy2 : w.cell? ⟨b, 1, none⟩ = some (.string y.2))
  (hn : l.length + 1 ≤ 4398046511104) (hB : B ≤ w.heap.size)
  (K : ∀ v' w', OwnF B w' v' (l ++ [y]) → w.grownBy w' v.ownBlock → wpList Tryd.prog ops Q rest (act.put o.dst v') w') : wpList Tryd.prog ops Q (o :: rest) act w := by
 obtain ⟨i0, hi, hz0, hz1, hz2⟩ := info_parts Tryd.info31
 refine wpList_append_lies w hgd s x 26 ho B 31 i0 _ 2 32 Tryd.underlying26 hi hz0 hz1 hz2 rfl (by decide) v l.length (cellsF l) hs h ⟨b, 0, none⟩ 1 c [.string y.1, .string y.2] hx rfl ?_ ?_ (by decide) (by unfold maxLen; omega) (by omega) hB w.heap.size rfl ?_
 · intro j u hj
   match j, hj with
   | 0, hj => simp at hj; subst hj; rw [Addr.add_lit]; exact hy
   | 1, hj => simp at hj; subst hj; rw [Addr.add_lit]; exact hy2
   | j + 2, hj => simp at hj
 · intro u hu; simp at hu; rcases hu with rfl | rfl <;> rfl
 · intro g cap w' hown hgrow hg hlt
   refine K _ w' ?_ hgrow
   unfold OwnF
   rw [List.length_append, cellsF_app]; exact hown
end
end Go.Proofs.YtfghgenboahkkaaDoor
namespace Go.Proofs.YtfghgenboahkkaaDoor
open Go.RowKit
theorem IntsF.alloc {w : World} {a : Option Addr} {n : Nat} (h : IntsF w a n) (o : Obj) : IntsF (w.alloc o) a n := h.keep (below_oneF w o)
theorem src_box {w : World} {a : Option Addr} {n c : Nat} (h : IntsF w a n) (hn : n ≤ maxLen) : Src (w.alloc (.cells #[.slice a n c, .int .i64 0] 25)) w.heap.size a n c := by
 refine ⟨⟨0, Nat.zero_le _, heap_alloc_new _ _⟩, hn, h.alloc _, fun x e h0 => ?_⟩
 obtain ⟨y, z, e2, hc, _⟩ := h 0 h0
 rw [e] at e2
 obtain rfl := Option.some.inj e2
 have := lt_cell hc
 rw [add_blockF] at this
 omega
theorem fldsIn_one (w : World) (n v : ByteArray) : FldsIn (w.alloc (.cells #[.string n, .string v] 31)) (some ⟨w.heap.size, 0, none⟩) [(n, v)] := fun j hj => by
 obtain rfl : j = 0 := by simpa using hj
 exact ⟨_, rfl, by rw [Addr.add_lit, new_cellF]; rfl, by rw [Addr.add_lit, new_cellF]; rfl⟩
theorem SmallF.short {l : List Fld} (h : SmallF l) : ShortF l := fun f hf => ⟨le_maxLen (h f hf).1, le_maxLen (h f hf).2⟩
theorem total_values {x : List Fld} (h : SmallF x) (n : ByteArray) : total (valuesL x n) ≤ x.length * 1048577 := by
 unfold valuesL
 induction x with
 | nil => exact Nat.zero_le _
 | cons f t ih =>
  have h1 := ih (fun g hg => h g (List.mem_cons_of_mem _ hg))
  have h2 := (h f (List.mem_cons_self ..)).2
  clear h ih
  rw [List.filter_cons, List.length_cons, Nat.add_mul, Nat.one_mul]
  split
  · simp only [List.map_cons, total]
    exact Nat.le_trans (Nat.add_le_add (Nat.add_le_add_right h2 1) h1) (Nat.le_of_eq (Nat.add_comm _ _))
  · exact Nat.le_trans h1 (Nat.le_add_right _ _)
section
variable {Q : Exit → Act → World → Prop} {a : Act} {w : World} {o : Oper} {s : Spec}
end
end Go.Proofs.YtfghgenboahkkaaDoor
namespace Go.Proofs.YtfghgenboahkkaaDoor
open Go.RowKit
def dgc (d : Nat) : UInt8 := if d < 10 then UInt8.ofNat (48 + d) else UInt8.ofNat (87 + d)
def digsF (b : Nat) : Nat → Nat → List UInt8
 | 0, n => [dgc (n % b)]
 | f + 1, n => if n < b then [dgc n] else digsF b f (n / b) ++ [dgc (n % b)]
def digs (b n : Nat) : List UInt8 := digsF b n n
theorem digsF_fuel (b : Nat) (hb : 2 ≤ b) : ∀ (f n : Nat), n ≤ f → digsF b f n = digsF b n n
  | 0, n, h => by obtain rfl : n = 0 := by omega
                  rfl
  | f + 1, n, h => by
    match n with
    | 0 => simp [digsF, show 0 < b by omega]
    | n + 1 =>
      have hd : (n + 1) / b ≤ n := by
        have : (n + 1) / b < n + 1 := Nat.div_lt_self (by omega) (by omega)
        omega
      simp only [digsF]
      rw [digsF_fuel b hb f _ (by omega), digsF_fuel b hb n _ hd]
theorem digs_small {b n : Nat} (h : n < b) : digs b n = [dgc n] := by
 unfold digs
 match n with
 | 0 => rw [digsF, Nat.zero_mod]
 | n + 1 => rw [digsF, if_pos h]
theorem digs_big {b n : Nat} (hb : 2 ≤ b) (h : ¬ n < b) : digs b n = digs b (n / b) ++ [dgc (n % b)] := by
 unfold digs
 match n with
 | 0 => omega
 | n + 1 =>
  have hd : (n + 1) / b ≤ n := by
   have : (n + 1) / b < n + 1 := Nat.div_lt_self (by omega) (by omega)
   omega
  rw [digsF, if_neg h, digsF_fuel b hb n _ hd]
theorem digs_dec (n : Nat) : digs 10 n = Lib.decDigits n := by
 induction n using Nat.strongRecOn with
 | _ n ih =>
  by_cases h : n < 10
  · rw [digs_small h, Lib.decDigits, dif_pos h]; unfold dgc; rw [if_pos h]
  · rw [digs_big (by omega) h, Lib.decDigits, dif_neg h, ih _ (by omega)]
    congr 1; unfold dgc; rw [if_pos (by omega)]
def numeral (b n : Nat) : ByteArray := ⟨(digs b n).toArray⟩
theorem splitL_total (c : UInt8) : ∀ l : List UInt8, ((splitL c l).map (fun p => p.length + 1)).sum = l.length + 1
 | [] => rfl
 | b :: t => by
  have ih := splitL_total c t
  rw [splitL]; split
  · simp; omega
  · cases h : splitL c t with
    | nil => exact absurd h (splitL_ne c t)
    | cons q r => rw [h] at ih; simp [front] at ih ⊢; omega
theorem total_map (L : List (List UInt8)) : total (L.map ofL) = (L.map (fun p => p.length + 1)).sum := by
 induction L with
 | nil => rfl
 | cons a t ih =>
  have e : (ofL a).size = a.length := by show (ofL a).data.size = _; simp [ofL]
  simp only [List.map_cons, total, List.sum_cons, ih, e]
theorem total_elemsOf (l : List ByteArray) : total (elemsOf l) ≤ total l := by
 unfold elemsOf
 induction l with
 | nil => exact Nat.le_refl _
 | cons a t ih =>
  have h := trimBA_size a
  simp only [List.map_cons, List.filter_cons]
  split <;> simp only [total] <;> omega
theorem total_append (a b : List ByteArray) : total (a ++ b) = total a + total b := by
 induction a with
 | nil => simp [total]
 | cons x t ih => simp only [List.cons_append, total, ih]; omega
theorem total_elemL (a : ByteArray) : total (elemL a) ≤ a.size + 1 := by
 have h1 := total_elemsOf (splitS 44 a)
 have h2 : total (splitS 44 a) = a.size + 1 := by
  unfold splitS; rw [total_map, splitL_total]; simp
 unfold elemL; omega
theorem total_listL : ∀ l : List ByteArray, total (listL l) ≤ total l
 | [] => Nat.le_refl _
 | a :: t => by
  have h1 := total_listL t
  have h2 := total_elemL a
  have e : listL (a :: t) = elemL a ++ listL t := by unfold listL; rw [List.flatMap_cons]
  rw [e, total_append]; simp only [total]; omega
section
variable (w : World) (m : Int)
end
end Go.Proofs.YtfghgenboahkkaaDoor
namespace Go.Proofs.YtfghgenboahkkaaDoor
open Go.RowKit
def cnN : ByteArray := ⟨#[99, 111, 110, 110, 101, 99, 116, 105, 111, 110]⟩
theorem total_mem {l : List ByteArray} {y : ByteArray} (h : y ∈ l) : y.size + 1 ≤ total l := by
 obtain ⟨k, hk, rfl⟩ := List.getElem_of_mem h
 exact total_at hk (Nat.le_refl _)
theorem listL_small {l : List ByteArray} {y : ByteArray} (h : y ∈ listL l) : y.size ≤ total l := by
 have h1 := total_mem h
 have h2 := total_listL l
 omega
def MaxOk (w : World) (mm : Int) : Prop := w.cell? ⟨0, 0, none⟩ = some (.int .i64 mm)
theorem MaxOk.keep {w w' : World} {mm : Int} (h : MaxOk w mm) (hb : Below w.heap.size w w') : MaxOk w' mm := below_cell hb h
def cnP : ByteArray := ⟨#[67, 111, 110, 110, 101, 99, 116, 105, 111, 110]⟩
theorem low_cn : lowS cnP = lowS cnN := by decide +kernel
theorem foldS_low {a n m : ByteArray} (h : lowS n = lowS m) : foldS a n = foldS a m := by unfold foldS; rw [h]
theorem valuesL_low {n m : ByteArray} (l : List Fld) (h : lowS n = lowS m) : valuesL l n = valuesL l m := by
 unfold valuesL; simp only [foldS_low h]
def fmtS (b : Nat) (n : Int) : ByteArray := if n < 0 then ⟨#[]⟩ else numeral b n.toNat
theorem below_drewN0 (w : World) (j : Nat) : Below w.heap.size w (w.drewN j) := ⟨rfl, rfl, rfl, Nat.le_refl _, fun _ _ => rfl⟩
def Tabs (w : World) : Prop := Lib.TabIs Tryd.prog w "internal/strconv.uint64pow10" .u64 Lib.pow10Tab ∧ w.cell? ⟨3, 15, none⟩ = some (.int .u8 4) ∧ 1 < w.heap.size
set_option maxHeartbeats 400000 in
theorem tz64_16 (w : World) (h : w.cell? ⟨3, 15, none⟩ = some (.int .u8 4)) :
  Calls Tryd.prog 80 #[.int .u64 16] w fun e w' => e = .returned (.int .i64 4) ∧ w = w' := by
 go_enter Tryd.func80, Tryd.ntmps80
 have b1 : bits BinOp.and IntKind.u64 16 (IntKind.u64.wrap (-16)) = 16 := by kernel_rfl
 have b2 : IntKind.u64.wrap (16 * 285870213051353865) = 4573923408821661840 := by kernel_rfl
 go_wp2
 go_ret
 exact ⟨rfl, rfl⟩
set_option maxHeartbeats 400000 in
theorem tz16_any (w : World) (h : w.cell? ⟨3, 15, none⟩ = some (.int .u8 4)) :
  Calls Tryd.prog 69 #[.int .u64 16] w fun e w' => e = .returned (.int .i64 4) ∧ w = w' := by
 go_enter Tryd.func69, Tryd.ntmps69
 go_wp2_with (go_at_call 80; refine (tz64_16 _ h).mono ?_; rintro e w' ⟨rfl, rfl⟩)
 go_ret
 exact ⟨rfl, rfl⟩
set_option maxHeartbeats 400000 in
theorem pow2_16 (w : World) :
  Calls Tryd.prog 68 #[.int .i64 16] w fun e w' => e = .returned (.bool true) ∧ w = w' := by
 go_enter Tryd.func68, Tryd.ntmps68
 go_wp2
 go_ret
 exact ⟨rfl, rfl⟩
theorem ret_sl_str {a b : ByteArray} {v : Value} (h : a = b) : Ending.returned (.tuple #[v, .string a]) = .returned (.tuple #[v, .string b]) := by rw [h]
def zs65 : Array Value := Array.replicate 65 (.int .u8 0)
theorem zs65_at (j : Nat) (h : j < 65) : zs65[j]? = some (.int .u8 0) := by unfold zs65; rw [Array.getElem?_replicate, if_pos h]
theorem zs65_ne : ¬ zs65 = #[] := by intro h; have := congrArg Array.size h; simp [zs65] at this
theorem zs65_zero (w : World) : (zeroValue 109).run Tryd.prog w = .ok (.agg zs65) w := by kernel_rfl
theorem pow_bd {k n u : Nat} (h : k * 16 ^ n ≤ u) (hu : u < 9223372036854775808) (hk : 1 ≤ k) : n ≤ 15 := by
 rcases Nat.lt_or_ge 15 n with hn | hn
 · have h1 : 16 ^ 16 ≤ 16 ^ n := Nat.pow_le_pow_right (by omega) hn
   have h2 : 16 ^ n ≤ k * 16 ^ n := Nat.le_mul_of_pos_left _ hk
   have h3 : (16 : Nat) ^ 16 = 18446744073709551616 := by decide
   omega
 · exact hn
def Tail (w0 w : World) (i : Nat) (t : List UInt8) : Prop := ∃ l : List UInt8, l.length = 65 ∧ BytesAt w w0.heap.size l ∧ l.drop i = t ∧ Below w0.heap.size w0 w
def dig36 : ByteArray := ⟨#[48, 49, 50, 51, 52, 53, 54, 55, 56, 57, 97, 98, 99, 100, 101, 102, 103, 104, 105, 106, 107, 108, 109, 110, 111, 112, 113, 114, 115, 116, 117, 118, 119, 120, 121, 122]⟩
theorem dig36_fin : ∀ d : Fin 16, dig36.data.toList[d.val]? = some (dgc d.val) := by decide +kernel
theorem dig36_at {d : Nat} (h : d < 16) (hd : d < dig36.size) : dig36[d]'hd = dgc d := by
 have h1 := dig36_fin ⟨d, h⟩
 have h2 : dig36.data.toList[d]? = some (dig36[d]'hd) := by
  have hs : d < dig36.data.toList.length := by simpa using hd
  rw [List.getElem?_eq_getElem hs]; rfl
 rw [h2] at h1; exact Option.some.inj h1
theorem Tail.cell {w0 w : World} {i : Nat} {t : List UInt8} (h : Tail w0 w i t) {j : Nat} (hj : j < 65) : ∃ v, w.cell? ⟨w0.heap.size, j, none⟩ = some v ∧ w.frozen? ⟨w0.heap.size, j, none⟩ = false := by
 obtain ⟨l, h1, h2, _⟩ := h
 obtain ⟨a, b⟩ := h2 j (by omega)
 exact ⟨_, a, b⟩
theorem Tail.put {w0 w : World} {i : Nat} {t : List UInt8} (h : Tail w0 w i t) (hi : 1 ≤ i) (hi2 : i ≤ 65) (c : UInt8) :
  Tail w0 (w.setCell ⟨w0.heap.size, i - 1, none⟩ (.int .u8 (c.toNat : Int))) (i - 1) (c :: t) := by
 obtain ⟨l, h1, h2, h3, h4⟩ := h
 refine ⟨l.set (i - 1) c, by simp [h1], h2.set (by omega) c, ?_, h4.setCell (Nat.le_refl _) _⟩
 rw [List.drop_eq_getElem_cons (by rw [List.length_set]; omega), List.getElem_set_self, show i - 1 + 1 = i by omega, List.drop_set_of_lt (by omega), h3]
theorem Tail.read {w0 w : World} {i : Nat} {t : List UInt8} (h : Tail w0 w i t) {j : Nat} (hj : j < t.length) : w.cell? ⟨w0.heap.size, i + j, none⟩ = some (.int .u8 (t[j].toNat : Int)) := by
 obtain ⟨l, h1, h2, h3, h4⟩ := h
 subst h3
 have hj' : i + j < l.length := by simp at hj; omega
 rw [(h2 (i + j) hj').1, List.getElem_drop]
set_option maxRecDepth 100000 in
set_option maxHeartbeats 1000000 in
theorem formatBits16 (u : Nat) (w : World) (hu : u < 9223372036854775808) (h : w.cell? ⟨3, 15, none⟩ = some (.int .u8 4)) :
  Calls Tryd.prog 53 #[.slice none 0 0, .int .u64 u, .int .i64 16, .bool false, .bool false] w fun e w' => e = .returned (.tuple #[.slice none 0 0, .string (numeral 16 u)]) ∧ Below w.heap.size w w' := by
 have hlt := lt_cell h
 have hz := zs65_zero
 have hne := zs65_ne
 have HT : Hid (Tail w (w.alloc (.cells zs65 109)) 65 []) := by
  refine Lib.hid ⟨List.replicate 65 0, by simp, ?_, by simp, (Below.refl _ _).alloc (Nat.le_refl _) _⟩
  intro j hj
  have hj' : j < 65 := by simpa using hj
  refine ⟨?_, World.frozen?_alloc_new _ _ _ _⟩
  rw [World.cell?_alloc_new, zs65_at j hj', List.getElem_replicate]; rfl
 have hc : (w.alloc (.cells zs65 109)).cell? ⟨3, 15, none⟩ = some (.int .u8 4) := by rw [World.cell?_alloc_past _ _ _ hlt]; exact h
 have HC := Lib.hid hc
 clear hc h
 go_enter Tryd.func53, Tryd.ntmps53
 go_wp2_with (first | (go_at_call 68; refine (pow2_16 _).mono ?_; rintro e w' ⟨rfl, rfl⟩) | (go_at_call 69; refine (tz16_any _ HC.out).mono ?_; rintro e w' ⟨rfl, rfl⟩))
 go_loopw [1, 13] (fun x y wr => ∃ (k i : Nat) (t : List UInt8), x = .int .u64 k ∧ y = .int .i64 i ∧ t.length + i = 65 ∧ k ≤ u ∧ Hid (k * 16 ^ t.length ≤ u ∧ (t = [] ∨ 1 ≤ k) ∧ digs 16 u = digs 16 k ++ t ∧ Tail w wr i t)) (fun x _ _ => (intOf x).toNat)
 case atStart => exact ⟨u, 65, [], rfl, rfl, by simp, Nat.le_refl _, Lib.hid ⟨by simp, .inl rfl, by simp, HT.out⟩⟩
 case round =>
  obtain ⟨k, i, t, rfl, rfl, hi, hk, HH⟩ := hrel
  have h1 := HH.out.1
  have h15 : t.length ≤ 15 := by
   rcases HH.out.2.1 with e | e
   · rw [e]; simp
   · exact pow_bd h1 hu e
  clear h1
  obtain ⟨v, hcell, hfz⟩ := HH.out.2.2.2.cell (j := i - 1) (by omega)
  have hx : ∀ d (hd16 : d < 16) hd, (⟨#[48, 49, 50, 51, 52, 53, 54, 55, 56, 57, 97, 98, 99, 100, 101, 102, 103, 104, 105, 106, 107, 108, 109, 110, 111, 112, 113, 114, 115, 116, 117, 118, 119, 120, 121, 122]⟩ : ByteArray)[d]'hd = dgc d := fun d hd16 hd => dig36_at hd16 hd
  by_cases h16 : 16 ≤ k
  · obtain ⟨d, hd⟩ : ∃ d : Nat, k % 16 = d := ⟨_, rfl⟩
    have hd9 : d < 16 := by omega
    have hb : bits BinOp.and IntKind.u64 (k : Int) 15 = (d : Int) := by
     rw [show (15 : Int) = ((15 : Nat) : Int) from rfl, bits_and_u64_nat _ _ (by omega) (by omega), ← hd]
     congr 1
     exact Nat.and_two_pow_sub_one_eq_mod k 4
    have HD := Lib.hid hd
    have hxd := hx d hd9
    clear hd hx
    go_wp2
    all_goals go_roundw
    case rel =>
     obtain ⟨a1, a2, a3, a4⟩ := HH.out
     have hd := HD.out
     refine ⟨k / 16, i - 1, dgc d :: t, congrArg (Value.int .u64) (by omega), congrArg (Value.int .i64) (by omega), by simp; omega, by omega, Lib.hid ⟨?_, .inr (by omega), ?_, a4.put (by omega) (by omega) _⟩⟩
     · rw [List.length_cons, Nat.pow_succ, ← Nat.mul_assoc, Nat.mul_right_comm]
       exact Nat.le_trans (Nat.mul_le_mul_right _ (by omega)) a1
     · rw [a3, digs_big (by omega) (show ¬ k < 16 by omega), hd]; simp
    case measure => simp [intOf]; omega
  · have hk16 : k < 16 := by omega
    have hxd := hx k hk16
    clear hx
    have hal : Tryd.prog.arrayLen 109 = 65 := by simp [Program.arrayLen, Tryd.underlying109]
    have hsl : ∀ W, (Instr.sliceAt 109 (.pointer (some ⟨w.heap.size, 0, none⟩)) (some (.int .i64 ((i : Int) - 1))) none none).run Tryd.prog W = .ok (.slice (some ⟨w.heap.size, i - 1, none⟩) (t.length + 1) (t.length + 1)) W := fun W => by
     rw [run_sliceAt_array_l W 109 ⟨w.heap.size, 0, none⟩ (by simp [Program.arrayLen, Program.elem, Tryd.underlying109]) .i64 _ (by omega) (by rw [hal]; omega)]
     go_simp
     omega
    have hT := HH.out.2.2.2.put (by omega) (by omega) (dgc k)
    have hcv : (convert 32 9 (.slice (some ⟨w.heap.size, i - 1, none⟩) (t.length + 1) (t.length + 1))).run Tryd.prog (wr.setCell ⟨w.heap.size, i - 1, none⟩ (.int .u8 ((dgc k).toNat : Int))) = .ok (.string ⟨(dgc k :: t).toArray⟩) (wr.setCell ⟨w.heap.size, i - 1, none⟩ (.int .u8 ((dgc k).toNat : Int))) :=
     run_convert_bytes_back (P := Tryd.prog) _ 32 9 5 ⟨w.heap.size, i - 1, none⟩ (t.length + 1) (dgc k :: t) Tryd.underlying32 Tryd.underlying5 Tryd.underlying9 (fun j hj => by rw [Lib.add_plain]; exact hT.read hj)
    have HT := Lib.hid hT
    clear hT hal
    go_wp2
    go_ret2
    obtain ⟨a1, a2, a3, a4⟩ := HH.out
    obtain ⟨_, _, _, _, hb⟩ := HT.out
    refine ⟨ret_sl_str ?_, hb⟩
    unfold numeral
    rw [a3, digs_small hk16]; rfl
theorem grow_below (w : World) (os : Array Obj) : Below w.heap.size w (Sort.grow w os) :=
 ⟨rfl, rfl, rfl, by simp [Sort.grow], fun k hk => by simp [Sort.grow, Array.getElem?_append_left hk]⟩
set_option maxHeartbeats 1000000 in
theorem formatInt16 (u : Nat) (w : World) (hu : u < 9223372036854775808) (h : w.cell? ⟨3, 15, none⟩ = some (.int .u8 4)) :
  Calls Tryd.prog 35 #[.int .i64 u, .int .i64 16] w fun e w' => e = .returned (.string (numeral 16 u)) ∧ Below w.heap.size w w' := by
 have HC := Lib.hid h
 clear h
 have h1 : Calls Tryd.prog 43 #[.int .i64 u, .int .i64 16] w fun e w' => e = .returned (.string (numeral 16 u)) ∧ Below w.heap.size w w' := by
  have hwr : IntKind.u64.wrap (u : Int) = (u : Int) := by rw [IntKind.wrap_u64]; omega
  go_enter Tryd.func43, Tryd.ntmps43
  go_wp2_with (go_at_call 53; refine (formatBits16 u _ hu HC.out).mono ?_; rintro e w' ⟨rfl, hb⟩)
  go_ret
  exact ⟨rfl, hb⟩
 go_enter Tryd.func35, Tryd.ntmps35
 go_wp2_with (go_at_call 43; refine h1.mono ?_; rintro e w' ⟨rfl, hb⟩)
 go_ret
 exact ⟨rfl, hb⟩
theorem formatInt10 (u : Nat) (w : World) (hu : u < 9223372036854775808) (h : Lib.TabIs Tryd.prog w "internal/strconv.uint64pow10" .u64 Lib.pow10Tab) :
  Calls Tryd.prog 35 #[.int .i64 u, .int .i64 10] w fun e w' => e = .returned (.string (numeral 10 u)) ∧ Below w.heap.size w w' := by
 refine (Any.strconv_FormatInt_10 Tryd.laysM173 (u : Int) (by omega) (by omega) w h).mono ?_
 rintro e w' ⟨rfl, k, os, rfl⟩
 refine ⟨ret_str ?_, (below_drewN0 w k).trans (show Below w.heap.size (w.drewN k) _ from grow_below (w.drewN k) os)⟩
 unfold numeral
 rw [digs_dec, Lib.itoa_nonneg]
theorem format_any (n : Int) (b : Int) (w : World) (hb : b = 10 ∨ b = 16) (h0 : -9223372036854775808 ≤ n) (h1 : n ≤ 9223372036854775807) (ht : Tabs w) :
  Calls Tryd.prog 24 #[.int .i64 n, .int .i64 b] w fun e w' => e = .returned (.string (fmtS b.toNat n)) ∧ Below w.heap.size w w' := by
 by_cases hn : n < 0
 · go_enter Tryd.func24, Tryd.ntmps24
   go_wp2
   go_ret
   exact ⟨ret_str (by unfold fmtS; rw [if_pos hn]), Below.refl _ _⟩
 · obtain ⟨u, rfl⟩ : ∃ u : Nat, n = u := ⟨n.toNat, by omega⟩
   obtain ⟨t1, t2, t3⟩ := ht
   have T1 := Lib.hid t1
   have T2 := Lib.hid t2
   clear t1 t2
   rcases hb with rfl | rfl
   · go_enter Tryd.func24, Tryd.ntmps24
     go_wp2_with (go_at_call 35; refine (formatInt10 u _ (by omega) T1.out).mono ?_; rintro e w' ⟨rfl, hb⟩)
     go_ret
     exact ⟨ret_str (by unfold fmtS; rw [if_neg (by omega)]; rfl), hb⟩
   · go_enter Tryd.func24, Tryd.ntmps24
     go_wp2_with (go_at_call 35; refine (formatInt16 u _ (by omega) T2.out).mono ?_; rintro e w' ⟨rfl, hb⟩)
     go_ret
     exact ⟨ret_str (by unfold fmtS; rw [if_neg (by omega)]; rfl), hb⟩
theorem decimal_any (n : Int) (w : World) (h0 : -9223372036854775808 ≤ n) (h1 : n ≤ 9223372036854775807) (ht : Tabs w) :
  Calls Tryd.prog 16 #[.int .i64 n] w fun e w' => e = .returned (.string (fmtS 10 n)) ∧ Below w.heap.size w w' := by
 have HT := Lib.hid ht
 clear ht
 go_enter Tryd.func16, Tryd.ntmps16
 go_wp2_with (go_at_call 24; refine (format_any _ _ _ (.inl rfl) h0 h1 HT.out).mono ?_; rintro e w' ⟨rfl, hb⟩)
 go_ret
 exact ⟨rfl, hb⟩
theorem tabs_below {w w' : World} (h : Tabs w) (hb : Below w.heap.size w w') : Tabs w' := by
 obtain ⟨h1, h2, h3⟩ := h
 refine ⟨?_, below_cell hb h2, Nat.lt_of_lt_of_le h3 hb.size⟩
 have hg : Tryd.prog.globalNamed "internal/strconv.uint64pow10" = some 1 := by kernel_rfl
 unfold Lib.TabIs World.var? at *
 rw [hg] at h1 ⊢
 simp only [Option.bind_some] at h1 ⊢
 rw [hb.block _ h3]; exact h1
def nineN : List ByteArray := [⟨#[67, 111, 110, 110, 101, 99, 116, 105, 111, 110]⟩, ⟨#[75, 101, 101, 112, 45, 65, 108, 105, 118, 101]⟩, ⟨#[80, 114, 111, 120, 121, 45, 67, 111, 110, 110, 101, 99, 116, 105, 111, 110]⟩, ⟨#[84, 69]⟩, ⟨#[84, 114, 97, 105, 108, 101, 114]⟩, ⟨#[84, 114, 97, 110, 115, 102, 101, 114, 45, 69, 110, 99, 111, 100, 105, 110, 103]⟩, ⟨#[85, 112, 103, 114, 97, 100, 101]⟩, ⟨#[69, 120, 112, 101, 99, 116]⟩, ⟨#[67, 111, 110, 116, 101, 110, 116, 45, 76, 101, 110, 103, 116, 104]⟩]
def hostP : ByteArray := ⟨#[72, 111, 115, 116]⟩
def cookP : ByteArray := ⟨#[67, 111, 111, 107, 105, 101]⟩
def hostLo : ByteArray := ⟨#[104, 111, 115, 116]⟩
def cookN : ByteArray := ⟨#[99, 111, 111, 107, 105, 101]⟩
def viaP : ByteArray := ⟨#[86, 105, 97]⟩
def selfP : ByteArray := ⟨#[49, 46, 49, 32, 99, 97, 110, 97, 114, 121]⟩
def xffP : ByteArray := ⟨#[88, 45, 70, 111, 114, 119, 97, 114, 100, 101, 100, 45, 70, 111, 114]⟩
def sepP : ByteArray := ⟨#[44, 32]⟩
theorem low_host : lowS hostP = lowS hostLo := by decide +kernel
theorem low_cook : lowS cookP = lowS cookN := by decide +kernel
def protB (s : ByteArray) : Bool := foldS s hostLo || foldS s cookN
def namedL (x : List ByteArray) : List ByteArray := x.filter fun s => !protB s
def stripNs (l : List Fld) : List ByteArray := nineN ++ namedL (listL (valuesL l cnN))
def stripL (l : List Fld) : List Fld := withoutL l (stripNs l)
def tailB (l : List ByteArray) : List UInt8 := l.flatMap fun y => [44, 32] ++ y.data.toList
def joinB : List ByteArray → List UInt8
 | [] => []
 | x :: r => x.data.toList ++ tailB r
def joinS (l : List ByteArray) : ByteArray := ⟨(joinB l).toArray⟩
def extL (l : List Fld) (n last : ByteArray) : List Fld := withoutL l [n] ++ [(n, joinS (listL (valuesL l n) ++ [last]))]
def viaL (l : List Fld) : List Fld := extL l viaP selfP
def lenF (k : Int) : Fld := (⟨#[67, 111, 110, 116, 101, 110, 116, 45, 76, 101, 110, 103, 116, 104]⟩, fmtS 10 k)
def fwdL (l : List Fld) (fr : Bool) (k : Int) (peer : ByteArray) : List Fld := viaL (extL (stripL l) xffP peer) ++ (if fr then [lenF k] else [])
theorem foldS_right {a b x : ByteArray} (h : foldS a b = true) : foldS x a = foldS x b := by
 unfold foldS at *; rw [eq_of_beq h]
theorem inFoldL_right {a b : ByteArray} (ns : List ByteArray) (h : foldS a b = true) : inFoldL ns a = inFoldL ns b := by
 unfold inFoldL; congr 1; funext x; exact foldS_right h
theorem vals_app (a b : List Fld) (n : ByteArray) : valuesL (a ++ b) n = valuesL a n ++ valuesL b n := by
 unfold valuesL; rw [List.filter_append, List.map_append]
theorem valuesL_kept (l : List Fld) (ns : List ByteArray) (n : ByteArray) (h : inFoldL ns n = false) : valuesL (withoutL l ns) n = valuesL l n := by
 unfold valuesL withoutL
 rw [List.filter_filter]
 congr 1
 apply List.filter_congr
 intro f _
 by_cases hf : foldS f.1 n = true
 · rw [hf, inFoldL_right ns hf, h]; rfl
 · rw [Bool.not_eq_true] at hf; rw [hf]; rfl
theorem inFoldL_one (n m : ByteArray) : inFoldL [n] m = foldS n m := by unfold inFoldL; simp
theorem vals_one (n v m : ByteArray) : valuesL [(n, v)] m = if foldS n m then [v] else [] := by
 unfold valuesL; by_cases h : foldS n m = true <;> simp [h]
theorem foldS_cm (a b : ByteArray) : foldS a b = foldS b a := by unfold foldS; exact Bool.beq_comm
theorem valuesL_ext (l : List Fld) (n last m : ByteArray) (h : foldS n m = false) : valuesL (extL l n last) m = valuesL l m := by
 unfold extL
 rw [vals_app, valuesL_kept _ _ _ (by rw [inFoldL_one]; exact h), vals_one, h]; simp
theorem stripL_len (l : List Fld) : (stripL l).length ≤ l.length := withoutL_len _ _
theorem stripL_small {l : List Fld} (h : SmallF l) : SmallF (stripL l) := fun f hf => h f (List.mem_filter.1 hf).1
theorem extL_len (l : List Fld) (n last : ByteArray) : (extL l n last).length ≤ l.length + 1 := by
 unfold extL; rw [List.length_append]; have := withoutL_len l [n]; simp only [List.length_cons, List.length_nil]; omega
theorem tailB_len : ∀ l : List ByteArray, (tailB l).length ≤ 2 * total l
 | [] => Nat.le_refl _
 | x :: r => by
  have ih := tailB_len r
  unfold tailB at *
  rw [List.flatMap_cons, List.length_append]
  simp only [List.length_append, List.length_cons, List.length_nil, total]
  have : x.data.toList.length = x.size := by simp
  omega
theorem joinB_len (l : List ByteArray) : (joinB l).length ≤ 2 * total l := by
 cases l with
 | nil => exact Nat.zero_le _
 | cons x r =>
  have ih := tailB_len r
  unfold joinB
  rw [List.length_append]
  have : x.data.toList.length = x.size := by simp
  simp only [total]; omega
theorem joinS_size (l : List ByteArray) : (joinS l).size ≤ 2 * total l := by
 have := joinB_len l
 show (joinB l).toArray.size ≤ _
 rw [List.size_toArray]; exact this
theorem joinS_one (x : ByteArray) : joinS [x] = x := ba_ext (by unfold joinS joinB tailB; simp)
theorem extL_short {l : List Fld} {n last : ByteArray} (h : ShortF l) (hn : n.size ≤ maxLen) (ht : total (valuesL l n) ≤ 4000000000) (hl : last.size ≤ 4000000000) : ShortF (extL l n last) := by
 intro f hf
 rcases List.mem_append.1 hf with hf | hf
 · exact withoutL_short h _ f hf
 · obtain rfl := List.mem_singleton.1 hf
   refine ⟨hn, ?_⟩
   have h1 := joinS_size (listL (valuesL l n) ++ [last])
   rw [total_append] at h1
   have h2 := total_listL (valuesL l n)
   simp only [total] at h1
   show (joinS _).size ≤ maxLen
   unfold maxLen; omega
theorem ext_total {l : List Fld} {n last m : ByteArray} (h : foldS n m = false) (ht : total (valuesL l m) ≤ 4000000000) : total (valuesL (extL l n last) m) ≤ 4000000000 := by rw [valuesL_ext _ _ _ _ h]; exact ht
theorem xff_via : foldS xffP viaP = false := by decide +kernel
theorem nineN_short : ∀ x ∈ nineN, x.size ≤ maxLen := by
 have h : (nineN.all fun x => decide (x.size ≤ 100)) = true := by decide +kernel
 intro x hx
 have := of_decide_eq_true (List.all_eq_true.1 h x hx)
 unfold maxLen; omega
theorem named_yes (x : List ByteArray) (k : Nat) (h : k < x.length) (hp : protB x[k] = false) : namedL (x.take (k + 1)) = namedL (x.take k) ++ [x[k]] := by
 unfold namedL; rw [List.take_succ_eq_append_getElem h, List.filter_append]; simp [hp]
theorem named_no (x : List ByteArray) (k : Nat) (h : k < x.length) (hp : protB x[k] = true) : namedL (x.take (k + 1)) = namedL (x.take k) := by
 unfold namedL; rw [List.take_succ_eq_append_getElem h, List.filter_append]; simp [hp]
theorem namedL_len (x : List ByteArray) : (namedL x).length ≤ x.length := List.length_filter_le _ _
theorem prot_yes {s : ByteArray} (h : foldS s hostLo = true) : protB s = true := by unfold protB; rw [h]; rfl
theorem prot_second {s : ByteArray} (h : foldS s hostLo = false) : protB s = foldS s cookN := by unfold protB; rw [h]; rfl
theorem names_short {l : List Fld} (h : total (valuesL l cnN) ≤ 4000000000) : ∀ x ∈ nineN ++ namedL (listL (valuesL l cnN)), x.size ≤ maxLen := by
 intro x hx
 rcases List.mem_append.1 hx with hx | hx
 · exact nineN_short x hx
 · have := listL_small (List.mem_filter.1 hx).1
   unfold maxLen; omega
theorem stripNs_len {l : List Fld} (h : total (valuesL l cnN) ≤ 4000000000 - 9) : (stripNs l).length ≤ 4000000000 := by
 have h1 := namedL_len (listL (valuesL l cnN))
 have h2 := listL_length (valuesL l cnN)
 unfold stripNs; rw [List.length_append]; show 9 + _ ≤ _; omega
set_option maxHeartbeats 1000000 in
theorem isProtected_any (s : ByteArray) (w : World) (hs : s.size ≤ maxLen) :
  Calls Tryd.prog 33 #[.string s] w fun e w' => e = .returned (.bool (protB s)) ∧ Below w.heap.size w w' := by
 cases h1 : foldS s hostLo with
 | true =>
  have HP := Box.mk (prot_yes h1).symm
  have H1 := Box.mk (show foldS s hostP = true by rw [foldS_low low_host]; exact h1)
  clear h1
  go_enter Tryd.func33, Tryd.ntmps33
  go_wp2_with fail
  refine (fold_any s hostP _ hs (by decide)).mono ?_
  rintro e w1 ⟨he, hb⟩
  rw [H1.out] at he
  subst he
  have HB := Box.mk hb
  clear hb
  go_wp2_with fail
  go_ret
  exact ⟨ret_bool HP.out, HB.out⟩
 | false =>
  have HP := Box.mk (prot_second h1).symm
  have H1 := Box.mk (show foldS s hostP = false by rw [foldS_low low_host]; exact h1)
  clear h1
  go_enter Tryd.func33, Tryd.ntmps33
  go_wp2_with fail
  refine (fold_any s hostP _ hs (by decide)).mono ?_
  rintro e w1 ⟨he, hb⟩
  rw [H1.out] at he
  subst he
  have HB := Box.mk hb
  clear hb
  go_wp2_with fail
  refine (fold_any s cookP _ hs (by decide)).mono ?_
  rintro e w2 ⟨rfl, hb2⟩
  rw [foldS_low low_cook]
  have HB2 := Box.mk (below_trans HB.out hb2)
  clear hb2
  go_wp2_with fail
  go_ret
  exact ⟨ret_bool HP.out, HB2.out⟩
theorem acc_lits (w : World) (L : List ByteArray) (n : Nat) (h : L.length = n) (hn : n ≤ 1000) (h0 : 0 < n) (cs : Array Value) (hc : cs = (L.map Value.string).toArray) : Acc w (w.alloc (.cells cs 9)) (.slice (some ⟨w.heap.size, 0, none⟩) n n) L := by
 subst h
 refine ⟨⟨by rw [List.length_map, Nat.mul_one], .inr ⟨w.heap.size, L.length, cs, rfl, Nat.le_refl _, heap_alloc_new w (.cells cs 9), Nat.le_refl _, by unfold maxLen; omega, ?_, ?_⟩⟩, below_oneF w _⟩
 · rw [hc]; simp
 · rw [hc, Nat.mul_one]; show List.take _ _ = _; exact List.take_of_length_le (by rw [List.length_map]; exact Nat.le_refl _)
theorem fElements_lowA {n m : ByteArray} (e : lowS n = lowS m) (w : World) (mm : Int) (l : List Fld) (a : Option Addr) (cap : Nat) (h : FldsIn w a l) (hz : ShortF l) (hn : n.size ≤ maxLen) (hl : l.length ≤ 1000000) (hm : MaxOk w mm) (ht : total (valuesL l m) ≤ 4000000000) :
  Calls Tryd.prog 19 #[.slice a l.length cap, .string n] w (RetAcc w (listL (valuesL l m))) := by
 rw [← valuesL_low l e] at ht ⊢
 exact fElements_acc w mm l n a cap h hz hn hl hm ht
theorem acc_beside {w w1 : World} {v : Value} {x : List ByteArray} {B : Nat} (h : Acc w w1 v x) (hB : B < w.heap.size) {u : Value} (hu : u.ownBlock = some B) :
  ∃ a c P, v = .slice a x.length c ∧ StrsAt w1 a x ∧ (x ≠ [] → a = some ⟨P, 0, none⟩ ∧ Aside w1 u P x) := by
 by_cases hx : x = []
 · obtain ⟨a, c, rfl, hs⟩ := h.shape
   exact ⟨a, c, 0, rfl, hs, fun e => absurd hx e⟩
 · obtain ⟨g, c, rfl, h1, h2, h3⟩ := h.isNew hx
   exact ⟨_, c, g, rfl, h3, fun _ => ⟨rfl, h3, (by rw [hu]; intro e; have := Option.some.inj e; omega), h2⟩⟩
set_option maxRecDepth 100000 in
set_option maxHeartbeats 2000000 in
theorem namesOfOneHop_any (l : List Fld) (a : Option Addr) (cap : Nat) (w : World) (mm : Int) (h : FldsIn w a l) (hz : ShortF l) (hl : l.length ≤ 1000000) (hm : MaxOk w mm) (ht : total (valuesL l cnN) ≤ 4000000000) :
  Calls Tryd.prog 22 #[.slice a l.length cap] w (RetStrs w (stripNs l)) := by
 have HA0 := Box.mk (acc_lits w nineN 9 rfl (by decide) (by decide) _ rfl)
 have HF0 := Box.mk (h.keep HA0.out.2)
 have HM0 := Box.mk (hm.keep HA0.out.2)
 clear h hm
 obtain ⟨x, HX⟩ : ∃ x, Box (listL (valuesL l cnN) = x) := ⟨_, ⟨rfl⟩⟩
 have HXL := Box.mk (show ∀ y ∈ x, y.size ≤ maxLen by
  intro y hy; rw [← HX.out] at hy; have := listL_small hy; unfold maxLen; omega)
 have hxl : x.length ≤ 4000000000 := by rw [← HX.out]; have := listL_length (valuesL l cnN); omega
 go_enter Tryd.func22, Tryd.ntmps22
 go_wp2_with fail
 change Calls _ _ _ (w.alloc (.cells (nineN.map Value.string).toArray 9)) _
 obtain ⟨W, hW⟩ : ∃ W, W = w.alloc (.cells (nineN.map Value.string).toArray 9) := ⟨_, rfl⟩
 rw [← hW] at HA0 HF0 HM0 ⊢
 have HLT := Box.mk (show w.heap.size < W.heap.size by rw [hW, World.size_alloc]; exact Nat.lt_succ_self _)
 clear hW
 refine (fElements_lowA low_cn W mm l a cap HF0.out hz (by decide) hl HM0.out ht).mono ?_
 rintro e w1 ⟨v1, rfl, hv1⟩
 rw [HX.out] at hv1
 have HA1 := Box.mk (show Acc w w1 (.slice (some ⟨w.heap.size, 0, none⟩) 9 9) (nineN ++ namedL (x.take 0)) from HA0.out.keep hv1.2)
 obtain ⟨a1, c1, P, rfl, _, hP⟩ := acc_beside hv1 HLT.out (u := .slice (some ⟨w.heap.size, 0, none⟩) 9 9) rfl
 have HP1 := Box.mk hP
 clear hv1 hP HA0 HF0 HM0 HLT
 go_wp2_with fail
 go_loopw [3, 10] (fun v iv wr => ∃ k : Nat, k ≤ x.length ∧ iv = .int .i64 k ∧ Box (Acc w wr v (nineN ++ namedL (x.take k)) ∧ (x ≠ [] → Aside wr v P x))) (fun _ iv _ => x.length - (intOf iv).toNat)
 case atStart => exact ⟨0, Nat.zero_le _, rfl, ⟨HA1.out, fun e => (HP1.out e).2⟩⟩
 case round =>
  clear HA1
  obtain ⟨k, hk, rfl, HM⟩ := hrel
  have hnl := namedL_len (x.take k)
  have hnl2 : (x.take k).length ≤ k := List.length_take_le _ _
  have hnn : (nineN ++ namedL (x.take k)).length ≤ 4000000009 := by rw [List.length_append]; show 9 + _ ≤ _; omega
  by_cases hlt : k < x.length
  · have hne : x ≠ [] := fun e => by rw [e] at hlt; exact absurd hlt (Nat.not_lt_zero _)
    obtain ⟨rfl, _⟩ := HP1.out hne
    have HASD := Box.mk (HM.out.2 hne)
    obtain ⟨b, off, hbe, hc⟩ := HASD.out.1 k hlt
    have hbe2 := Option.some.inj hbe
    injection hbe2 with e1 e2
    subst e1 e2
    rw [Nat.zero_add] at hc
    clear hbe hne
    have HSZ := Box.mk (HXL.out _ (List.getElem_mem hlt))
    by_cases hp : protB x[k] = true
    · have HT := Box.mk (named_no x k hlt hp)
      have HP := Box.mk hp
      clear hp
      generalize x[k] = f at *
      go_wp2_with fail
      refine (isProtected_any f _ HSZ.out).mono ?_
      rintro e w2 ⟨he, hb⟩
      rw [HP.out] at he
      subst he
      have HM2 := Box.mk (show Acc w w2 _ (nineN ++ namedL (x.take (k + 1))) ∧ (x ≠ [] → Aside w2 _ P x) by rw [HT.out]; exact ⟨HM.out.1.keep hb, fun _ => HASD.out.keep hb⟩)
      clear hb HM HT HP hc hnl hnl2 hnn
      go_wp2_with fail
      go_roundw
      case rel => exact ⟨k + 1, by omega, by go_num, HM2⟩
      case measure => simp [intOf]; omega
    · have hp' : protB x[k] = false := by simpa using hp
      have HT := Box.mk (named_yes x k hlt hp')
      have HP := Box.mk hp'
      clear hp hp'
      generalize x[k] = f at *
      obtain ⟨y, hy⟩ : ∃ y, y = nineN ++ namedL (x.take k) := ⟨_, rfl⟩
      have HY := Box.mk (show nineN ++ namedL (x.take (k + 1)) = y ++ [f] by rw [HT.out, hy, List.append_assoc])
      rw [← hy] at HM hnn
      clear hy HT
      go_wp2_with fail
      refine (isProtected_any f _ HSZ.out).mono ?_
      rintro e w2 ⟨he, hb⟩
      rw [HP.out] at he
      subst he
      have HM2 := Box.mk (And.intro (HM.out.1.keep hb) (HASD.out.keep hb))
      clear hb HM HP hc hnl hnl2
      go_wp2_with (at_builtin; refine wpList_append_acc _ rfl _ _ rfl rfl (HM2.out.1.keep ((Below.refl _ _).alloc (Nat.le_refl _) _)) rfl (y := f) ?c1 ?c2 ?c3)
      case c1 => simp
      case c2 => omega
      case c3 =>
       intro g cap' w' hacc has
       have HACC := Box.mk (show Acc w w' (.slice (some ⟨g, 0, none⟩) (y.length + 1) cap') (nineN ++ namedL (x.take (k + 1))) ∧ (x ≠ [] → Aside w' (.slice (some ⟨g, 0, none⟩) (y.length + 1) cap') P x) by
        rw [HY.out]; exact ⟨hacc, fun _ => has _ _ (HM2.out.2.keep (below_oneF _ _))⟩)
       clear hacc has HM2 HY HASD
       go_wp2_with fail
       go_roundw
       case rel => exact ⟨k + 1, by omega, by go_num, HACC⟩
       case measure => simp [intOf]; omega
  · have HE := Box.mk (show Acc w wr _ (stripNs l) by
     have h1 := HM.out.1
     rw [List.take_of_length_le (by omega), ← HX.out] at h1; exact h1)
    clear HM
    go_wp2_with fail
    obtain ⟨a', cap', rfl, hs⟩ := HE.out.shape
    go_ret
    exact ⟨a', cap', rfl, hs, HE.out.2⟩
set_option maxHeartbeats 1000000 in
theorem hStrip_any (l : List Fld) (a : Option Addr) (cap : Nat) (w : World) (mm : Int) (h : FldsIn w a l) (hz : ShortF l) (hl : l.length ≤ 1000000) (hm : MaxOk w mm) (ht : total (valuesL l cnN) ≤ 3000000000) :
  Calls Tryd.prog 13 #[.slice a l.length cap] w (RetAccF w (stripL l)) := by
 have H0 := Box.mk h
 have hnl := stripNs_len (l := l) (by omega)
 have HN := Box.mk (names_short (l := l) (by omega))
 clear h
 go_enter Tryd.func13, Tryd.ntmps13
 go_wp2_with fail
 refine (namesOfOneHop_any l a cap _ mm H0.out hz hl hm (by omega)).mono ?_
 rintro e w1 ⟨a1, c1, rfl, hs1, hb1⟩
 have HS1 := Box.mk (StrsIn.of_at hs1)
 have HB1 := Box.mk hb1
 have HF1 := Box.mk (H0.out.keep hb1)
 clear hs1 hb1 H0
 go_wp2_with fail
 refine (fWithout_acc l (stripNs l) a a1 cap c1 w1 HF1.out hz HS1.out HN.out hl hnl).mono ?_
 rintro e w2 ⟨v2, rfl, hv2⟩
 have HV := Box.mk (AccF.lift HB1.out hv2)
 clear hv2
 go_wp2_with fail
 go_ret
 exact ⟨v2, rfl, HV.out⟩
theorem joinX : Builder.Extra Tryd.prog Tryd.lays156_ren where -- 21
 sizeBuilder := by kernel_rfl
 liesBuilder := by kernel_rfl
 t5 := Tryd.underlying5
 a5 := Tryd.isAgg5
 z5 := Tryd.sizeOf5
 v5 := Tryd.zeroValue5
 infoByte := Tryd.info5
 cellsByte := by kernel_rfl
 sizeByte := by kernel_rfl
 neB5 := by decide
theorem tailB_lib : ∀ l : List ByteArray, Lib.joinTail [44, 32] (l.map (·.data.toList)) = tailB l
 | [] => rfl
 | x :: r => by
  have ih := tailB_lib r
  unfold Lib.joinTail tailB at *
  rw [List.map_cons, List.map_cons, List.flatten_cons, List.flatMap_cons, ih]
theorem joinB_lib (l : List ByteArray) : Lib.join (l.map (·.data.toList)) [44, 32] = joinB l := by
 cases l with
 | nil => rfl
 | cons x r => rw [List.map_cons, Lib.join_cons, tailB_lib]; rfl
theorem Acc.lies {w0 w : World} {v : Value} {l : List ByteArray} (h : Acc w0 w v l) (hne : l ≠ []) : ∃ g cap, v = .slice (some ⟨g, 0, none⟩) l.length cap ∧ l.length ≤ cap ∧ g < w.heap.size ∧ StrsAt w (some ⟨g, 0, none⟩) l := by
 obtain ⟨g, cap, hv, _, hlt, hs⟩ := h.isNew hne
 have hpos : 0 < l.length := by cases l with
  | nil => exact absurd rfl hne
  | cons _ _ => simp
 obtain ⟨⟨h1, h2⟩, _⟩ := h
 rcases h2 with ⟨_, h2⟩ | ⟨g', cap', cur, hv', _, _, hcap, _⟩
 · omega
 · rw [hv] at hv'; cases hv'
   exact ⟨g, cap, hv, hcap, hlt, hs⟩
theorem sJoin_any (l : List ByteArray) (g cap : Nat) (w : World) (h : StrsAt w (some ⟨g, 0, none⟩) l) (hg : g < w.heap.size) (hc : l.length ≤ cap) (ht : total l ≤ 70000000000000) :
  Calls Tryd.prog 21 #[.slice (some ⟨g, 0, none⟩) l.length cap, .string sepP] w fun e w' => e = .returned (.string (joinS l)) ∧ Below w.heap.size w w' := by
 have hl := total_len l
 have hj := joinB_len l
 refine (Any.strings_Join Tryd.lays156 joinX g 0 cap l sepP w ?_ hg (by omega) hc ?_).mono ?_
 · intro j x hx
   obtain ⟨hj, rfl⟩ := List.getElem?_eq_some_iff.1 hx
   obtain ⟨b, off, e, hc⟩ := h j hj
   have e2 := Option.some.inj e
   injection e2 with e3 e4
   subst e3 e4
   exact hc
 · show (Lib.join (l.map (·.data.toList)) [44, 32]).length ≤ _
   rw [joinB_lib]; omega
 · rintro e w' ⟨he, hb⟩
   refine ⟨he.trans ?_, hb⟩
   show Ending.returned (.string ⟨(Lib.join (l.map (·.data.toList)) [44, 32]).toArray⟩) = _
   rw [joinB_lib]; rfl
theorem sJoin_len (l : List ByteArray) (k g cap : Nat) (w : World) (hk : l.length = k) (h : StrsAt w (some ⟨g, 0, none⟩) l) (hg : g < w.heap.size) (hc : k ≤ cap) (ht : total l ≤ 70000000000000) :
  Calls Tryd.prog 21 #[.slice (some ⟨g, 0, none⟩) k cap, .string sepP] w fun e w' => e = .returned (.string (joinS l)) ∧ Below w.heap.size w w' := by
 subst hk; exact sJoin_any l g cap w h hg hc ht
theorem total_snoc (x : List ByteArray) (y : ByteArray) : total (x ++ [y]) = total x + y.size + 1 := by rw [total_append]; simp [total]; omega
set_option maxRecDepth 100000 in
set_option maxHeartbeats 2000000 in
theorem hExt_any (l : List Fld) (n last : ByteArray) (a : Option Addr) (cap : Nat) (w : World) (mm : Int) (h : FldsIn w a l) (hz : ShortF l) (hn : n.size ≤ maxLen) (hl : l.length ≤ 900000) (hm : MaxOk w mm) (ht : total (valuesL l n) ≤ 4000000000) (hs : last.size ≤ 4000000000) :
  Calls Tryd.prog 12 #[.slice a l.length cap, .string n, .string last] w (RetAccF w (extL l n last)) := by
 have H0 := Box.mk h
 have HM := Box.mk hm
 have HNZ := Box.mk hn
 clear h hm hn
 obtain ⟨x, HX⟩ : ∃ x, Box (listL (valuesL l n) = x) := ⟨_, ⟨rfl⟩⟩
 have hxl : x.length ≤ 4000000000 := by rw [← HX.out]; have := listL_length (valuesL l n); omega
 have HXT := Box.mk (show total (x ++ [last]) ≤ 70000000000000 by
  rw [total_snoc, ← HX.out]; have := total_listL (valuesL l n); omega)
 go_enter Tryd.func12, Tryd.ntmps12
 go_wp2_with fail
 refine (fElements_acc w mm l n a cap H0.out hz HNZ.out (by omega) HM.out ht).mono ?_
 rintro e w1 ⟨v1, rfl, hv1⟩
 rw [HX.out] at hv1
 have HA1 := Box.mk hv1
 clear hv1
 go_wp2_with (at_builtin; refine wpList_append_acc _ rfl _ _ rfl rfl (HA1.out.keep ((Below.refl _ _).alloc (Nat.le_refl _) _)) rfl (y := last) ?c1 ?c2 ?c3)
 case c1 => simp
 case c2 => omega
 case c3 =>
  intro g cap' w' hacc has
  have HA2 := Box.mk hacc
  clear hacc has HA1
  obtain ⟨y, HY⟩ : ∃ y, Box (y = x ++ [last]) := ⟨_, ⟨rfl⟩⟩
  rw [← HY.out] at HA2 HXT
  have HYL := Box.mk (show y.length = x.length + 1 by rw [HY.out, List.length_append]; rfl)
  have hyne : y ≠ [] := by rw [HY.out]; simp
  obtain ⟨g2, c2, hv2, hcap, hlt2, hs2⟩ := HA2.out.lies hyne
  injection hv2 with e1 e2 e3
  have e1 := Option.some.inj e1
  injection e1 with e1
  subst e1 e3
  have HJ := Box.mk (And.intro hlt2 (And.intro (show x.length + 1 ≤ cap' by rw [← HYL.out]; exact hcap) hs2))
  have HB2 := Box.mk HA2.out.2
  clear hyne hcap hlt2 hs2 e2 HA2
  go_wp2_with fail
  have hbs := below_oneF w' (.cells #[.string n] 9)
  refine (fWithout_acc l [n] a _ cap 1 _ (H0.out.keep (below_trans HB2.out hbs)) hz (strsIn_one w' n _) (by intro z hz; obtain rfl := List.mem_singleton.1 hz; exact HNZ.out) (by omega) (by show 1 ≤ 4000000000; decide)).mono ?_
  rintro e w3 ⟨v3, rfl, hv3⟩
  have HA3 := Box.mk (AccF.lift hbs hv3)
  clear hv3 hbs
  go_wp2_with fail
  refine (sJoin_len y (x.length + 1) g cap' w3 HYL.out (HJ.out.2.2.keep HA3.out.2) (Nat.lt_of_lt_of_le HJ.out.1 HA3.out.2.size) HJ.out.2.1 HXT.out).mono ?_
  rintro e w4 ⟨rfl, hb4⟩
  obtain ⟨s, HS⟩ : ∃ s, Box (joinS y = s) := ⟨_, ⟨rfl⟩⟩
  rw [HS.out]
  obtain ⟨a3, c3, rfl, hs3⟩ := HA3.out.shapeC
  have HF3 := Box.mk (hs3.keep hb4)
  have HB4 := Box.mk (below_trans HB2.out (below_trans HA3.out.2 hb4))
  have hz3 := withoutL_len l [n]
  clear hs3 hb4 HA3 HJ
  go_wp2_with fail
  have hbf := below_oneF w4 (.cells #[.string n, .string s] 31)
  refine (fWith_acc (withoutL l [n]) [(n, s)] a3 _ c3 1 _ (HF3.out.keep hbf) ⟨fldsIn_one w4 n s, fun e => by cases e⟩ (by omega) (by show 1 ≤ 1000000; decide)).mono ?_
  rintro e w5 ⟨v5, rfl, hv5⟩
  have HE := Box.mk (show AccF w w5 v5 (extL l n last) by
   unfold extL
   rw [HX.out, ← HY.out, HS.out]
   exact AccF.lift (below_trans HB4.out hbf) hv5)
  clear hv5 hbf
  go_wp2_with fail
  go_ret
  exact ⟨v5, rfl, HE.out⟩
set_option maxHeartbeats 1000000 in
theorem hVia_any (l : List Fld) (a : Option Addr) (cap : Nat) (w : World) (mm : Int) (h : FldsIn w a l) (hz : ShortF l) (hl : l.length ≤ 900000) (hm : MaxOk w mm) (ht : total (valuesL l viaP) ≤ 4000000000) :
  Calls Tryd.prog 11 #[.slice a l.length cap] w (RetAccF w (viaL l)) := by
 have H0 := Box.mk h
 have HM := Box.mk hm
 clear h hm
 go_enter Tryd.func11, Tryd.ntmps11
 go_wp2_with fail
 refine (hExt_any l viaP selfP a cap w mm H0.out hz (by decide) hl HM.out ht (by decide)).mono ?_
 rintro e w1 ⟨v1, rfl, hv1⟩
 have HV := Box.mk (show AccF w w1 v1 (viaL l) from hv1)
 clear hv1
 go_wp2_with fail
 go_ret
 exact ⟨v1, rfl, HV.out⟩
theorem AccB.freshB {w0 w : World} {v : Value} {l : List UInt8} (h : AccB w0 w v l) : ∃ a cap, v = .slice a l.length cap ∧ IsBytes w a l cap ∧ ∀ y, a = some y → w0.heap.size ≤ y.block := by
 obtain ⟨a, cap, e, hs⟩ := h.shape
 refine ⟨a, cap, e, hs, fun y ha => ?_⟩
 subst ha
 obtain ⟨⟨h1, h2⟩, _⟩ := h
 rcases h2 with ⟨rfl, h2⟩ | ⟨g, cap', cur, rfl, hg, _⟩
 · cases e
 · injection e with e1
   obtain rfl := Option.some.inj e1
   exact hg
set_option maxRecDepth 100000 in
set_option maxHeartbeats 1000000 in
theorem cloneB_new (l : List UInt8) (a : Option Addr) (c : Nat) (w : World) (h : IsBytes w a l c) (hl : l.length ≤ 4000000000) :
  Calls Tryd.prog 17 #[.slice a l.length c] w fun e w' => ∃ a' c', e = .returned (.slice a' l.length c') ∧ IsBytes w' a' l c' ∧ (∀ y, a' = some y → w.heap.size ≤ y.block) ∧ Below w.heap.size w w' := by
 rcases h with ⟨rfl, rfl, rfl⟩ | ⟨ad, rfl, hr1, hr2, hr3⟩
 · have hnil : ∀ W, (binOp .eql 32 (.slice none 0 0) (.slice none 0 0)).run Tryd.prog W = .ok (.bool true) W := fun W => run_eql_slice_nil W _ _ none 0 0 Tryd.underlying32
   simp only [List.length_nil]
   go_enter Tryd.func17, Tryd.ntmps17
   go_wp2_with fail
   go_ret
   exact ⟨none, 0, rfl, .inl ⟨rfl, rfl, rfl⟩, (fun y e => by cases e), Below.refl _ _⟩
 · have H0 := Box.mk (show IsBytes w (some ad) l c from .inr ⟨ad, rfl, hr1, hr2, hr3⟩)
   clear hr1 hr2 hr3
   have HE := Box.mk (AccB.empty w)
   have hnil : ∀ W, (binOp .eql 32 (.slice (some ad) l.length c) (.slice none 0 0)).run Tryd.prog W = .ok (.bool false) W := fun W => run_eql_slice_nil W _ _ (some ad) l.length c Tryd.underlying32
   go_enter Tryd.func17, Tryd.ntmps17
   go_wp2_with (at_builtin; refine wpList_append_accs _ rfl _ _ rfl rfl HE.out rfl (H0.out.keep (below_oneF _ _)) (by simp; omega) ?c1)
   case c1 =>
    intro v1 w1 hacc
    have H1 := Box.mk hacc
    clear hacc
    go_wp2_with fail
    go_ret
    obtain ⟨a2, c2, e2, h2, h3⟩ := H1.out.freshB
    exact ⟨a2, c2, by rw [e2]; rfl, h2, h3, H1.out.2⟩
theorem same_true (x : List Fld) (a b : Option Addr) (ca cb : Nat) (w : World) (hx : FldsIn w a x) (hy : FldsIn w b x) (h : x.length ≤ 2000000) :
  Calls Tryd.prog 8 #[.slice a x.length ca, .slice b x.length cb] w fun e w' => e = .returned (.bool true) ∧ Below w.heap.size w w' := by
 refine (sameFields_any x x a b ca cb w hx hy h h).mono ?_
 rintro e w' ⟨rfl, hb⟩
 exact ⟨by rw [sameF_self], hb⟩
end Go.Proofs.YtfghgenboahkkaaDoor
namespace Go.Proofs.YtfghgenboahkkaaDoor
open Go.ChangeShapes Go.WideShapes Go.ChangeAt Go.RowKit
theorem i64_ofF {x : Int} (h : (Lit.int .i64 x).wf = true) : -9223372036854775808 ≤ x ∧ x ≤ 9223372036854775807 := bounds_i64 h
theorem open_intsf {H : Type} {enc : TypeId × Value → H} {W : World} {a : Option Addr} {len cap : Nat} {d : DataW H} {ps : List MemPlace} {base : Nat}
  (h : DataW.Trod enc Tryd.prog W base (fun _ => true) true 22 (.slice a len cap) d ps) : IntsF W a len ∧ len ≤ maxLen := by
 obtain ⟨fuel, hf⟩ := h
 rcases open_ints Tryd.underlying22 Tryd.underlying3 (by kernel_rfl) hf with ⟨hcs, _⟩ | ⟨x, l, c, zs, hcs, _, hl, hm, hz, _, hcell, hwz⟩
 · simp [Value.cells] at hcs
   obtain ⟨rfl, rfl, rfl⟩ := hcs
   exact ⟨fun k hk => absurd hk (Nat.not_lt_zero _), Nat.zero_le _⟩
 · simp [Value.cells] at hcs
   obtain ⟨rfl, rfl, rfl⟩ := hcs
   have hz' : zs.length = cap := by simpa using hz
   refine ⟨fun k hk => ?_, Nat.le_trans hl hm⟩
   have hk' : k < zs.length := by omega
   have e : zs.getD k 0 = zs[k] := by rw [List.getD_eq_getElem?_getD, List.getElem?_eq_getElem hk']; rfl
   refine ⟨x, zs[k], rfl, by rw [hcell k hk', e], i64_ofF (hwz zs[k] (List.getElem_mem _))⟩
end Go.Proofs.YtfghgenboahkkaaDoor
namespace Go.Proofs.YtfghgenboahkkaaDoor
open Go.RowKit
section
variable {Q : Exit → Act → World → Prop} {a : Act} {w : World} {o : Oper} {s : Spec}
theorem loc_cell {x : Operand} {t : TypeId} (ho : o.op = .load t x) {p : Addr} (hx : a.eval x = .pointer (some p)) {v : Value} (hc : w.cell? p = some v) (ht : (isAgg t).run Tryd.prog w = .ok false w) (hs : s.p v w) :
  o.wp Tryd.prog a w (fun a' w' => ∃ v, a' = a.put o.dst v ∧ Below w.heap.size w w' ∧ s.p v w') Q :=
 loc_load ho (v := v) (by
  rw [hx]
  simp [Instr.loadAt, Instr.sureAddr, loadVar, hc, ht]) hs
theorem run_fieldR (W : World) (g i : Nat) (h : i < 6) : (Instr.fieldAt 34 (.pointer (some ⟨g, 0, none⟩)) i).run Tryd.prog W = .ok (.pointer (some ⟨g, i, none⟩)) W := by
 match i, h with
 | 0, _ => simp [Instr.fieldAt, run_underlying Tryd.underlying34, Instr.sureAddr, fieldPlace, Addr.add]
 | 1, _ => simp [Instr.fieldAt, run_underlying Tryd.underlying34, Instr.sureAddr, fieldPlace, Addr.add]
 | 2, _ => simp [Instr.fieldAt, run_underlying Tryd.underlying34, Instr.sureAddr, fieldPlace, Addr.add]
 | 3, _ => simp [Instr.fieldAt, run_underlying Tryd.underlying34, Instr.sureAddr, fieldPlace, Addr.add]
 | 4, _ => simp [Instr.fieldAt, run_underlying Tryd.underlying34, Instr.sureAddr, fieldPlace, Addr.add]
 | 5, _ => simp [Instr.fieldAt, run_underlying Tryd.underlying34, Instr.sureAddr, fieldPlace, Addr.add]
theorem loc_fieldR {x : Operand} {i : Nat} (ho : o.op = .fieldAddr 34 x i) {g : Nat} (hx : a.eval x = .pointer (some ⟨g, 0, none⟩)) (hi : i < 6) (hs : s.p (.pointer (some ⟨g, i, none⟩)) w) :
  o.wp Tryd.prog a w (fun a' w' => ∃ v, a' = a.put o.dst v ∧ Below w.heap.size w w' ∧ s.p v w') Q :=
 loc_run (v := .pointer (some ⟨g, i, none⟩)) (by unfold execOp; rw [ho]; simp only [hx, Sem.run_bind, run_fieldR _ _ _ hi, Result.andThen_ok, Sem.run_pure]) (Below.refl _ _) hs
end
end Go.Proofs.YtfghgenboahkkaaDoor
namespace Go.Proofs.YtfghgenboahkkaaDoor
open Go.RowKit
theorem cell_same {w w' : World} {p : Addr} (h : w'.heap[p.block]? = w.heap[p.block]?) : w'.cell? p = w.cell? p := by
 unfold World.cell?
 rw [h]
theorem add_block (x : Addr) (j : Nat) : (x.add j).block = x.block := by unfold Addr.add; split <;> rfl
theorem IsBytes.same {w w' : World} {a : Option Addr} {l : List UInt8} {c : Nat} (h : IsBytes w a l c) (hs : ∀ x, a = some x → l ≠ [] → w'.heap[x.block]? = w.heap[x.block]?) : IsBytes w' a l c := by
 rcases h with h | ⟨x, h1, h2, h3, h4⟩
 · exact .inl h
 · refine .inr ⟨x, h1, h2, h3, fun j hj => ?_⟩
   have e : w'.heap[(x.add j).block]? = w.heap[(x.add j).block]? := by
    rw [add_block]
    exact hs x h1 (fun e => by rw [e] at hj; exact absurd hj (Nat.not_lt_zero _))
   rw [cell_same e]
   exact h4 j hj
section
variable {ops : Array Oper} {rest : List Oper} {o : Oper} {act : Act} {Q : Exit → Act → World → Prop}
end
end Go.Proofs.YtfghgenboahkkaaDoor
namespace Go.Proofs.YtfghgenboahkkaaDoor
open Go.RowKit
section
variable {Q : Exit → Act → World → Prop} {a : Act} {w : World} {o : Oper} {s : Spec}
theorem run_fieldA (W : World) (g i : Nat) (h : i < 5) : (Instr.fieldAt 37 (.pointer (some ⟨g, 0, none⟩)) i).run Tryd.prog W = .ok (.pointer (some ⟨g, i, none⟩)) W := by
 match i, h with
 | 0, _ => simp [Instr.fieldAt, run_underlying Tryd.underlying37, Instr.sureAddr, fieldPlace, Addr.add]
 | 1, _ => simp [Instr.fieldAt, run_underlying Tryd.underlying37, Instr.sureAddr, fieldPlace, Addr.add]
 | 2, _ => simp [Instr.fieldAt, run_underlying Tryd.underlying37, Instr.sureAddr, fieldPlace, Addr.add]
 | 3, _ => simp [Instr.fieldAt, run_underlying Tryd.underlying37, Instr.sureAddr, fieldPlace, Addr.add]
 | 4, _ => simp [Instr.fieldAt, run_underlying Tryd.underlying37, Instr.sureAddr, fieldPlace, Addr.add]
theorem loc_fieldA {x : Operand} {i : Nat} (ho : o.op = .fieldAddr 37 x i) {g : Nat} (hx : a.eval x = .pointer (some ⟨g, 0, none⟩)) (hi : i < 5) (hs : s.p (.pointer (some ⟨g, i, none⟩)) w) :
  o.wp Tryd.prog a w (fun a' w' => ∃ v, a' = a.put o.dst v ∧ Below w.heap.size w w' ∧ s.p v w') Q :=
 loc_run (v := .pointer (some ⟨g, i, none⟩)) (by unfold execOp; rw [ho]; simp only [hx, Sem.run_bind, run_fieldA _ _ _ hi, Result.andThen_ok, Sem.run_pure]) (Below.refl _ _) hs
end
end Go.Proofs.YtfghgenboahkkaaDoor
namespace Go.Proofs.YtfghgenboahkkaaDoor
open Go.RowKit
theorem sizeA : (Tryd.prog.info? 37).map (·.size) = some 5 := by kernel_rfl
def RVar (w : World) (g : Nat) (m t : ByteArray) (z : Int) : Prop := w.heap[g]? = some (.cells #[.string m, .string t, .int .i64 z, .slice none 0 0, .bool false, .slice none 0 0] 34 (0, 0))
theorem RVar.keep {w w' : World} {g : Nat} {m t : ByteArray} {z : Int} (h : RVar w g m t z) (hb : Below w.heap.size w w') : RVar w' g m t z := by
 unfold RVar at *
 rw [hb.block g (Array.getElem?_eq_some_iff.1 h).1]; exact h
theorem sizeR : (Tryd.prog.info? 34).map (·.size) = some 6 := by kernel_rfl
section
variable {Q : Exit → Act → World → Prop} {a : Act} {w : World} {o : Oper} {s : Spec}
end
end Go.Proofs.YtfghgenboahkkaaDoor
namespace Go.Proofs.YtfghgenboahkkaaDoor
open Go.RowKit
theorem OwnF.mono {B B' : Nat} {w : World} {v : Value} {l : List Fld} (h : OwnF B w v l) (hb : B' ≤ B) : OwnF B' w v l := by
 obtain ⟨h1, h2⟩ := h
 refine ⟨h1, ?_⟩
 rcases h2 with h2 | ⟨g, cap, cur, hv, hg, hc, r⟩
 · exact .inl h2
 · exact .inr ⟨g, cap, cur, hv, Nat.le_trans hb hg, hc, r⟩
theorem ret_rowQ {P : Program} {fn : Func} {R : Ending → World → Prop} {a : Act} {w : World} {p : Tmp} {ty t : TypeId} {g : Nat} {cs : Array Value} {fr : Nat × Nat} {d : TypeDesc}
  (h : fn.results = #[.cell p ty]) (hd : a.defers = []) (hp : a.tmps.getD p undef = .pointer (some ⟨g, 0, none⟩)) (hg : w.heap[g]? = some (.cells cs t fr))
  (hu : P.underlying ty = some d) (hs : (match d with | .struct _ | .array _ _ => true | _ => false) = true) (hi : (P.info? ty).map (·.size) = some cs.size) (hR : R (.returned (.agg cs)) w) : bodyPost P fn R .ret a w :=
 bodyPost_ret (results_cell_row h _ _ g t cs fr d hp hg hu hs hi) hd hR
def RetFwd (w : World) (m t : ByteArray) (fr : Bool) (bl : List UInt8) (F : List Fld) (e : Ending) (w' : World) : Prop :=
 ∃ v b c, e = .returned (.agg #[.string m, .string t, .int .i64 1, v, .bool fr, .slice b bl.length c]) ∧ OwnF w.heap.size w' v F ∧ IsBytes w' b bl c ∧ Below w.heap.size w w'
def Spec.fwd (B : Nat) (m t : ByteArray) (vF : Value) (fr : Bool) (bl : List UInt8) : Spec :=
 ⟨fun v w => ∃ b c, v = .agg #[.string m, .string t, .int .i64 1, vF, .bool fr, .slice b bl.length c] ∧ IsBytes w b bl c ∧ ∀ y, b = some y → B ≤ y.block, fun v w w' h hb => by
  obtain ⟨b, c, h1, h2, h3⟩ := h
  exact ⟨b, c, h1, h2.keep hb, h3⟩⟩
def Spec.clone (B : Nat) (bl : List UInt8) : Spec :=
 ⟨fun v w => ∃ b c, v = .slice b bl.length c ∧ IsBytes w b bl c ∧ ∀ y, b = some y → B ≤ y.block, fun v w w' h hb => by
  obtain ⟨b, c, h1, h2, h3⟩ := h
  exact ⟨b, c, h1, h2.keep hb, h3⟩⟩
section
variable {Q : Exit → Act → World → Prop} {act : Act} {w : World} {o : Oper} {s : Spec}
theorem loc_buildR6 {x y z f b : Operand} (ho : o.op = .build 34 #[(0, x), (1, y), (2, .const (.int .i64 1)), (3, z), (4, f), (5, b)]) {m t : ByteArray} {fa ba : Option Addr} {fn fc bn bc : Nat} {fr : Bool} (hx : act.eval x = .string m) (hy : act.eval y = .string t) (hz : act.eval z = .slice fa fn fc) (hf : act.eval f = .bool fr) (hb : act.eval b = .slice ba bn bc)
  (hs : s.p (.agg #[.string m, .string t, .int .i64 1, .slice fa fn fc, .bool fr, .slice ba bn bc]) w) :
  o.wp Tryd.prog act w (fun a' w' => ∃ v, a' = act.put o.dst v ∧ Below w.heap.size w w' ∧ s.p v w') Q := by
 refine loc_run (v := .agg #[.string m, .string t, .int .i64 1, .slice fa fn fc, .bool fr, .slice ba bn bc]) ?_ (Below.refl _ _) hs
 have hbb := run_build (P := Tryd.prog) w 34 #[(0, .string m), (1, .string t), (2, .int .i64 1), (3, .slice fa fn fc), (4, .bool fr), (5, .slice ba bn bc)] #[.string m, .string t, .int .i64 1, .slice fa fn fc, .bool fr, .slice ba bn bc] (by kernel_rfl)
 unfold execOp
 simp only [ho, List.map_toArray, List.map_cons, List.map_nil, hx, hy, hz, hf, hb, show act.eval (.const (.int .i64 1)) = .int .i64 1 from rfl, Sem.run_bind, hbb, Result.andThen_ok, Sem.run_pure]
end
theorem oneR6 (m t : ByteArray) (fr : Bool) (fa ba : Option Addr) (fn fc bn bc : Nat) : (#[.string m, .string t, .int .i64 1, .slice fa fn fc, .bool fr, .slice ba bn bc] : Array Value).all (·.oneCell') = true := by simp [Value.oneCell']
theorem AccF.own {w0 w : World} {v : Value} {l : List Fld} (h : AccF w0 w v l) : OwnF w0.heap.size w v l := h.1
theorem small_total {l : List Fld} (h : SmallF l) (hl : l.length ≤ 1000) (n : ByteArray) : total (valuesL l n) ≤ 2000000000 := Nat.le_trans (total_values h n) (Nat.le_trans (Nat.mul_le_mul_right _ hl) (by decide))
theorem lengthField_any (s : ByteArray) (w : World) : Calls Tryd.prog 15 #[.string s] w fun e w' => e = .returned (.agg #[.string ⟨#[67, 111, 110, 116, 101, 110, 116, 45, 76, 101, 110, 103, 116, 104]⟩, .string s]) ∧ Below w.heap.size w w' := by
 go_enter Tryd.func15, Tryd.ntmps15
 go_wp2_with fail
 exact ret_rowQ rfl rfl rfl (heap_alloc_new _ _) Tryd.underlying31 rfl (by kernel_rfl) ⟨rfl, below_oneF _ _⟩
set_option maxRecDepth 100000 in
set_option maxHeartbeats 4000000 in
theorem hForward_any (m t peer : ByteArray) (z : Int) (l : List Fld) (a : Option Addr) (cap : Nat) (fr : Bool) (bl : List UInt8) (ba : Option Addr) (bc : Nat) (w : World) (mm : Int) (h : FldsIn w a l) (hz : SmallF l) (hl : l.length ≤ 1000) (hp : peer.size ≤ 4000000000) (hm : MaxOk w mm) (ht : Tabs w) (hb : IsBytes w ba bl bc) (hbl : bl.length ≤ 4000000000) :
  Calls Tryd.prog 6 #[.agg #[.string m, .string t, .int .i64 z, .slice a l.length cap, .bool fr, .slice ba bl.length bc], .string peer] w (RetFwd w m t fr bl (fwdL l fr (bl.length : Int) peer)) := by
 obtain ⟨W2, hW2⟩ : ∃ W2, W2 = (w.alloc (.cells #[.string m, .string t, .int .i64 z, .slice a l.length cap, .bool fr, .slice ba bl.length bc] 34)).alloc (.cells #[.string ⟨#[]⟩, .string ⟨#[]⟩, .int .i64 0, .slice none 0 0, .bool false, .slice none 0 0] 34) := ⟨_, rfl⟩
 have HB2 := Box.mk (show Below w.heap.size w W2 by rw [hW2]; exact below_twoF (below_oneF w _) _)
 have HR2 := Box.mk (show W2.heap[w.heap.size]? = some (.cells #[.string m, .string t, .int .i64 z, .slice a l.length cap, .bool fr, .slice ba bl.length bc] 34 (0, 0)) by
  rw [hW2]; exact ((below_oneF (w.alloc _) _).block _ (by rw [World.size_alloc]; omega)).trans (heap_alloc_new w _))
 have HQ2 := Box.mk (show RVar W2 (w.heap.size + 1) ⟨#[]⟩ ⟨#[]⟩ 0 by
  have h1 := heap_alloc_new (w.alloc (.cells #[.string m, .string t, .int .i64 z, .slice a l.length cap, .bool fr, .slice ba bl.length bc] 34)) (.cells #[.string ⟨#[]⟩, .string ⟨#[]⟩, .int .i64 0, .slice none 0 0, .bool false, .slice none 0 0] 34)
  rw [World.size_alloc] at h1
  rw [hW2]; exact h1)
 have HS2 := Box.mk (show W2.heap.size = w.heap.size + 2 by rw [hW2, World.size_alloc, World.size_alloc])
 have H0 := Box.mk (And.intro (h.keep HB2.out) (hb.keep HB2.out))
 have HM := Box.mk (And.intro (hm.keep HB2.out) (tabs_below ht HB2.out))
 have hsl := stripL_len l
 have HZ := Box.mk (And.intro hz (stripL_small hz))
 have HT := Box.mk (small_total hz hl cnN)
 have HW2 := Box.mk hW2
 clear h hm ht hb hW2 hz
 go_enter Tryd.func6, Tryd.ntmps6
 go_wp2_with fail
 rw [← HW2.out]
 clear HW2
 generalize hg : w.heap.size = g at *
 have HG := Box.mk hg
 clear hg
 refine (hStrip_any l a cap W2 mm H0.out.1 HZ.out.1.short (by omega) HM.out.1 (by have := HT.out; omega)).mono ?_
 rintro e w3 ⟨v3, rfl, hv3⟩
 obtain ⟨a3, c3, rfl, hs3⟩ := hv3.shapeC
 have HB3 := Box.mk hv3.2
 obtain ⟨s1, HS1⟩ : ∃ s1, Box (stripL l = s1) := ⟨_, ⟨rfl⟩⟩
 rw [HS1.out] at hs3 HZ hsl ⊢
 have HF3 := Box.mk hs3.1
 have HT1 := Box.mk (small_total HZ.out.2 (by omega) xffP)
 have HT2 := Box.mk (ext_total xff_via (last := peer) (Nat.le_trans (small_total HZ.out.2 (by omega) viaP) (by decide)))
 have HZ2 := Box.mk (extL_short (n := xffP) HZ.out.2.short (by decide) (Nat.le_trans HT1.out (by decide)) hp)
 have hl2 := extL_len s1 xffP peer
 clear hv3 hs3
 go_wp2_with fail
 refine (hExt_any s1 xffP peer a3 c3 w3 mm HF3.out HZ.out.2.short (by decide) (by omega) (HM.out.1.keep HB3.out) (by have := HT1.out; omega) hp).mono ?_
 rintro e w4 ⟨v4, rfl, hv4⟩
 obtain ⟨a4, c4, rfl, hs4⟩ := hv4.shapeC
 have HB4 := Box.mk (below_trans HB3.out hv4.2)
 obtain ⟨s2, HS2e⟩ : ∃ s2, Box (extL s1 xffP peer = s2) := ⟨_, ⟨rfl⟩⟩
 rw [HS2e.out] at hs4 HZ2 HT2 hl2 ⊢
 have HF4 := Box.mk hs4.1
 clear hv4 hs4 HF3 HB3
 go_wp2_with fail
 refine (hVia_any s2 a4 c4 w4 mm HF4.out HZ2.out (by omega) (HM.out.1.keep HB4.out) HT2.out).mono ?_
 rintro e w5 ⟨v5, rfl, hv5⟩
 obtain ⟨s3, HS3⟩ : ∃ s3, Box (viaL s2 = s3) := ⟨_, ⟨rfl⟩⟩
 rw [HS3.out] at hv5
 have hl3 : s3.length ≤ 2000 := by rw [← HS3.out]; have := extL_len s2 viaP selfP; unfold viaL; omega
 have HA5 := Box.mk (AccF.lift HB4.out hv5)
 have hR5 := (HA5.out.2.block g (Array.getElem?_eq_some_iff.1 HR2.out).1).trans HR2.out
 have hc4 : w5.cell? ⟨g, 4, none⟩ = some (.bool fr) := by rw [cell_of_row _ _ _ _ _ _ hR5]; rfl
 have hc5 : w5.cell? ⟨g, 5, none⟩ = some (.slice ba bl.length bc) := by rw [cell_of_row _ _ _ _ _ _ hR5]; rfl
 have HFE := Box.mk (show fwdL l fr (bl.length : Int) peer = s3 ++ (if fr then [lenF (bl.length : Int)] else []) by unfold fwdL; rw [HS1.out, HS2e.out, HS3.out])
 clear hv5 HF4 HB4 hR5 hl2 hsl HT1 HT2 HZ2
 cases fr
 case false =>
  obtain ⟨s4, hs4⟩ : ∃ s4, s4 = s3 := ⟨_, rfl⟩
  have HFE2 := Box.mk (show fwdL l false (bl.length : Int) peer = s4 by rw [HFE.out, hs4]; simp)
  rw [← hs4] at HA5
  have hl4 : s4.length ≤ 2001 := by rw [hs4]; omega
  clear hs4
  go_upto_region 4 with fail
  clear hc4 hc5
  generalize w5 = W at *
  obtain ⟨fa, fc, hV, hx1, hx2⟩ := HA5.out.own.shape
  subst hV
  clear hx1 hx2
  have HO := Box.mk HA5.out.own
  have HBW := Box.mk (below_trans (show Below w.heap.size w W2 by rw [HG.out]; exact HB2.out) HA5.out.2)
  have HR5 := Box.mk ((HA5.out.2.block g (Array.getElem?_eq_some_iff.1 HR2.out).1).trans HR2.out)
  have HRC := Box.mk (fun (w' : World) (hb : Below W.heap.size W w') => (hb.block g (Array.getElem?_eq_some_iff.1 HR5.out).1).trans HR5.out)
  have HQ5 := Box.mk (HQ2.out.keep HA5.out.2)
  have HI5 := Box.mk (H0.out.2.keep HA5.out.2)
  have HSW := Box.mk HA5.out.2.size
  clear HA5 H0 HM HT HZ HS1 HS2e HS3 HFE HR2 HQ2
  rename_i K hK
  refine wp_region_store (S := [some (.val (.pointer (some ⟨g, 0, none⟩))), some (.val (.string m)), some (.val (.pointer (some ⟨g, 1, none⟩))), some (.val (.string t)), some (.val (.slice fa s4.length fc)), some (.val (.pointer (some ⟨g, 4, none⟩))), some (.val (.bool false)), some (.val (.pointer (some ⟨g, 5, none⟩))), some (.val (.slice ba bl.length bc)),
   some (.of (.clone W.heap.size bl)), some (.of (.fwd W.heap.size m t (.slice fa s4.length fc) false bl)), none]) 11 []
   (fun w' => Below g w w' ∧ OwnF (g + 2) w' (.slice fa s4.length fc) s4 ∧ ∃ b c, w'.heap[g + 1]? = some (.cells #[.string m, .string t, .int .i64 1, .slice fa s4.length fc, .bool false, .slice b bl.length c] 34 (0, 0)) ∧ IsBytes w' b bl c)
   (by kernel_rfl) (by kernel_rfl) (by kernel_rfl) (by kernel_rfl) rfl rfl rfl ?_ trivial ?_ ?_
  · refine ⟨?_, ?_, ?_, ?_, ?_, ?_, ?_, ?_, ?_, ?_, ?_, trivial⟩ <;> intro a w8 hb hf hd
    · exact ⟨wanted_none rfl, loc_fieldR rfl (hf.base 2 rfl) (by decide) rfl⟩
    · exact ⟨wanted_none rfl, loc_cell rfl (hd 0 rfl) (by rw [cell_of_row _ _ _ _ _ _ (HRC.out _ hb)]; rfl) (Tryd.isAgg9 _) rfl⟩
    · exact ⟨wanted_none rfl, loc_fieldR rfl (hf.base 2 rfl) (by decide) rfl⟩
    · exact ⟨wanted_none rfl, loc_cell rfl (hd 2 rfl) (by rw [cell_of_row _ _ _ _ _ _ (HRC.out _ hb)]; rfl) (Tryd.isAgg9 _) rfl⟩
    · exact ⟨wanted_none rfl, loc_move rfl (hf.base 5 rfl)⟩
    · exact ⟨wanted_none rfl, loc_fieldR rfl (hf.base 2 rfl) (by decide) rfl⟩
    · exact ⟨wanted_none rfl, loc_cell rfl (hd 5 rfl) (by rw [cell_of_row _ _ _ _ _ _ (HRC.out _ hb)]; rfl) (Tryd.isAgg4 _) rfl⟩
    · exact ⟨wanted_none rfl, loc_fieldR rfl (hf.base 2 rfl) (by decide) rfl⟩
    · exact ⟨wanted_none rfl, loc_cell rfl (hd 7 rfl) (by rw [cell_of_row _ _ _ _ _ _ (HRC.out _ hb)]; rfl) (Tryd.isAgg32 _) rfl⟩
    · refine ⟨wanted_none rfl, loc_call rfl (by kernel_rfl) ?_⟩
      show Calls _ _ #[a.eval (.tmp 30)] w8 _
      rw [show a.eval (.tmp 30) = .slice ba bl.length bc from hd 8 rfl]
      refine (cloneB_new bl ba bc w8 (HI5.out.keep hb) hbl).mono ?_
      rintro e w' ⟨b, c, rfl, h1, h2, h3⟩
      exact ⟨_, rfl, h3, b, c, rfl, h1, fun y e => Nat.le_trans hb.size (h2 y e)⟩
    · obtain ⟨b, c, e1, e2, e3⟩ := hd 9 rfl
      exact ⟨wanted_none rfl, loc_buildR6 rfl (hd 1 rfl) (hd 3 rfl) (hd 4 rfl) (hd 6 rfl) e1 ⟨b, c, rfl, e2, e3⟩⟩
  · refine ⟨rfl, fun a w8 hb hf hd => ⟨wanted_none rfl, ?_⟩⟩
    obtain ⟨b, c, e1, e2, e3⟩ := hd 10 rfl
    have hq := HQ5.out.keep hb
    refine wp_store_row 34 _ _ rfl (g + 1) #[.string m, .string t, .int .i64 1, .slice fa s4.length fc, .bool false, .slice b bl.length c] (hf.base 4 rfl) e1 34 _ hq sizeR rfl (oneR6 _ _ _ _ _ _ _ _ _) ⟨rfl, ?_, ?_, b, c, ?_, ?_⟩
    · have h1 := below_trans HBW.out hb
      rw [HG.out] at h1
      exact below_setRow h1 (Nat.le_succ g) _
    · have h1 := HO.out
      rw [HS2.out] at h1
      exact (h1.keep hb).grown (grownBy_setRowF _ _ _) (fun k hk e => by have := (h1.lt hk).1; have := Option.some.inj e; omega)
    · exact setRow_heap _ _ _ _ _ _ hq
    · exact e2.same fun y e _ => setRow_other _ _ _ _ (by have := e3 y e; have := HSW.out; have := HS2.out; omega)
  · intro a w8 hp hf hh
    refine hK a w8 ?_
    go_wp2_with fail
    obtain ⟨p1, p2, b, c, p3, p4⟩ := hp
    refine ret_rowQ rfl hf.defers (hf.base 4 rfl) p3 Tryd.underlying34 rfl sizeR ?_
    rw [HFE2.out]
    refine ⟨_, b, c, rfl, p2.mono (by rw [HG.out]; omega), p4, by rw [HG.out]; exact p1⟩
 case true =>
  go_wp2_with fail
  refine (decimal_any (bl.length : Int) w5 (by omega) (by omega) (tabs_below HM.out.2 HA5.out.2)).mono ?_
  rintro e w6 ⟨rfl, hb6⟩
  obtain ⟨ds, HDS⟩ : ∃ ds, Box (fmtS 10 (bl.length : Int) = ds) := ⟨_, ⟨rfl⟩⟩
  rw [HDS.out]
  go_wp2_with fail
  refine (lengthField_any ds w6).mono ?_
  rintro e w7 ⟨rfl, hb7⟩
  have HA7 := Box.mk (HA5.out.keep (below_trans hb6 hb7))
  clear hb6 hb7
  obtain ⟨a7, c7, hv7, hs7⟩ := HA7.out.shapeC
  subst hv7
  go_wp2_with fail
  have hbf := below_oneF w7 (.cells #[.string (lenF 0).1, .string ds] 31)
  refine (fWith_acc s3 [((lenF 0).1, ds)] a7 _ c7 1 _ (hs7.keep hbf) ⟨fldsIn_one w7 _ _, fun e => by cases e⟩ (by omega) (by show 1 ≤ 1000000; decide)).mono ?_
  rintro e w8 ⟨v8, rfl, hv8⟩
  obtain ⟨s4, hs4⟩ : ∃ s4, s4 = s3 ++ [((lenF 0).1, ds)] := ⟨_, rfl⟩
  rw [← hs4] at hv8
  have HFE2 := Box.mk (show fwdL l true (bl.length : Int) peer = s4 by rw [HFE.out, hs4, ← HDS.out]; rfl)
  have hl4 : s4.length ≤ 2001 := by rw [hs4, List.length_append]; show _ + 1 ≤ _; omega
  have HA8 := Box.mk (AccF.lift (below_trans HA7.out.2 hbf) hv8)
  clear hv8 hbf hs4 hs7 HA7 HA5
  go_upto_region 4 with fail
  clear hc4 hc5
  have HA5 := HA8
  clear HA8
  generalize w8 = W at *
  obtain ⟨fa, fc, hV, hx1, hx2⟩ := HA5.out.own.shape
  subst hV
  clear hx1 hx2
  have HO := Box.mk HA5.out.own
  have HBW := Box.mk (below_trans (show Below w.heap.size w W2 by rw [HG.out]; exact HB2.out) HA5.out.2)
  have HR5 := Box.mk ((HA5.out.2.block g (Array.getElem?_eq_some_iff.1 HR2.out).1).trans HR2.out)
  have HRC := Box.mk (fun (w' : World) (hb : Below W.heap.size W w') => (hb.block g (Array.getElem?_eq_some_iff.1 HR5.out).1).trans HR5.out)
  have HQ5 := Box.mk (HQ2.out.keep HA5.out.2)
  have HI5 := Box.mk (H0.out.2.keep HA5.out.2)
  have HSW := Box.mk HA5.out.2.size
  clear HA5 H0 HM HT HZ HS1 HS2e HS3 HFE HR2 HQ2
  rename_i K hK
  refine wp_region_store (S := [some (.val (.pointer (some ⟨g, 0, none⟩))), some (.val (.string m)), some (.val (.pointer (some ⟨g, 1, none⟩))), some (.val (.string t)), some (.val (.slice fa s4.length fc)), some (.val (.pointer (some ⟨g, 4, none⟩))), some (.val (.bool true)), some (.val (.pointer (some ⟨g, 5, none⟩))), some (.val (.slice ba bl.length bc)),
   some (.of (.clone W.heap.size bl)), some (.of (.fwd W.heap.size m t (.slice fa s4.length fc) true bl)), none]) 11 []
   (fun w' => Below g w w' ∧ OwnF (g + 2) w' (.slice fa s4.length fc) s4 ∧ ∃ b c, w'.heap[g + 1]? = some (.cells #[.string m, .string t, .int .i64 1, .slice fa s4.length fc, .bool true, .slice b bl.length c] 34 (0, 0)) ∧ IsBytes w' b bl c)
   (by kernel_rfl) (by kernel_rfl) (by kernel_rfl) (by kernel_rfl) rfl rfl rfl ?_ trivial ?_ ?_
  · refine ⟨?_, ?_, ?_, ?_, ?_, ?_, ?_, ?_, ?_, ?_, ?_, trivial⟩ <;> intro a w8 hb hf hd
    · exact ⟨wanted_none rfl, loc_fieldR rfl (hf.base 2 rfl) (by decide) rfl⟩
    · exact ⟨wanted_none rfl, loc_cell rfl (hd 0 rfl) (by rw [cell_of_row _ _ _ _ _ _ (HRC.out _ hb)]; rfl) (Tryd.isAgg9 _) rfl⟩
    · exact ⟨wanted_none rfl, loc_fieldR rfl (hf.base 2 rfl) (by decide) rfl⟩
    · exact ⟨wanted_none rfl, loc_cell rfl (hd 2 rfl) (by rw [cell_of_row _ _ _ _ _ _ (HRC.out _ hb)]; rfl) (Tryd.isAgg9 _) rfl⟩
    · exact ⟨wanted_none rfl, loc_move rfl (hf.base 5 rfl)⟩
    · exact ⟨wanted_none rfl, loc_fieldR rfl (hf.base 2 rfl) (by decide) rfl⟩
    · exact ⟨wanted_none rfl, loc_cell rfl (hd 5 rfl) (by rw [cell_of_row _ _ _ _ _ _ (HRC.out _ hb)]; rfl) (Tryd.isAgg4 _) rfl⟩
    · exact ⟨wanted_none rfl, loc_fieldR rfl (hf.base 2 rfl) (by decide) rfl⟩
    · exact ⟨wanted_none rfl, loc_cell rfl (hd 7 rfl) (by rw [cell_of_row _ _ _ _ _ _ (HRC.out _ hb)]; rfl) (Tryd.isAgg32 _) rfl⟩
    · refine ⟨wanted_none rfl, loc_call rfl (by kernel_rfl) ?_⟩
      show Calls _ _ #[a.eval (.tmp 30)] w8 _
      rw [show a.eval (.tmp 30) = .slice ba bl.length bc from hd 8 rfl]
      refine (cloneB_new bl ba bc w8 (HI5.out.keep hb) hbl).mono ?_
      rintro e w' ⟨b, c, rfl, h1, h2, h3⟩
      exact ⟨_, rfl, h3, b, c, rfl, h1, fun y e => Nat.le_trans hb.size (h2 y e)⟩
    · obtain ⟨b, c, e1, e2, e3⟩ := hd 9 rfl
      exact ⟨wanted_none rfl, loc_buildR6 rfl (hd 1 rfl) (hd 3 rfl) (hd 4 rfl) (hd 6 rfl) e1 ⟨b, c, rfl, e2, e3⟩⟩
  · refine ⟨rfl, fun a w8 hb hf hd => ⟨wanted_none rfl, ?_⟩⟩
    obtain ⟨b, c, e1, e2, e3⟩ := hd 10 rfl
    have hq := HQ5.out.keep hb
    refine wp_store_row 34 _ _ rfl (g + 1) #[.string m, .string t, .int .i64 1, .slice fa s4.length fc, .bool true, .slice b bl.length c] (hf.base 4 rfl) e1 34 _ hq sizeR rfl (oneR6 _ _ _ _ _ _ _ _ _) ⟨rfl, ?_, ?_, b, c, ?_, ?_⟩
    · have h1 := below_trans HBW.out hb
      rw [HG.out] at h1
      exact below_setRow h1 (Nat.le_succ g) _
    · have h1 := HO.out
      rw [HS2.out] at h1
      exact (h1.keep hb).grown (grownBy_setRowF _ _ _) (fun k hk e => by have := (h1.lt hk).1; have := Option.some.inj e; omega)
    · exact setRow_heap _ _ _ _ _ _ hq
    · exact e2.same fun y e _ => setRow_other _ _ _ _ (by have := e3 y e; have := HSW.out; have := HS2.out; omega)
  · intro a w8 hp hf hh
    refine hK a w8 ?_
    go_wp2_with fail
    obtain ⟨p1, p2, b, c, p3, p4⟩ := hp
    refine ret_rowQ rfl hf.defers (hf.base 4 rfl) p3 Tryd.underlying34 rfl sizeR ?_
    rw [HFE2.out]
    refine ⟨_, b, c, rfl, p2.mono (by rw [HG.out]; omega), p4, by rw [HG.out]; exact p1⟩
end Go.Proofs.YtfghgenboahkkaaDoor
namespace Go.Proofs.YtfghgenboahkkaaDoor
open Go.RowKit
set_option maxRecDepth 100000 in
set_option maxHeartbeats 2000000 in
theorem lengthOfReply_get (r : ByteArray) (z : Int) (k : Nat) (l : List Fld) (a : Option Addr) (cap : Nat) (w : World) (ht : Tabs w) (hk : k ≤ 1000000000) :
  Calls Tryd.prog 18 #[.string ⟨#[71, 69, 84]⟩, .agg #[.int .i64 200, .string r, .int .i64 z, .slice a l.length cap, .slice none 0 0], .int .i64 k] w fun e w' => e = .returned (.agg #[.string ⟨#[67, 111, 110, 116, 101, 110, 116, 45, 76, 101, 110, 103, 116, 104]⟩, .string (fmtS 10 (k : Int))]) ∧ Below w.heap.size w w' := by
 obtain ⟨W2, hW2⟩ : ∃ W2, W2 = (w.alloc (.cells #[.int .i64 200, .string r, .int .i64 z, .slice a l.length cap, .slice none 0 0] 37)).alloc (.cells #[.string ⟨#[]⟩, .string ⟨#[]⟩] 31) := ⟨_, rfl⟩
 have HB2 := Box.mk (show Below w.heap.size w W2 by rw [hW2]; exact below_twoF (below_oneF w _) _)
 have HQ2 := Box.mk (show W2.heap[w.heap.size + 1]? = some (.cells #[.string ⟨#[]⟩, .string ⟨#[]⟩] 31 (0, 0)) by
  have h1 := heap_alloc_new (w.alloc (.cells #[.int .i64 200, .string r, .int .i64 z, .slice a l.length cap, .slice none 0 0] 37)) (.cells #[.string ⟨#[]⟩, .string ⟨#[]⟩] 31)
  rw [World.size_alloc] at h1
  rw [hW2]; exact h1)
 have HT := Box.mk (tabs_below ht HB2.out)
 have HW2 := Box.mk hW2
 clear ht hW2
 go_enter Tryd.func18, Tryd.ntmps18
 go_wp2_with fail
 rw [← HW2.out]
 clear HW2
 refine (decimal_any (k : Int) W2 (by omega) (by omega) HT.out).mono ?_
 rintro e w3 ⟨rfl, hb3⟩
 obtain ⟨ds, HDS⟩ : ∃ ds, Box (fmtS 10 (k : Int) = ds) := ⟨_, ⟨rfl⟩⟩
 rw [HDS.out]
 go_wp2_with fail
 refine (lengthField_any ds w3).mono ?_
 rintro e w4 ⟨rfl, hb4⟩
 have HB4 := Box.mk (below_trans HB2.out (below_trans hb3 hb4))
 have HQ4 := Box.mk (((below_trans hb3 hb4).block _ (Array.getElem?_eq_some_iff.1 HQ2.out).1).trans HQ2.out)
 clear hb3 hb4 HB2 HQ2 HT
 go_wp2_with (refine wpList_store_row rfl 31 _ _ rfl (w.heap.size + 1) #[.string ⟨#[67, 111, 110, 116, 101, 110, 116, 45, 76, 101, 110, 103, 116, 104]⟩, .string ds] rfl rfl 31 _ HQ4.out (by kernel_rfl) rfl (by simp [Value.oneCell']) ?_)
 (try simp only [Exit.inBlock, Exit.then])
 exact ret_rowQ rfl rfl rfl (setRow_heap _ _ _ _ _ _ HQ4.out) Tryd.underlying31 rfl (by kernel_rfl) ⟨by rw [HDS.out], below_setRow HB4.out (Nat.le_succ _) _⟩
def RetBwd (w : World) (r : ByteArray) (F : List Fld) (e : Ending) (w' : World) : Prop :=
 ∃ v b c, e = .returned (.agg #[.int .i64 200, .string r, .int .i64 1, v, .slice b 0 c]) ∧ OwnF w.heap.size w' v F ∧ Below w.heap.size w w'
def Spec.bwd (r : ByteArray) (vF : Value) : Spec := ⟨fun v _ => ∃ b c, v = .agg #[.int .i64 200, .string r, .int .i64 1, vF, .slice b 0 c], fun _ _ _ h _ => h⟩
def Spec.bod : Spec := ⟨fun v _ => ∃ b c, v = .slice b 0 c, fun _ _ _ h _ => h⟩
section
variable {Q : Exit → Act → World → Prop} {act : Act} {w : World} {o : Oper} {s : Spec}
theorem loc_buildA5 {x y z b : Operand} (ho : o.op = .build 37 #[(0, x), (1, y), (2, .const (.int .i64 1)), (3, z), (4, b)]) {st : Int} {r : ByteArray} {fa ba : Option Addr} {fn fc bn bc : Nat} (hx : act.eval x = .int .i64 st) (hy : act.eval y = .string r) (hz : act.eval z = .slice fa fn fc) (hb : act.eval b = .slice ba bn bc)
  (hs : s.p (.agg #[.int .i64 st, .string r, .int .i64 1, .slice fa fn fc, .slice ba bn bc]) w) :
  o.wp Tryd.prog act w (fun a' w' => ∃ v, a' = act.put o.dst v ∧ Below w.heap.size w w' ∧ s.p v w') Q := by
 refine loc_run (v := .agg #[.int .i64 st, .string r, .int .i64 1, .slice fa fn fc, .slice ba bn bc]) ?_ (Below.refl _ _) hs
 have hbb := run_build (P := Tryd.prog) w 37 #[(0, .int .i64 st), (1, .string r), (2, .int .i64 1), (3, .slice fa fn fc), (4, .slice ba bn bc)] #[.int .i64 st, .string r, .int .i64 1, .slice fa fn fc, .slice ba bn bc] (by kernel_rfl)
 unfold execOp
 simp only [ho, List.map_toArray, List.map_cons, List.map_nil, hx, hy, hz, hb, show act.eval (.const (.int .i64 1)) = .int .i64 1 from rfl, Sem.run_bind, hbb, Result.andThen_ok, Sem.run_pure]
end
set_option maxRecDepth 100000 in
set_option maxHeartbeats 4000000 in
theorem hBackward_get (r : ByteArray) (z : Int) (k : Nat) (l : List Fld) (a : Option Addr) (cap : Nat) (w : World) (mm : Int) (h : FldsIn w a l) (hz : SmallF l) (hl : l.length ≤ 1000) (hm : MaxOk w mm) (ht : Tabs w) (hk : k ≤ 1000000000) :
  Calls Tryd.prog 7 #[.string ⟨#[71, 69, 84]⟩, .agg #[.int .i64 200, .string r, .int .i64 z, .slice a l.length cap, .slice none 0 0], .int .i64 k, .slice none 0 0] w (RetBwd w r (viaL (stripL l) ++ [lenF (k : Int)])) := by
 obtain ⟨W2, hW2⟩ : ∃ W2, W2 = (w.alloc (.cells #[.int .i64 200, .string r, .int .i64 z, .slice a l.length cap, .slice none 0 0] 37)).alloc (.cells #[.int .i64 0, .string ⟨#[]⟩, .int .i64 0, .slice none 0 0, .slice none 0 0] 37) := ⟨_, rfl⟩
 have HB2 := Box.mk (show Below w.heap.size w W2 by rw [hW2]; exact below_twoF (below_oneF w _) _)
 have HR2 := Box.mk (show W2.heap[w.heap.size]? = some (.cells #[.int .i64 200, .string r, .int .i64 z, .slice a l.length cap, .slice none 0 0] 37 (0, 0)) by
  rw [hW2]; exact ((below_oneF (w.alloc _) _).block _ (by rw [World.size_alloc]; omega)).trans (heap_alloc_new w _))
 have HQ2 := Box.mk (show W2.heap[w.heap.size + 1]? = some (.cells #[.int .i64 0, .string ⟨#[]⟩, .int .i64 0, .slice none 0 0, .slice none 0 0] 37 (0, 0)) by
  have h1 := heap_alloc_new (w.alloc (.cells #[.int .i64 200, .string r, .int .i64 z, .slice a l.length cap, .slice none 0 0] 37)) (.cells #[.int .i64 0, .string ⟨#[]⟩, .int .i64 0, .slice none 0 0, .slice none 0 0] 37)
  rw [World.size_alloc] at h1
  rw [hW2]; exact h1)
 have HS2 := Box.mk (show W2.heap.size = w.heap.size + 2 by rw [hW2, World.size_alloc, World.size_alloc])
 have H0 := Box.mk (h.keep HB2.out)
 have HM := Box.mk (And.intro (hm.keep HB2.out) (tabs_below ht HB2.out))
 have hsl := stripL_len l
 have HZ := Box.mk (And.intro hz (stripL_small hz))
 have HT := Box.mk (small_total hz hl cnN)
 have HW2 := Box.mk hW2
 clear h hm ht hW2 hz
 go_enter Tryd.func7, Tryd.ntmps7
 go_wp2_with fail
 rw [← HW2.out]
 clear HW2
 generalize hg : w.heap.size = g at *
 have HG := Box.mk hg
 clear hg
 refine (hStrip_any l a cap W2 mm H0.out HZ.out.1.short (by omega) HM.out.1 (by have := HT.out; omega)).mono ?_
 rintro e w3 ⟨v3, rfl, hv3⟩
 obtain ⟨a3, c3, rfl, hs3⟩ := hv3.shapeC
 have HB3 := Box.mk hv3.2
 obtain ⟨s1, HS1⟩ : ∃ s1, Box (stripL l = s1) := ⟨_, ⟨rfl⟩⟩
 rw [HS1.out] at hs3 HZ hsl ⊢
 have HF3 := Box.mk hs3.1
 have HT2 := Box.mk (Nat.le_trans (small_total HZ.out.2 (by omega) viaP) (show 2000000000 ≤ 4000000000 by decide))
 clear hv3 hs3
 go_wp2_with fail
 refine (hVia_any s1 a3 c3 w3 mm HF3.out HZ.out.2.short (by omega) (HM.out.1.keep HB3.out) HT2.out).mono ?_
 rintro e w4 ⟨v4, rfl, hv4⟩
 obtain ⟨s2, HS2e⟩ : ∃ s2, Box (viaL s1 = s2) := ⟨_, ⟨rfl⟩⟩
 rw [HS2e.out] at hv4
 have hl2 : s2.length ≤ 1001 := by rw [← HS2e.out]; have := extL_len s1 viaP selfP; unfold viaL; omega
 obtain ⟨a4, c4, rfl, hs4⟩ := hv4.shapeC
 have HB4 := Box.mk (below_trans HB3.out hv4.2)
 have HF4 := Box.mk hs4
 clear hv4 hs4 HF3 HB3 HT2
 go_wp2_with fail
 refine (fWith_acc s2 [] a4 none c4 0 w4 HF4.out ⟨FldsIn.nil _ _, fun _ => ⟨rfl, rfl⟩⟩ (by omega) (by decide)).mono ?_
 rintro e w5 ⟨v5, rfl, hv5⟩
 rw [List.append_nil] at hv5
 have HA5 := Box.mk (AccF.lift HB4.out hv5)
 clear hv5 HF4 HB4
 have HR5 := Box.mk ((HA5.out.2.block g (Array.getElem?_eq_some_iff.1 HR2.out).1).trans HR2.out)
 go_wp2_with (refine wpList_load_row rfl 37 _ rfl g rfl 37 #[.int .i64 200, .string r, .int .i64 z, .slice a l.length cap, .slice none 0 0] (0, 0) _ HR5.out Tryd.underlying37 rfl sizeA ?_)
 refine (lengthOfReply_get r z k l a cap w5 (tabs_below HM.out.2 HA5.out.2) hk).mono ?_
 rintro e w6 ⟨rfl, hb6⟩
 obtain ⟨ds, HDS⟩ : ∃ ds, Box (fmtS 10 (k : Int) = ds) := ⟨_, ⟨rfl⟩⟩
 rw [HDS.out]
 have HA6 := Box.mk (HA5.out.keep hb6)
 clear hb6 HA5 HR5
 obtain ⟨a6, c6, hv6, hs6⟩ := HA6.out.shapeC
 subst hv6
 obtain ⟨W7, hW7⟩ : ∃ W7, W7 = (w6.alloc (.cells #[.string ⟨#[67, 111, 110, 116, 101, 110, 116, 45, 76, 101, 110, 103, 116, 104]⟩, .string ds] 31)).alloc (.cells #[.string ⟨#[67, 111, 110, 116, 101, 110, 116, 45, 76, 101, 110, 103, 116, 104]⟩, .string ds] 31) := ⟨_, rfl⟩
 have hb7 : Below w6.heap.size w6 W7 := by rw [hW7]; exact below_twoF (below_oneF w6 _) _
 have HL7 := Box.mk (show FldsC W7 (some ⟨w6.heap.size + 1, 0, none⟩) [(⟨#[67, 111, 110, 116, 101, 110, 116, 45, 76, 101, 110, 103, 116, 104]⟩, ds)] 1 from ⟨by
  have h1 := fldsIn_one (w6.alloc (.cells #[.string ⟨#[67, 111, 110, 116, 101, 110, 116, 45, 76, 101, 110, 103, 116, 104]⟩, .string ds] 31)) ⟨#[67, 111, 110, 116, 101, 110, 116, 45, 76, 101, 110, 103, 116, 104]⟩ ds
  rw [World.size_alloc] at h1
  rw [hW7]; exact h1, fun e => by cases e⟩)
 have HF7 := Box.mk (hs6.keep hb7)
 have HB7 := Box.mk (below_trans HA6.out.2 hb7)
 have HW7 := Box.mk hW7
 clear hs6 hb7 hW7 HA6 H0 HZ HM HT
 go_wp2_with fail
 rw [← HW7.out]
 clear HW7
 refine (fWith_acc s2 [(⟨#[67, 111, 110, 116, 101, 110, 116, 45, 76, 101, 110, 103, 116, 104]⟩, ds)] a6 _ c6 1 W7 HF7.out HL7.out (by omega) (by show 1 ≤ 1000000; decide)).mono ?_
 rintro e w8 ⟨v8, rfl, hv8⟩
 obtain ⟨s4, hs4⟩ : ∃ s4, s4 = s2 ++ [(⟨#[67, 111, 110, 116, 101, 110, 116, 45, 76, 101, 110, 103, 116, 104]⟩, ds)] := ⟨_, rfl⟩
 rw [← hs4] at hv8
 have HFE := Box.mk (show viaL (stripL l) ++ [lenF (k : Int)] = s4 by rw [HS1.out, HS2e.out, hs4, ← HDS.out]; rfl)
 have HA := Box.mk (AccF.lift HB7.out hv8)
 clear hv8 hs4 HF7 HL7 HB7
 obtain ⟨fa, fc, hV, hx1, hx2⟩ := HA.out.own.shape
 subst hV
 clear hx1 hx2
 have HO := Box.mk (show OwnF (g + 2) w8 (.slice fa s4.length fc) s4 by have h1 := HA.out.own; rw [HS2.out] at h1; exact h1)
 have HBW := Box.mk (show Below g w w8 from HB2.out.trans (HA.out.2.mono (by have := HS2.out; omega)))
 have HRC := Box.mk (fun (w' : World) (hb : Below w8.heap.size w8 w') => ((below_trans HA.out.2 hb).block g (Array.getElem?_eq_some_iff.1 HR2.out).1).trans HR2.out)
 have HQ8 := Box.mk ((HA.out.2.block _ (Array.getElem?_eq_some_iff.1 HQ2.out).1).trans HQ2.out)
 clear HA HR2 HQ2 HB2 HS1 HS2e HDS
 go_wp2_with fail
 rename_i K hK
 refine wp_region_store (S := [some (.val (.pointer (some ⟨g, 0, none⟩))), some (.val (.int .i64 200)), some (.val (.pointer (some ⟨g, 1, none⟩))), some (.val (.string r)), some (.val (.slice fa s4.length fc)), some (.val (.pointer (some ⟨g, 4, none⟩))), some (.val (.slice none 0 0)),
  some (.of .bod), some (.of (.bwd r (.slice fa s4.length fc))), none]) 9 []
  (fun w' => Below g w w' ∧ OwnF (g + 2) w' (.slice fa s4.length fc) s4 ∧ ∃ b c, w'.heap[g + 1]? = some (.cells #[.int .i64 200, .string r, .int .i64 1, .slice fa s4.length fc, .slice b 0 c] 37 (0, 0)))
  (by kernel_rfl) (by kernel_rfl) (by kernel_rfl) (by kernel_rfl) rfl rfl rfl ?_ trivial ?_ ?_
 · refine ⟨?_, ?_, ?_, ?_, ?_, ?_, ?_, ?_, ?_, trivial⟩ <;> intro a w9 hb hf hd
   · exact ⟨wanted_none rfl, loc_fieldA rfl (hf.base 5 rfl) (by decide) rfl⟩
   · exact ⟨wanted_none rfl, loc_cell rfl (hd 0 rfl) (by rw [cell_of_row _ _ _ _ _ _ (HRC.out _ hb)]; rfl) (Tryd.isAgg3 _) rfl⟩
   · exact ⟨wanted_none rfl, loc_fieldA rfl (hf.base 5 rfl) (by decide) rfl⟩
   · exact ⟨wanted_none rfl, loc_cell rfl (hd 2 rfl) (by rw [cell_of_row _ _ _ _ _ _ (HRC.out _ hb)]; rfl) (Tryd.isAgg9 _) rfl⟩
   · exact ⟨wanted_none rfl, loc_move rfl (hf.base 9 rfl)⟩
   · exact ⟨wanted_none rfl, loc_fieldA rfl (hf.base 5 rfl) (by decide) rfl⟩
   · exact ⟨wanted_none rfl, loc_cell rfl (hd 5 rfl) (by rw [cell_of_row _ _ _ _ _ _ (HRC.out _ hb)]; rfl) (Tryd.isAgg32 _) rfl⟩
   · refine ⟨wanted_none rfl, loc_call rfl (by kernel_rfl) ?_⟩
     show Calls _ _ #[a.eval (.tmp 34)] w9 _
     rw [show a.eval (.tmp 34) = .slice none 0 0 from hd 6 rfl]
     refine (cloneB_new [] none 0 w9 (.inl ⟨rfl, rfl, rfl⟩) (by decide)).mono ?_
     rintro e w' ⟨b, c, rfl, _, _, h3⟩
     exact ⟨_, rfl, h3, b, c, rfl⟩
   · obtain ⟨b, c, e1⟩ := hd 7 rfl
     exact ⟨wanted_none rfl, loc_buildA5 rfl (hd 1 rfl) (hd 3 rfl) (hd 4 rfl) e1 ⟨b, c, rfl⟩⟩
 · refine ⟨rfl, fun a w9 hb hf hd => ⟨wanted_none rfl, ?_⟩⟩
   obtain ⟨b, c, e1⟩ := hd 8 rfl
   have hq := (hb.block _ (Array.getElem?_eq_some_iff.1 HQ8.out).1).trans HQ8.out
   refine wp_store_row 37 _ _ rfl (g + 1) #[.int .i64 200, .string r, .int .i64 1, .slice fa s4.length fc, .slice b 0 c] (hf.base 8 rfl) e1 37 _ hq sizeA rfl (by simp [Value.oneCell']) ⟨rfl, ?_, ?_, b, c, ?_⟩
   · exact below_setRow (HBW.out.trans (hb.mono (by have := (Array.getElem?_eq_some_iff.1 HQ8.out).1; omega))) (Nat.le_succ g) _
   · exact (HO.out.keep hb).grown (grownBy_setRowF _ _ _) (fun k hk e => by have := (HO.out.lt hk).1; have := Option.some.inj e; omega)
   · exact setRow_heap _ _ _ _ _ _ hq
 · intro a w9 hp hf hh
   refine hK a w9 ?_
   go_wp2_with fail
   obtain ⟨p1, p2, b, c, p3⟩ := hp
   refine ret_rowQ rfl hf.defers (hf.base 8 rfl) p3 Tryd.underlying37 rfl sizeA ?_
   rw [HFE.out]
   exact ⟨_, b, c, rfl, p2.mono (by rw [HG.out]; omega), by rw [HG.out]; exact p1⟩
end Go.Proofs.YtfghgenboahkkaaDoor
