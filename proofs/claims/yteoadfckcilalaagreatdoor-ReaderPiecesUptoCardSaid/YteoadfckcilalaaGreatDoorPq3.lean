/- Fields of the source; fields and name of the laws. fields, name and awake of the laws; Short. The law FieldValues. The plain mathematics of numerals: digits, their value with a limit, and that a numeral is read as its number. Contracts of the functions that read a number, of package number and of its reference. The contracts of awake and of the laws of layer 1. The contract of the law AsciiList. Frames of messages: what is said of them; the reference's frame, OfRequest, OfReply, Persistent. OfRequest, OfReply and Persistent of the reference. Contracts of the reference's functions that write a number. Targets and versions, in the reference. Split at the question mark, the version of a line, spoil; in the reference and the laws. Words of a line, rune by rune and byte by byte: plain mathematics. strings.Cut at any byte, strings.HasPrefix, strings.CutPrefix; Split and the versions, of package startline. Targets, reasons and versions, of package startline. The version of a line, of package startline. FormatRequestLine of the reference. FormatStatusLine of the reference. ParseStatusLine of the reference. -/
import Derived.Test.YteoadfckcilalaaGreatDoorPq1
import Derived.Test.YteoadfckcilalaaGreatDoorPq2
import Derived.Test.YteoadfckcilalaaGreatDoorRows
import Derived.WalkKit
import Derived.WalkSpells
import Derived.WalkLawsBesides
import Derived.BigQuiet
import Derived.Deep.QuietTactic
import Derived.Lib.Bytealg
import Derived.Lib.IndexLaws
import Derived.Lib.Hide
import Derived.Laws.IdiomStrings
import Derived.Lib.SlTrimSet
import Derived.Lib.IndexBytes
import Derived.Lib.Split
import Derived.Deep.AppendLies
import Derived.Shelf.Strings.SlTrimAscii
import Derived.Shelf.Strings.SplitShaped
import Derived.Shelf.LaysM
import Derived.Shelf.Strings.BuilderK
import Derived.Shelf.Strconv.Itoa4
import Derived.Shelf.Strings.Prefix
import Derived.Shelf.Bytes.SlIndexWhole
import Derived.Test.YteoadfckcilalaaGreatDoorProg
import Derived.Lib.SplitLaws
import Derived.WalkSmall
import Derived.ProofKit
import Derived.OpenShut
import Derived.Lib.Strings
import Derived.SliceStrings
import Derived.Deep.Quiet
import Derived.Tactics
import Derived.KernelRfl
import Derived.Below
import Derived.Laws.Bits64
import Derived.Lib.SlBytesConst
import Derived.Maps.AppendAt
import Derived.Laws.AppendOwnNone
import Derived.Great.BuildSlice
import Derived.Laws.Rows
import Derived.Laws.BitsAllLaws
import Derived.Laws.Shifts
import Derived.Maps.OwnOps
import Derived.Maps.OwnSet
import Derived.Deep.SlicePairs
import Derived.Lib.AppendZerosOnto
import Derived.Lib.AppendStr
import Derived.Laws.CopyOwn
import Derived.OwnWalk
import Derived.Laws.Strings3
import Derived.Laws.Concat
import Derived.Lib.ItoaMem
import Derived.Deep.RegionHeld3
import Derived.IntWalk
import Derived.Laws.RangeAny
import Derived.LoopTactic
namespace Go.Proofs.YteoadfckcilalaaGreatDoor
open Go.RowKit

def OwnF (B : Nat) (w : World) (v : Value) (l : List Fld) : Prop := w.ownsRow B 88 2 v l.length (cellsF l)
theorem OwnF.start (B : Nat) (w : World) : OwnF B w (.slice none 0 0) [] := World.ownsRow_nil _ _ _ _
theorem OwnF.lt {B : Nat} {w : World} {v : Value} {l : List Fld} (h : OwnF B w v l) {k : Nat} (hk : v.ownBlock = some k) : B ≤ k ∧ k < w.heap.size := World.ownsRow.lt h k hk
theorem OwnF.same {B : Nat} {w w' : World} {v : Value} {l : List Fld} (h : OwnF B w v l) (hs : ∀ k, v.ownBlock = some k → w'.heap[k]? = w.heap[k]?) : OwnF B w' v l := by
 obtain ⟨h1, h2⟩ := h
 refine ⟨h1, ?_⟩
 rcases h2 with h2 | ⟨g, cap, cur, hv, hg, hc, r⟩
 · exact .inl h2
 · exact .inr ⟨g, cap, cur, hv, hg, by rw [hs g (by rw [hv]; rfl)]; exact hc, r⟩
theorem OwnF.keep {B : Nat} {w w' : World} {v : Value} {l : List Fld} (h : OwnF B w v l) (hb : Below w.heap.size w w') : OwnF B w' v l :=
 h.same fun k hk => hb.block k (h.lt hk).2
theorem OwnF.grown {B : Nat} {w w' : World} {v : Value} {l : List Fld} {row : Option Nat} (h : OwnF B w v l) (hg : w.grownBy w' row) (hne : ∀ k, v.ownBlock = some k → some k ≠ row) : OwnF B w' v l :=
 h.same fun k hk => hg.block k (h.lt hk).2 (hne k hk)
theorem OwnF.shape {B : Nat} {w : World} {v : Value} {l : List Fld} (h : OwnF B w v l) : ∃ a cap, v = .slice a l.length cap ∧ FldsC w a l cap ∧ l.length ≤ cap := by
 obtain ⟨h1, h2⟩ := h
 rcases h2 with ⟨rfl, h2⟩ | ⟨g, cap, cur, rfl, hg, hc, hcap, hm, hsz, ht⟩
 · have : l = [] := List.eq_nil_of_length_eq_zero h2
   subst this
   exact ⟨none, 0, rfl, ⟨FldsIn.nil _ _, fun _ => ⟨rfl, rfl⟩⟩, Nat.le_refl _⟩
 · refine ⟨_, cap, rfl, ⟨FldsIn.of_cells fun j u hj => ?_, fun e => by cases e⟩, hcap⟩
   have e := congrArg (fun x => x[j]?) ht
   have hlt : j < l.length * 2 := by rw [← cellsF_len]; exact (List.getElem?_eq_some_iff.1 hj).1
   rw [hj, List.getElem?_take_of_lt hlt] at e
   rw [Addr.add_lit]
   simp only [World.cell?, hc, Nat.zero_add]
   simpa using e
section
variable {ops : Array Oper} {rest : List Oper} {o : Oper} {act : Act} {Q : Exit → Act → World → Prop}
theorem wpList_append_ownf (w : World) (hgd : o.guard = none) (s x : Operand) (ho : o.op = .call { callee := .builtin .append, args := #[s, x], argTypes := #[27, 27] })
  {B : Nat} {v : Value} {l : List Fld} (hs : act.eval s = v) (h : OwnF B w v l) {b c : Nat} (hx : act.eval x = .slice (some ⟨b, 0, none⟩) 1 c) {y : Fld} (hy : w.cell? ⟨b, 0, none⟩ = some (.string y.1)) (hy2 : w.cell? ⟨b, 1, none⟩ = some (.string y.2))
  (hn : l.length + 1 ≤ 4398046511104) (hB : B ≤ w.heap.size)
  (K : ∀ v' w', OwnF B w' v' (l ++ [y]) → w.grownBy w' v.ownBlock → wpList Tryz.prog ops Q rest (act.put o.dst v') w') : wpList Tryz.prog ops Q (o :: rest) act w := by
 obtain ⟨i0, hi, hz0, hz1, hz2⟩ := info_parts Tryz.info88
 refine wpList_append_lies w hgd s x 27 ho B 88 i0 _ 2 32 Tryz.underlying27 hi hz0 hz1 hz2 rfl (by decide) v l.length (cellsF l) hs h ⟨b, 0, none⟩ 1 c [.string y.1, .string y.2] hx rfl ?_ ?_ (by decide) (by unfold maxLen; omega) (by omega) hB w.heap.size rfl ?_
 · intro j u hj
   match j, hj with
   | 0, hj => simp at hj; subst hj; rw [Addr.add_lit]; exact hy
   | 1, hj => simp at hj; subst hj; rw [Addr.add_lit]; exact hy2
   | j + 2, hj => simp at hj
 · intro u hu; simp at hu; rcases hu with rfl | rfl <;> rfl
 · intro g cap w' hown hgrow hg hlt
   refine K _ w' ?_ hgrow
   unfold OwnF
   rw [List.length_append, cellsF_app]; exact hown
end

set_option maxRecDepth 100000 in
set_option maxHeartbeats 2000000 in
theorem srcFieldsS_any (g m : Nat) (a : Option Addr) (n c : Nat) (w : World) (h : Src w g a n c) (hm : m ≤ 1000) :
  Calls Tryz.prog 43 #[.pointer (some ⟨g, 0, none⟩), .int .i64 m] w fun e w' => ∃ v l, e = .returned v ∧ OwnF w.heap.size w' v l ∧ l.length ≤ m ∧ (∀ f ∈ l, SrcF f) ∧ Src w' g a n c ∧ w.grownBy w' (some g) := by
 have H0 := Box.mk h
 have HLOW := Box.mk h.low
 have hlt := h.lt
 clear h
 go_enter Tryz.func43, Tryz.ntmps43
 go_wp2_with fail
 refine (next_any g (m + 1) a n c w H0.out (by omega) (by omega)).mono ?_
 rintro e w1 ⟨k, hk, rfl, hsrc, hg1⟩
 have HS1 := Box.mk hsrc
 have HG1 := Box.mk hg1
 clear hsrc hg1 H0
 go_wp2_with fail
 go_loopw [5, 6] (fun v iv wr => ∃ j : Nat, j ≤ m ∧ iv = .int .i64 j ∧ ∃ l : List Fld, l.length + j ≤ m ∧ Box (OwnF w.heap.size wr v l ∧ (∀ f ∈ l, SrcF f) ∧ Src wr g a n c ∧ w.grownBy wr (some g))) (fun _ iv _ => (intOf iv).toNat)
 case atStart => exact ⟨k, by omega, rfl, [], by simp; omega, ⟨OwnF.start _ _, by simp, HS1.out, HG1.out⟩⟩
 case round =>
  clear HS1 HG1
  obtain ⟨j, hj, rfl, l, hl, HM⟩ := hrel
  by_cases hpos : 0 < j
  · go_wp2_with fail
    refine (srcFieldS_any g a n c wr HM.out.2.2.1).mono ?_
    rintro e w2 ⟨f, rfl, hmd, hsrc, hg2⟩
    have HO2 := Box.mk (HM.out.1.grown hg2 (fun q e e2 => by have := (HM.out.1.lt e).1; have := Option.some.inj e2; omega))
    have HS2 := Box.mk hsrc
    have HG2 := Box.mk (grownBy_trans HM.out.2.2.2 hg2)
    have HALL := Box.mk (show ∀ y ∈ l ++ [f], SrcF y from fun y hy => by
     rcases List.mem_append.1 hy with h1 | h1
     · exact HM.out.2.1 y h1
     · simp at h1; rw [h1]; exact hmd)
    have hsz := HG2.out.size
    clear hmd hsrc hg2 HM
    go_wp2_with (at_builtin; refine wpList_append_ownf _ rfl _ _ rfl rfl (HO2.out.keep ((Below.refl _ _).alloc (Nat.le_refl _) _)) rfl (y := f) ?c1 ?c2 (by omega) (by simp; omega) ?c3)
    case c1 => simp
    case c2 => simp
    case c3 =>
     intro v' w3 hown hgrow
     have HO3 := Box.mk hown
     have hgrow2 : w2.grownBy w3 u5.ownBlock := ⟨hgrow.os, hgrow.tape, hgrow.output, Nat.le_trans (by simp) hgrow.size, fun k hk hne => by
      rw [hgrow.block k (by simp; omega) hne]
      exact (below_oneF w2 _).block k hk⟩
     have HS3 := Box.mk (HS2.out.grown hgrow2 (fun e => by have := (HO2.out.lt e.symm).1; omega) (fun x e h0 e2 => by have := (HO2.out.lt e2.symm).1; have := HLOW.out x e h0; omega))
     have HG3 := Box.mk (grownBy_new HG2.out hgrow2 (fun i e => (HO2.out.lt e).1))
     clear hown hgrow hgrow2 HO2 HS2 HG2
     go_wp2_with fail
     go_roundw
     case rel => exact ⟨j - 1, by omega, by go_num, l ++ [f], by simp; omega, ⟨HO3.out, HALL.out, HS3.out, HG3.out⟩⟩
     case measure => simp [intOf]; omega
  · obtain rfl : j = 0 := by omega
    go_wp2_with fail
    go_ret
    exact ⟨_, l, rfl, HM.out.1, by omega, HM.out.2.1, HM.out.2.2.1, HM.out.2.2.2⟩
end Go.Proofs.YteoadfckcilalaaGreatDoor
namespace Go.Proofs.YteoadfckcilalaaGreatDoor
open Go.RowKit

theorem IntsF.alloc {w : World} {a : Option Addr} {n : Nat} (h : IntsF w a n) (o : Obj) : IntsF (w.alloc o) a n := h.keep (below_oneF w o)
theorem src_box {w : World} {a : Option Addr} {n c : Nat} (h : IntsF w a n) (hn : n ≤ maxLen) : Src (w.alloc (.cells #[.slice a n c, .int .i64 0] 56)) w.heap.size a n c := by
 refine ⟨⟨0, Nat.zero_le _, heap_alloc_new _ _⟩, hn, h.alloc _, fun x e h0 => ?_⟩
 obtain ⟨y, z, e2, hc, _⟩ := h 0 h0
 rw [e] at e2
 obtain rfl := Option.some.inj e2
 have := lt_cell hc
 rw [add_blockF] at this
 omega
theorem below_box {w w1 w2 : World} (h : Below w.heap.size w w1) (hg : w1.grownBy w2 (some w.heap.size)) : Below w.heap.size w w2 :=
 h.grown hg h.size fun k e => by have := Option.some.inj e; omega

theorem fldsIn_one (w : World) (n v : ByteArray) : FldsIn (w.alloc (.cells #[.string n, .string v] 88)) (some ⟨w.heap.size, 0, none⟩) [(n, v)] := fun j hj => by
 obtain rfl : j = 0 := by simpa using hj
 exact ⟨_, rfl, by rw [Addr.add_lit, new_cellF]; rfl, by rw [Addr.add_lit, new_cellF]; rfl⟩

end Go.Proofs.YteoadfckcilalaaGreatDoor
namespace Go.Proofs.YteoadfckcilalaaGreatDoor
open Go.RowKit

theorem total_values {x : List Fld} (h : SmallF x) (n : ByteArray) : total (valuesL x n) ≤ x.length * 1048577 := by
 unfold valuesL
 induction x with
 | nil => exact Nat.zero_le _
 | cons f t ih =>
  have h1 := ih (fun g hg => h g (List.mem_cons_of_mem _ hg))
  have h2 := (h f (List.mem_cons_self ..)).2
  clear h ih
  rw [List.filter_cons, List.length_cons, Nat.add_mul, Nat.one_mul]
  split
  · simp only [List.map_cons, total]
    exact Nat.le_trans (Nat.add_le_add (Nat.add_le_add_right h2 1) h1) (Nat.le_of_eq (Nat.add_comm _ _))
  · exact Nat.le_trans h1 (Nat.le_add_right _ _)

section
variable {Q : Exit → Act → World → Prop} {a : Act} {w : World} {o : Oper} {s : Spec}
end

end Go.Proofs.YteoadfckcilalaaGreatDoor
namespace Go.Proofs.YteoadfckcilalaaGreatDoor
open Go.RowKit

def dv (c : Int) : Int := if 48 ≤ c ∧ c ≤ 57 then c - 48 else if 97 ≤ c ∧ c ≤ 102 then c - 87 else if 65 ≤ c ∧ c ≤ 70 then c - 55 else 16
theorem dv_bd (c : Int) : 0 ≤ dv c ∧ dv c ≤ 16 := by unfold dv; (repeat' split) <;> omega
def numB (b : Int) (c : UInt8) : Bool := decide (dv c.toNat < b)
def numS (b : Int) (s : ByteArray) : Bool := s.data.toList.all (numB b) && !s.data.toList.isEmpty
def pgo (b most : Int) : Int → List UInt8 → Int × Int
 | acc, [] => (acc, 0)
 | acc, c :: r => if dv c.toNat > most ∨ acc > (most - dv c.toNat) / b then (0, 3) else pgo b most (acc * b + dv c.toNat) r
def parseS (b most : Int) (s : ByteArray) : Int × Int := if numS b s then pgo b most 0 s.data.toList else (0, 2)
theorem pgo_no {b most acc : Int} {c : UInt8} {r : List UInt8} (h : dv c.toNat > most ∨ acc > (most - dv c.toNat) / b) : pgo b most acc (c :: r) = (0, 3) := by rw [pgo, if_pos h]
theorem pgo_go {b most acc : Int} {c : UInt8} {r : List UInt8} (h1 : dv c.toNat ≤ most) (h2 : acc ≤ (most - dv c.toNat) / b) : pgo b most acc (c :: r) = pgo b most (acc * b + dv c.toNat) r := by rw [pgo, if_neg (by omega)]
theorem drop_cons (s : ByteArray) (k : Nat) (h : k < s.size) : s.data.toList.drop k = s[k] :: s.data.toList.drop (k + 1) := by
 rw [List.drop_eq_getElem_cons (by simpa using h)]; rfl

def vgo (b : Int) : Int → List UInt8 → Int
 | acc, [] => acc
 | acc, c :: r => vgo b (acc * b + dv c.toNat) r
theorem vgo_append (b : Int) : ∀ (l r : List UInt8) (acc : Int), vgo b acc (l ++ r) = vgo b (vgo b acc l) r
 | [], r, acc => rfl
 | c :: l, r, acc => by simp only [List.cons_append, vgo]; exact vgo_append b l r _
theorem mul_ge (b acc : Int) (hb : 1 ≤ b) (ha : 0 ≤ acc) : acc ≤ acc * b := by
 have := Int.mul_le_mul_of_nonneg_left hb ha; omega
theorem vgo_ge (b : Int) (hb : 1 ≤ b) : ∀ (l : List UInt8) (acc : Int), 0 ≤ acc → acc ≤ vgo b acc l
 | [], acc, _ => Int.le_refl _
 | c :: l, acc, ha => by
  have h1 := mul_ge b acc hb ha
  have h2 := dv_bd c.toNat
  have h3 := vgo_ge b hb l (acc * b + dv c.toNat) (by omega)
  rw [vgo]; omega
theorem pgo_eq (b most : Int) (hb : 1 ≤ b) : ∀ (l : List UInt8) (acc : Int), 0 ≤ acc → (acc ≤ most ∨ l ≠ []) → pgo b most acc l = if vgo b acc l ≤ most then (vgo b acc l, 0) else (0, 3)
 | [], acc, ha, h => by
  rcases h with h | h
  · rw [pgo, vgo, if_pos h]
  · exact absurd rfl h
 | c :: l, acc, ha, _ => by
  have h1 := mul_ge b acc hb ha
  have h2 := dv_bd c.toNat
  have hge := vgo_ge b hb l (acc * b + dv c.toNat) (by omega)
  have hiff : acc ≤ (most - dv c.toNat) / b ↔ acc * b ≤ most - dv c.toNat := Int.le_ediv_iff_mul_le (by omega)
  rw [pgo, vgo]
  by_cases h : dv c.toNat > most ∨ acc > (most - dv c.toNat) / b
  · rw [if_pos h, if_neg]
    rcases h with h | h
    · omega
    · have : ¬ acc * b ≤ most - dv c.toNat := fun hh => by have := hiff.2 hh; omega
      omega
  · have hm : acc * b ≤ most - dv c.toNat := hiff.1 (by omega)
    rw [if_neg h]
    exact pgo_eq b most hb l _ (by omega) (.inl (by omega))

def dgc (d : Nat) : UInt8 := if d < 10 then UInt8.ofNat (48 + d) else UInt8.ofNat (87 + d)
theorem dgc_toNat {d : Nat} (h : d < 16) : (dgc d).toNat = if d < 10 then 48 + d else 87 + d := by
 unfold dgc; split
 · rw [UInt8.toNat_ofNat']; omega
 · rw [UInt8.toNat_ofNat']; omega
theorem dv_dgc {d : Nat} (h : d < 16) : dv (dgc d).toNat = d := by
 rw [dgc_toNat h]; unfold dv; by_cases h10 : d < 10
 · rw [if_pos h10, if_pos (by omega)]; omega
 · rw [if_neg h10, if_neg (by omega), if_pos (by omega)]; omega
def digsF (b : Nat) : Nat → Nat → List UInt8
 | 0, n => [dgc (n % b)]
 | f + 1, n => if n < b then [dgc n] else digsF b f (n / b) ++ [dgc (n % b)]
def digs (b n : Nat) : List UInt8 := digsF b n n
theorem digsF_fuel (b : Nat) (hb : 2 ≤ b) : ∀ (f n : Nat), n ≤ f → digsF b f n = digsF b n n
  | 0, n, h => by obtain rfl : n = 0 := by omega
                  rfl
  | f + 1, n, h => by
    match n with
    | 0 => simp [digsF, show 0 < b by omega]
    | n + 1 =>
      have hd : (n + 1) / b ≤ n := by
        have : (n + 1) / b < n + 1 := Nat.div_lt_self (by omega) (by omega)
        omega
      simp only [digsF]
      rw [digsF_fuel b hb f _ (by omega), digsF_fuel b hb n _ hd]
theorem digs_small {b n : Nat} (h : n < b) : digs b n = [dgc n] := by
 unfold digs
 match n with
 | 0 => rw [digsF, Nat.zero_mod]
 | n + 1 => rw [digsF, if_pos h]
theorem digs_big {b n : Nat} (hb : 2 ≤ b) (h : ¬ n < b) : digs b n = digs b (n / b) ++ [dgc (n % b)] := by
 unfold digs
 match n with
 | 0 => omega
 | n + 1 =>
  have hd : (n + 1) / b ≤ n := by
   have : (n + 1) / b < n + 1 := Nat.div_lt_self (by omega) (by omega)
   omega
  rw [digsF, if_neg h, digsF_fuel b hb n _ hd]
theorem digs_ne (b n : Nat) : digs b n ≠ [] := by
 unfold digs
 match n with
 | 0 => simp [digsF]
 | n + 1 => rw [digsF]; split <;> simp
theorem digs_num {b : Nat} (hb : 2 ≤ b) (hb16 : b ≤ 16) (n : Nat) : (digs b n).all (numB b) = true := by
 induction n using Nat.strongRecOn with
 | _ n ih =>
  have hd : ∀ d, d < b → numB b (dgc d) = true := fun d h => by
   unfold numB; rw [dv_dgc (by omega)]; simpa using h
  by_cases h : n < b
  · rw [digs_small h]; simpa using hd n h
  · rw [digs_big hb h, List.all_append, ih _ (Nat.div_lt_self (by omega) (by omega))]
    simpa using hd (n % b) (Nat.mod_lt _ (by omega))
theorem digs_val {b : Nat} (hb : 2 ≤ b) (hb16 : b ≤ 16) (n : Nat) : vgo b 0 (digs b n) = n := by
 induction n using Nat.strongRecOn with
 | _ n ih =>
  by_cases h : n < b
  · rw [digs_small h, vgo, vgo, dv_dgc (by omega)]; omega
  · rw [digs_big hb h, vgo_append, ih _ (Nat.div_lt_self (by omega) (by omega)), vgo, vgo, dv_dgc (by have := Nat.mod_lt n (show 0 < b by omega); omega)]
    have := Nat.div_add_mod n b
    rw [Nat.mul_comm] at this
    exact_mod_cast this
def numeral (b n : Nat) : ByteArray := ⟨(digs b n).toArray⟩
theorem parse_numeral {b : Nat} (hb : 2 ≤ b) (hb16 : b ≤ 16) (n : Nat) (most : Int) : parseS b most (numeral b n) = if (n : Int) ≤ most then ((n : Int), 0) else (0, 3) := by
 have hn : numS b (numeral b n) = true := by
  unfold numS numeral
  rw [digs_num hb hb16 n]
  simpa using digs_ne b n
 unfold parseS
 rw [if_pos hn]
 show pgo b most 0 (digs b n) = _
 rw [pgo_eq b most (by omega) _ 0 (Int.le_refl _) (.inr (digs_ne b n)), digs_val hb hb16]
end Go.Proofs.YteoadfckcilalaaGreatDoor
namespace Go.Proofs.YteoadfckcilalaaGreatDoor
open Go.RowKit

theorem ret_pair {k : IntKind} {a b : Int} {p : Int × Int} (h : p = (a, b)) : Ending.returned (.tuple #[.int .i64 a, .int k b]) = .returned (.tuple #[.int .i64 p.1, .int k p.2]) := by rw [h]

set_option maxHeartbeats 400000 in
theorem numDigit_any (c : Int) (w : World) (h0 : 0 ≤ c) (h1 : c ≤ 255) :
  Calls Tryz.prog 236 #[.int .u8 c] w fun e w' => e = .returned (.int .i64 (dv c)) ∧ w = w' := by
 go_enter Tryz.func236, Tryz.ntmps236
 go_wp2
 all_goals go_ret
 all_goals exact ⟨ret_int (by unfold dv; (repeat' split) <;> omega), rfl⟩

theorem numS_no {b : Int} {s : ByteArray} {k : Nat} (hlt : k < s.size) (hc : numB b s[k] = false) : numS b s = false := by
 unfold numS
 have : s.data.toList.all (numB b) = false := by
  rw [Bool.eq_false_iff]; intro h
  have := List.all_eq_true.1 h _ (mem_at s k hlt); rw [hc] at this; cases this
 rw [this]; rfl
theorem numS_yes {b : Int} {s : ByteArray} {k : Nat} (hk : k ≤ s.size) (hlt : ¬ k < s.size) (h : (s.data.toList.take k).all (numB b) = true) : numS b s = !s.data.toList.isEmpty := by
 rw [take_all s k hk hlt] at h; unfold numS; rw [h]; rfl

set_option maxHeartbeats 400000 in
theorem isNumeral_any (s : ByteArray) (b : Int) (w : World) (hs : s.size ≤ maxLen) :
  Calls Tryz.prog 235 #[.string s, .int .i64 b] w fun e w' => e = .returned (.bool (numS b s)) ∧ w = w' := by
 unfold maxLen at hs
 go_enter Tryz.func235, Tryz.ntmps235
 go_wp2
 go_loop [8] (fun i => ∃ k : Nat, k ≤ s.size ∧ i = .int .i64 k ∧ Hid ((s.data.toList.take k).all (numB b) = true)) (fun i => s.size - (intOf i).toNat)
 case atStart => exact ⟨0, Nat.zero_le _, rfl, Lib.hid (by simp)⟩
 case round =>
  obtain ⟨k, hk, rfl, HP⟩ := hrel
  by_cases hlt : k < s.size
  · have b1 : (s[k].toNat : Int) ≤ 255 := by have := s[k].toNat_lt; omega
    by_cases hc : b ≤ dv s[k].toNat
    · go_wp2_with (go_at_call 236; refine (numDigit_any _ _ (by omega) (by omega)).mono ?_; rintro e w' ⟨rfl, rfl⟩)
      go_ret
      exact ⟨ret_bool (numS_no hlt (by unfold numB; simpa using hc)).symm, rfl⟩
    · go_wp2_with (go_at_call 236; refine (numDigit_any _ _ (by omega) (by omega)).mono ?_; rintro e w' ⟨rfl, rfl⟩)
      go_round
      case rel => exact ⟨k + 1, by omega, by go_num, Lib.hid (by rw [take_snoc s k hlt, List.all_append, HP.out]; unfold numB; simpa using hc)⟩
      case measure => simp [intOf]; omega
  · go_wp2
    go_ret
    exact ⟨ret_bool (by rw [numS_yes hk hlt HP.out]; simp [toList_isEmpty]), rfl⟩

set_option maxHeartbeats 1000000 in
theorem numParse_yes10 (s : ByteArray) (most : Int) (w : World) (hs : s.size ≤ maxLen) (hn : numS 10 s = true) (hm0 : -9223372036854775808 ≤ most) (hm1 : most ≤ 9223372036854775807) :
  Calls Tryz.prog 218 #[.string s, .int .i64 10, .int .i64 most] w fun e w' => e = .returned (.tuple #[.int .i64 (parseS 10 most s).1, .int .i64 (parseS 10 most s).2]) ∧ w = w' := by
 unfold maxLen at hs
 have hp : parseS 10 most s = pgo 10 most 0 s.data.toList := by unfold parseS; rw [if_pos hn]
 have HP := Lib.hid hp
 clear hp
 go_enter Tryz.func218, Tryz.ntmps218
 go_wp2_with (go_at_call 235; refine (isNumeral_any _ _ _ (by unfold maxLen; omega)).mono ?_; rintro e w' ⟨rfl, rfl⟩)
 go_loop [8, 17] (fun n i => ∃ (k : Nat) (acc : Int), k ≤ s.size ∧ i = .int .i64 k ∧ n = .int .i64 acc ∧ 0 ≤ acc ∧ acc ≤ 9223372036854775807 ∧ Hid (parseS 10 most s = pgo 10 most acc (s.data.toList.drop k))) (fun _ i => s.size - (intOf i).toNat)
 case atStart => exact ⟨0, 0, Nat.zero_le _, rfl, rfl, by omega, by omega, Lib.hid (by rw [HP.out]; rfl)⟩
 case round =>
  obtain ⟨k, acc, hk, rfl, rfl, ha0, ha1, HG⟩ := hrel
  by_cases hlt : k < s.size
  · have b1 : (s[k].toNat : Int) ≤ 255 := by have := s[k].toNat_lt; omega
    have b2 := dv_bd s[k].toNat
    obtain ⟨b20, b21⟩ := b2
    by_cases hd : dv s[k].toNat ≤ most
    · by_cases hq : acc ≤ (most - dv s[k].toNat) / 10
      · go_wp2_with (go_at_call 236; refine (numDigit_any _ _ (by omega) (by omega)).mono ?_; rintro e w' ⟨rfl, rfl⟩)
        go_round
        case rel => exact ⟨k + 1, _, by omega, by go_num, rfl, by omega, by omega, Lib.hid (by rw [HG.out, drop_cons s k hlt, pgo_go hd hq])⟩
        case measure => simp [intOf]; omega
      · go_wp2_with (go_at_call 236; refine (numDigit_any _ _ (by omega) (by omega)).mono ?_; rintro e w' ⟨rfl, rfl⟩)
        go_ret2
        exact ⟨ret_pair (by rw [HG.out, drop_cons s k hlt, pgo_no (.inr (by omega))]), rfl⟩
    · go_wp2_with (go_at_call 236; refine (numDigit_any _ _ (by omega) (by omega)).mono ?_; rintro e w' ⟨rfl, rfl⟩)
      go_ret2
      exact ⟨ret_pair (by rw [HG.out, drop_cons s k hlt, pgo_no (.inl (by omega))]), rfl⟩
  · go_wp2
    go_ret2
    exact ⟨ret_pair (by rw [HG.out, List.drop_of_length_le (by simp; omega)]; rfl), rfl⟩

set_option maxHeartbeats 1000000 in
theorem numParse_yes16 (s : ByteArray) (most : Int) (w : World) (hs : s.size ≤ maxLen) (hn : numS 16 s = true) (hm0 : -9223372036854775808 ≤ most) (hm1 : most ≤ 9223372036854775807) :
  Calls Tryz.prog 218 #[.string s, .int .i64 16, .int .i64 most] w fun e w' => e = .returned (.tuple #[.int .i64 (parseS 16 most s).1, .int .i64 (parseS 16 most s).2]) ∧ w = w' := by
 unfold maxLen at hs
 have hp : parseS 16 most s = pgo 16 most 0 s.data.toList := by unfold parseS; rw [if_pos hn]
 have HP := Lib.hid hp
 clear hp
 go_enter Tryz.func218, Tryz.ntmps218
 go_wp2_with (go_at_call 235; refine (isNumeral_any _ _ _ (by unfold maxLen; omega)).mono ?_; rintro e w' ⟨rfl, rfl⟩)
 go_loop [8, 17] (fun n i => ∃ (k : Nat) (acc : Int), k ≤ s.size ∧ i = .int .i64 k ∧ n = .int .i64 acc ∧ 0 ≤ acc ∧ acc ≤ 9223372036854775807 ∧ Hid (parseS 16 most s = pgo 16 most acc (s.data.toList.drop k))) (fun _ i => s.size - (intOf i).toNat)
 case atStart => exact ⟨0, 0, Nat.zero_le _, rfl, rfl, by omega, by omega, Lib.hid (by rw [HP.out]; rfl)⟩
 case round =>
  obtain ⟨k, acc, hk, rfl, rfl, ha0, ha1, HG⟩ := hrel
  by_cases hlt : k < s.size
  · have b1 : (s[k].toNat : Int) ≤ 255 := by have := s[k].toNat_lt; omega
    have b2 := dv_bd s[k].toNat
    obtain ⟨b20, b21⟩ := b2
    by_cases hd : dv s[k].toNat ≤ most
    · by_cases hq : acc ≤ (most - dv s[k].toNat) / 16
      · go_wp2_with (go_at_call 236; refine (numDigit_any _ _ (by omega) (by omega)).mono ?_; rintro e w' ⟨rfl, rfl⟩)
        go_round
        case rel => exact ⟨k + 1, _, by omega, by go_num, rfl, by omega, by omega, Lib.hid (by rw [HG.out, drop_cons s k hlt, pgo_go hd hq])⟩
        case measure => simp [intOf]; omega
      · go_wp2_with (go_at_call 236; refine (numDigit_any _ _ (by omega) (by omega)).mono ?_; rintro e w' ⟨rfl, rfl⟩)
        go_ret2
        exact ⟨ret_pair (by rw [HG.out, drop_cons s k hlt, pgo_no (.inr (by omega))]), rfl⟩
    · go_wp2_with (go_at_call 236; refine (numDigit_any _ _ (by omega) (by omega)).mono ?_; rintro e w' ⟨rfl, rfl⟩)
      go_ret2
      exact ⟨ret_pair (by rw [HG.out, drop_cons s k hlt, pgo_no (.inl (by omega))]), rfl⟩
  · go_wp2
    go_ret2
    exact ⟨ret_pair (by rw [HG.out, List.drop_of_length_le (by simp; omega)]; rfl), rfl⟩

set_option maxHeartbeats 1000000 in
theorem numParse_any (s : ByteArray) (b most : Int) (w : World) (hs : s.size ≤ maxLen) (hb : b = 10 ∨ b = 16) (hm0 : -9223372036854775808 ≤ most) (hm1 : most ≤ 9223372036854775807) :
  Calls Tryz.prog 218 #[.string s, .int .i64 b, .int .i64 most] w fun e w' => e = .returned (.tuple #[.int .i64 (parseS b most s).1, .int .i64 (parseS b most s).2]) ∧ w = w' := by
 by_cases hn : numS b s = true
 · rcases hb with rfl | rfl
   · exact numParse_yes10 s most w hs hn hm0 hm1
   · exact numParse_yes16 s most w hs hn hm0 hm1
 · unfold maxLen at hs
   have hn' : numS b s = false := by simpa using hn
   clear hn
   have hp : parseS b most s = (0, 2) := by unfold parseS; rw [hn']; rfl
   have HP := Lib.hid hp
   clear hp
   go_enter Tryz.func218, Tryz.ntmps218
   go_wp2_with (go_at_call 235; refine (isNumeral_any _ _ _ (by unfold maxLen; omega)).mono ?_; rintro e w' ⟨rfl, rfl⟩)
   go_ret2
   exact ⟨ret_pair HP.out, rfl⟩

theorem parseDecimal_any (s : ByteArray) (most : Int) (w : World) (hs : s.size ≤ maxLen) (hm0 : -9223372036854775808 ≤ most) (hm1 : most ≤ 9223372036854775807) :
  Calls Tryz.prog 198 #[.string s, .int .i64 most] w fun e w' => e = .returned (.tuple #[.int .i64 (parseS 10 most s).1, .int .i64 (parseS 10 most s).2]) ∧ w = w' := by
 go_enter Tryz.func198, Tryz.ntmps198
 go_wp2_with (go_at_call 218; refine (numParse_any _ _ _ _ hs (by omega) hm0 hm1).mono ?_; rintro e w' ⟨rfl, rfl⟩)
 go_ret2
 exact ⟨rfl, rfl⟩
theorem parseHex_any (s : ByteArray) (most : Int) (w : World) (hs : s.size ≤ maxLen) (hm0 : -9223372036854775808 ≤ most) (hm1 : most ≤ 9223372036854775807) :
  Calls Tryz.prog 221 #[.string s, .int .i64 most] w fun e w' => e = .returned (.tuple #[.int .i64 (parseS 16 most s).1, .int .i64 (parseS 16 most s).2]) ∧ w = w' := by
 go_enter Tryz.func221, Tryz.ntmps221
 go_wp2_with (go_at_call 218; refine (numParse_any _ _ _ _ hs (by omega) hm0 hm1).mono ?_; rintro e w' ⟨rfl, rfl⟩)
 go_ret2
 exact ⟨rfl, rfl⟩
end Go.Proofs.YteoadfckcilalaaGreatDoor
namespace Go.Proofs.YteoadfckcilalaaGreatDoor
open Go.RowKit

theorem strsNew (w : World) (l : List ByteArray) : StrsAt (w.alloc (.cells (l.map Value.string).toArray 9)) (some ⟨w.heap.size, 0, none⟩) l := fun j hj => ⟨_, 0, rfl, by
 rw [World.cell?_alloc_mark]; simp [hj]⟩
section
variable (w : World) (m : Int)

end
end Go.Proofs.YteoadfckcilalaaGreatDoor
namespace Go.Proofs.YteoadfckcilalaaGreatDoor
open Go.RowKit

theorem splitL_total (c : UInt8) : ∀ l : List UInt8, ((splitL c l).map (fun p => p.length + 1)).sum = l.length + 1
 | [] => rfl
 | b :: t => by
  have ih := splitL_total c t
  rw [splitL]; split
  · simp; omega
  · cases h : splitL c t with
    | nil => exact absurd h (splitL_ne c t)
    | cons q r => rw [h] at ih; simp [front] at ih ⊢; omega
theorem total_map (L : List (List UInt8)) : total (L.map ofL) = (L.map (fun p => p.length + 1)).sum := by
 induction L with
 | nil => rfl
 | cons a t ih =>
  have e : (ofL a).size = a.length := by show (ofL a).data.size = _; simp [ofL]
  simp only [List.map_cons, total, List.sum_cons, ih, e]
theorem total_elemsOf (l : List ByteArray) : total (elemsOf l) ≤ total l := by
 unfold elemsOf
 induction l with
 | nil => exact Nat.le_refl _
 | cons a t ih =>
  have h := trimBA_size a
  simp only [List.map_cons, List.filter_cons]
  split <;> simp only [total] <;> omega
theorem total_append (a b : List ByteArray) : total (a ++ b) = total a + total b := by
 induction a with
 | nil => simp [total]
 | cons x t ih => simp only [List.cons_append, total, ih]; omega
theorem total_elemL (a : ByteArray) : total (elemL a) ≤ a.size + 1 := by
 have h1 := total_elemsOf (splitS 44 a)
 have h2 : total (splitS 44 a) = a.size + 1 := by
  unfold splitS; rw [total_map, splitL_total]; simp
 unfold elemL; omega
theorem total_listL : ∀ l : List ByteArray, total (listL l) ≤ total l
 | [] => Nat.le_refl _
 | a :: t => by
  have h1 := total_listL t
  have h2 := total_elemL a
  have e : listL (a :: t) = elemL a ++ listL t := by unfold listL; rw [List.flatMap_cons]
  rw [e, total_append]; simp only [total]; omega

section
variable (w : World) (m : Int)

end
end Go.Proofs.YteoadfckcilalaaGreatDoor
namespace Go.Proofs.YteoadfckcilalaaGreatDoor
open Go.RowKit

def clN : ByteArray := ⟨#[99, 111, 110, 116, 101, 110, 116, 45, 108, 101, 110, 103, 116, 104]⟩
def teN : ByteArray := ⟨#[116, 114, 97, 110, 115, 102, 101, 114, 45, 101, 110, 99, 111, 100, 105, 110, 103]⟩
def chunkedN : ByteArray := ⟨#[99, 104, 117, 110, 107, 101, 100]⟩
def chunkedB (x : List ByteArray) : Bool := match x with | [y] => foldS y chunkedN | _ => false
def frameS (v : Int) (l : List Fld) (k0 : Int) : Int × Int × Int :=
 if hasL l teN = true then
  (if v = 0 ∨ 0 < (valuesL l clN).length ∨ chunkedB (listL (valuesL l teN)) = false then (0, 0, 5) else (3, 0, 0))
 else match valuesL l clN with
  | [] => (k0, 0, 0)
  | y :: r => if 0 < r.length ∨ (parseS 10 1000000000 y).2 = 2 then (0, 0, 5) else if (parseS 10 1000000000 y).2 = 0 then (2, (parseS 10 1000000000 y).1, 0) else (0, 0, (parseS 10 1000000000 y).2)
def frameV (f : Int × Int × Int) : Value := .tuple #[.agg #[.int .i64 f.1, .int .i64 f.2.1], .int .i64 f.2.2]
theorem frameS_te {v : Int} {l : List Fld} {k0 : Int} (h : hasL l teN = true) : frameS v l k0 = if v = 0 ∨ 0 < (valuesL l clN).length ∨ chunkedB (listL (valuesL l teN)) = false then (0, 0, 5) else (3, 0, 0) := by
 unfold frameS; rw [if_pos h]
theorem frameS_none {v : Int} {l : List Fld} {k0 : Int} (h : hasL l teN = false) (h2 : valuesL l clN = []) : frameS v l k0 = (k0, 0, 0) := by
 unfold frameS; rw [if_neg (by rw [h]; decide), h2]
theorem frameS_len {v : Int} {l : List Fld} {k0 : Int} {y : ByteArray} {r : List ByteArray} (h : hasL l teN = false) (h2 : valuesL l clN = y :: r) :
  frameS v l k0 = if 0 < r.length ∨ (parseS 10 1000000000 y).2 = 2 then (0, 0, 5) else if (parseS 10 1000000000 y).2 = 0 then (2, (parseS 10 1000000000 y).1, 0) else (0, 0, (parseS 10 1000000000 y).2) := by
 unfold frameS; rw [if_neg (by rw [h]; decide), h2]
theorem valuesL_small {l : List Fld} (h : ShortF l) {n y : ByteArray} (hy : y ∈ valuesL l n) : y.size ≤ maxLen := by
 unfold valuesL at hy
 obtain ⟨f, hf, rfl⟩ := List.mem_map.1 hy
 exact (h f (List.mem_filter.1 hf).1).2
def KVar (w : World) (g : Nat) (k n : Int) : Prop := w.heap[g]? = some (.cells #[.int .i64 k, .int .i64 n] 33 (0, 0))
theorem KVar.keep {w w' : World} {g : Nat} {k n : Int} (h : KVar w g k n) (hb : Below w.heap.size w w') : KVar w' g k n := by
 unfold KVar at *
 rw [hb.block g (Array.getElem?_eq_some_iff.1 h).1]; exact h
theorem sizeK : (Tryz.prog.info? 33).map (·.size) = some 2 := by kernel_rfl
theorem oneK (k n : Int) : (#[.int .i64 k, .int .i64 n] : Array Value).all (·.oneCell') = true := by simp [Value.oneCell']
theorem total_mem {l : List ByteArray} {y : ByteArray} (h : y ∈ l) : y.size + 1 ≤ total l := by
 obtain ⟨k, hk, rfl⟩ := List.getElem_of_mem h
 exact total_at hk (Nat.le_refl _)
theorem listL_small {l : List ByteArray} {y : ByteArray} (h : y ∈ listL l) : y.size ≤ total l := by
 have h1 := total_mem h
 have h2 := total_listL l
 omega
theorem chunkedB_ne {x : List ByteArray} (h : ¬ x.length = 1) : chunkedB x = false := by
 unfold chunkedB
 split
 · exact absurd rfl h
 · rfl

end Go.Proofs.YteoadfckcilalaaGreatDoor
namespace Go.Proofs.YteoadfckcilalaaGreatDoor
open Go.RowKit

def headN : ByteArray := ⟨#[72, 69, 65, 68]⟩
theorem litHead : ([72, 69, 65, 68] : List UInt8) = headN.toList := by rw [ByteArray.toList_eq]; rfl
def noBody (method : ByteArray) (st : Int) : Bool := decide (method = headN) || (decide (100 ≤ st) && decide (st ≤ 199)) || decide (st = 204) || decide (st = 304)
def replyS (method : ByteArray) (st v : Int) (l : List Fld) : Int × Int × Int := if noBody method st = true then (1, 0, 0) else frameS v l 4
theorem noBody_cases (method : ByteArray) (st : Int) : noBody method st = true ∧ (method = headN ∨ ¬ method = headN ∧ 100 ≤ st ∧ st ≤ 199 ∨ ¬ method = headN ∧ st = 204 ∨ ¬ method = headN ∧ st = 304) ∨ noBody method st = false ∧ ¬ method = headN ∧ (st < 100 ∨ 199 < st ∧ ¬ st = 204 ∧ ¬ st = 304) := by
 unfold noBody
 by_cases h0 : method = headN
 · exact .inl ⟨by simp [h0], .inl h0⟩
 · by_cases h1 : 100 ≤ st ∧ st ≤ 199
   · exact .inl ⟨by simp [h1.1, h1.2], .inr (.inl ⟨h0, h1.1, h1.2⟩)⟩
   · by_cases h2 : st = 204
     · exact .inl ⟨by simp [h2], .inr (.inr (.inl ⟨h0, h2⟩))⟩
     · by_cases h3 : st = 304
       · exact .inl ⟨by simp [h3], .inr (.inr (.inr ⟨h0, h3⟩))⟩
       · refine .inr ⟨?_, h0, by omega⟩
         simp [h0, h2, h3]; omega

end Go.Proofs.YteoadfckcilalaaGreatDoor
namespace Go.Proofs.YteoadfckcilalaaGreatDoor
open Go.RowKit

def hexS : ByteArray := ⟨#[48, 49, 50, 51, 52, 53, 54, 55, 56, 57, 97, 98, 99, 100, 101, 102]⟩
theorem hexS_piece_fin : ∀ d : Fin 16, (hexS.extract d.val (d.val + 1)).data.toList = [dgc d.val] := by decide +kernel
theorem hexS_piece {d : Nat} (h : d < 16) : (⟨#[48, 49, 50, 51, 52, 53, 54, 55, 56, 57, 97, 98, 99, 100, 101, 102]⟩ : ByteArray).extract d (d + 1) = ⟨#[dgc d]⟩ := by
 have := hexS_piece_fin ⟨d, h⟩
 apply ByteArray.ext
 apply Array.toList_inj.1
 exact this
theorem one_cat (c : UInt8) (t : List UInt8) : (⟨#[c]⟩ : ByteArray) ++ ⟨t.toArray⟩ = ⟨(c :: t).toArray⟩ := by
 apply ByteArray.ext; simp

set_option maxHeartbeats 1000000 in
theorem refBase10 (n : Nat) (w : World) (hn : (n : Int) ≤ 9223372036854775807) :
  Calls Tryz.prog 79 #[.int .i64 n, .int .i64 10] w fun e w' => e = .returned (.string (numeral 10 n)) ∧ ∃ j, w' = w.drewN j := by
 go_enter Tryz.func79, Tryz.ntmps79
 go_wp2
 go_loopw [5, 0] (fun s m wr => ∃ (k : Nat) (t : List UInt8) (j : Nat), (t.length : Int) + k ≤ n ∧ (t = [] ∨ 0 < k) ∧ m = .int .i64 k ∧ s = .string ⟨t.toArray⟩ ∧ wr = w.drewN j ∧ Hid (digs 10 n = digs 10 k ++ t)) (fun _ m _ => (intOf m).toNat)
 case atStart => exact ⟨n, [], 0, by simp, .inl rfl, rfl, rfl, by simp [World.drewN_zero], Lib.hid (by simp)⟩
 case round =>
  obtain ⟨k, t, j, hk, hne, rfl, rfl, rfl, HD⟩ := hrel
  have HNE := Lib.hid hne
  have hlen : t.length + 1 ≤ 9223372036854775807 := by
   rcases hne with rfl | h
   · simp
   · omega
  clear hne
  obtain ⟨d, hd⟩ : ∃ d : Nat, k % 10 = d := ⟨_, rfl⟩
  have hd9 : d < 10 := by omega
  have HDD := Lib.hid hd
  have hr : ((k : Int).tmod 10) = (d : Int) := by rw [Int.tmod_eq_emod_of_nonneg (by omega)]; omega
  clear hd
  have hw1 : IntKind.i64.wrap (d : Int) = (d : Int) := IntWalk.i64_in _ (by omega)
  have hw2 : IntKind.i64.wrap ((d : Int) + 1) = (d : Int) + 1 := IntWalk.i64_in _ (by omega)
  have hn1 : ((d : Int) + 1).toNat = d + 1 := by omega
  have hi1 : (0 : Int) ≤ d := by omega
  have hi2 : (0 : Int) ≤ d + 1 := by omega
  have hi3 : (d : Int) + 1 ≤ 16 := by omega
  have hi4 : d + 1 ≤ 16 := by omega
  have hi5 : (d : Int) ≤ d + 1 := by omega
  have hp := hexS_piece (d := d) (by omega)
  have hadd : ∀ W, (Op.stringOp .add ⟨#[dgc d]⟩ ⟨t.toArray⟩).run Tryz.prog W = .ok (.string ⟨(dgc d :: t).toArray⟩) W := fun W => by
   have h := run_string_add_sum (P := Tryz.prog) (w := W) ⟨#[dgc d]⟩ ⟨t.toArray⟩ (by show 1 + (t.toArray).size ≤ _; simp; omega)
   rw [one_cat] at h; exact h
  go_wp2_with fail
  go_quiet (fail)
  clear hr hw1 hw2 hn1 hp hadd hi4
  have hq : (k : Int) / 10 = ((k / 10 : Nat) : Int) := by omega
  by_cases hz : k / 10 = 0
  · have hz1 : (k : Int) / 10 = 0 := by omega
    have HZ := Lib.hid hz
    clear hz hq
    go_wp2
    go_ret
    refine ⟨ret_str ?_, _, rfl⟩
    have hs : k < 10 := by have := HZ.out; omega
    unfold numeral
    rw [HD.out, digs_small hs]
    have : k % 10 = k := Nat.mod_eq_of_lt hs
    rw [← HDD.out, this]; rfl
  · have HZ := Lib.hid hz
    have hz2 : ¬ (k : Int) / 10 = 0 := by omega
    clear hz hq
    go_wp2
    go_roundw
    case rel =>
     have hz := HZ.out
     refine ⟨k / 10, dgc d :: t, _, by simp; omega, .inr (by omega), by first | rfl | simp, rfl, rfl, Lib.hid ?_⟩
     rw [HD.out, digs_big (by omega) (show ¬ k < 10 by omega), ← HDD.out]; simp
    case measure => have hz := HZ.out; simp [intOf]; omega

set_option maxHeartbeats 1000000 in
theorem refBase16 (n : Nat) (w : World) (hn : (n : Int) ≤ 9223372036854775807) :
  Calls Tryz.prog 79 #[.int .i64 n, .int .i64 16] w fun e w' => e = .returned (.string (numeral 16 n)) ∧ ∃ j, w' = w.drewN j := by
 go_enter Tryz.func79, Tryz.ntmps79
 go_wp2
 go_loopw [5, 0] (fun s m wr => ∃ (k : Nat) (t : List UInt8) (j : Nat), (t.length : Int) + k ≤ n ∧ (t = [] ∨ 0 < k) ∧ m = .int .i64 k ∧ s = .string ⟨t.toArray⟩ ∧ wr = w.drewN j ∧ Hid (digs 16 n = digs 16 k ++ t)) (fun _ m _ => (intOf m).toNat)
 case atStart => exact ⟨n, [], 0, by simp, .inl rfl, rfl, rfl, by simp [World.drewN_zero], Lib.hid (by simp)⟩
 case round =>
  obtain ⟨k, t, j, hk, hne, rfl, rfl, rfl, HD⟩ := hrel
  have HNE := Lib.hid hne
  have hlen : t.length + 1 ≤ 9223372036854775807 := by
   rcases hne with rfl | h
   · simp
   · omega
  clear hne
  obtain ⟨d, hd⟩ : ∃ d : Nat, k % 16 = d := ⟨_, rfl⟩
  have hd9 : d < 16 := by omega
  have HDD := Lib.hid hd
  have hr : ((k : Int).tmod 16) = (d : Int) := by rw [Int.tmod_eq_emod_of_nonneg (by omega)]; omega
  clear hd
  have hw1 : IntKind.i64.wrap (d : Int) = (d : Int) := IntWalk.i64_in _ (by omega)
  have hw2 : IntKind.i64.wrap ((d : Int) + 1) = (d : Int) + 1 := IntWalk.i64_in _ (by omega)
  have hn1 : ((d : Int) + 1).toNat = d + 1 := by omega
  have hi1 : (0 : Int) ≤ d := by omega
  have hi2 : (0 : Int) ≤ d + 1 := by omega
  have hi3 : (d : Int) + 1 ≤ 16 := by omega
  have hi4 : d + 1 ≤ 16 := by omega
  have hi5 : (d : Int) ≤ d + 1 := by omega
  have hp := hexS_piece (d := d) (by omega)
  have hadd : ∀ W, (Op.stringOp .add ⟨#[dgc d]⟩ ⟨t.toArray⟩).run Tryz.prog W = .ok (.string ⟨(dgc d :: t).toArray⟩) W := fun W => by
   have h := run_string_add_sum (P := Tryz.prog) (w := W) ⟨#[dgc d]⟩ ⟨t.toArray⟩ (by show 1 + (t.toArray).size ≤ _; simp; omega)
   rw [one_cat] at h; exact h
  go_wp2_with fail
  go_quiet (fail)
  clear hr hw1 hw2 hn1 hp hadd hi4
  have hq : (k : Int) / 16 = ((k / 16 : Nat) : Int) := by omega
  by_cases hz : k / 16 = 0
  · have hz1 : (k : Int) / 16 = 0 := by omega
    have HZ := Lib.hid hz
    clear hz hq
    go_wp2
    go_ret
    refine ⟨ret_str ?_, _, rfl⟩
    have hs : k < 16 := by have := HZ.out; omega
    unfold numeral
    rw [HD.out, digs_small hs]
    have : k % 16 = k := Nat.mod_eq_of_lt hs
    rw [← HDD.out, this]; rfl
  · have HZ := Lib.hid hz
    have hz2 : ¬ (k : Int) / 16 = 0 := by omega
    clear hz hq
    go_wp2
    go_roundw
    case rel =>
     have hz := HZ.out
     refine ⟨k / 16, dgc d :: t, _, by simp; omega, .inr (by omega), by first | rfl | simp, rfl, rfl, Lib.hid ?_⟩
     rw [HD.out, digs_big (by omega) (show ¬ k < 16 by omega), ← HDD.out]; simp
    case measure => have hz := HZ.out; simp [intOf]; omega

def fmtS (b : Nat) (n : Int) : ByteArray := if n < 0 then ⟨#[]⟩ else numeral b n.toNat
theorem below_drewN0 (w : World) (j : Nat) : Below w.heap.size w (w.drewN j) := ⟨rfl, rfl, rfl, Nat.le_refl _, fun _ _ => rfl⟩
theorem refBase_neg (n b : Int) (w : World) (hn : n < 0) :
  Calls Tryz.prog 79 #[.int .i64 n, .int .i64 b] w fun e w' => e = .returned (.string ⟨#[]⟩) ∧ w = w' := by
 go_enter Tryz.func79, Tryz.ntmps79
 go_wp2
 go_ret
 exact ⟨rfl, rfl⟩

theorem refDecimal_any (n : Int) (w : World) (h0 : -9223372036854775808 ≤ n) (h1 : n ≤ 9223372036854775807) :
  Calls Tryz.prog 54 #[.int .i64 n] w fun e w' => e = .returned (.string (fmtS 10 n)) ∧ Below w.heap.size w w' := by
 by_cases hn : n < 0
 · go_enter Tryz.func54, Tryz.ntmps54
   go_wp2_with (go_at_call 79; refine (refBase_neg _ _ _ hn).mono ?_; rintro e w' ⟨rfl, rfl⟩)
   go_ret
   exact ⟨ret_str (by unfold fmtS; rw [if_pos hn]), Below.refl _ _⟩
 · obtain ⟨k, rfl⟩ : ∃ k : Nat, n = k := ⟨n.toNat, by omega⟩
   go_enter Tryz.func54, Tryz.ntmps54
   go_wp2_with (go_at_call 79; refine (refBase10 _ _ (by omega)).mono ?_; rintro e w' ⟨rfl, j, rfl⟩)
   go_ret
   exact ⟨ret_str (by unfold fmtS; rw [if_neg (by omega)]; rfl), below_drewN0 _ _⟩
theorem refHex_any (n : Int) (w : World) (h0 : -9223372036854775808 ≤ n) (h1 : n ≤ 9223372036854775807) :
  Calls Tryz.prog 78 #[.int .i64 n] w fun e w' => e = .returned (.string (fmtS 16 n)) ∧ Below w.heap.size w w' := by
 by_cases hn : n < 0
 · go_enter Tryz.func78, Tryz.ntmps78
   go_wp2_with (go_at_call 79; refine (refBase_neg _ _ _ hn).mono ?_; rintro e w' ⟨rfl, rfl⟩)
   go_ret
   exact ⟨ret_str (by unfold fmtS; rw [if_pos hn]), Below.refl _ _⟩
 · obtain ⟨k, rfl⟩ : ∃ k : Nat, n = k := ⟨n.toNat, by omega⟩
   go_enter Tryz.func78, Tryz.ntmps78
   go_wp2_with (go_at_call 79; refine (refBase16 _ _ (by omega)).mono ?_; rintro e w' ⟨rfl, j, rfl⟩)
   go_ret
   exact ⟨ret_str (by unfold fmtS; rw [if_neg (by omega)]; rfl), below_drewN0 _ _⟩
end Go.Proofs.YteoadfckcilalaaGreatDoor
namespace Go.Proofs.YteoadfckcilalaaGreatDoor
open Go.RowKit

def tgB (c : UInt8) : Bool := decide (33 ≤ (c.toNat : Int)) && decide ((c.toNat : Int) ≤ 126) && !decide ((c.toNat : Int) = 35)
def targetS (s : ByteArray) : Bool := s.data.toList.all tgB && (s.data.toList.head? == some 47)
theorem targetS_no {s : ByteArray} {k : Nat} (hlt : k < s.size) (hc : tgB s[k] = false) : targetS s = false := by
 unfold targetS
 have : s.data.toList.all tgB = false := by
  rw [Bool.eq_false_iff]; intro h
  have := List.all_eq_true.1 h _ (mem_at s k hlt); rw [hc] at this; cases this
 rw [this]; rfl
theorem head_at (s : ByteArray) (h : 0 < s.size) : s.data.toList.head? = some s[0] := by
 rw [List.head?_eq_getElem?, List.getElem?_eq_getElem (by simpa using h)]; rfl
theorem targetS_end {s : ByteArray} {k : Nat} (hk : k ≤ s.size) (hlt : ¬ k < s.size) (h : (s.data.toList.take k).all tgB = true) : targetS s = (s.data.toList.head? == some 47) := by
 unfold targetS
 rw [take_all s k hk hlt] at h
 rw [h]; rfl

set_option maxRecDepth 100000 in
set_option maxHeartbeats 1000000 in
theorem refTarget_any (s : ByteArray) (w : World) (hs : s.size ≤ maxLen) :
    Calls Tryz.prog 101 #[.string s] w fun e w' => e = .returned (.bool (targetS s)) ∧ w = w' := by
  unfold maxLen at hs
  go_enter Tryz.func101, Tryz.ntmps101
  go_wp2
  go_loop [3] (fun i => ∃ k : Nat, k ≤ s.size ∧ i = .int .i64 k ∧ Box ((s.data.toList.take k).all tgB = true)) (fun i => s.size - (intOf i).toNat)
  case atStart => exact ⟨0, Nat.zero_le _, rfl, ⟨by simp⟩⟩
  case round =>
    obtain ⟨k, hk, rfl, HP⟩ := hrel
    by_cases hlt : k < s.size
    · have b1 : (s[k].toNat : Int) ≤ 255 := by have := s[k].toNat_lt; omega
      have hcase : Box (tgB s[k] = true) ∧ 33 ≤ (s[k].toNat : Int) ∧ (s[k].toNat : Int) ≤ 126 ∧ ((s[k].toNat : Int) == 35) = false ∨ Box (tgB s[k] = false) ∧ (s[k].toNat : Int) < 33
          ∨ Box (tgB s[k] = false) ∧ 33 ≤ (s[k].toNat : Int) ∧ 126 < (s[k].toNat : Int) ∨ Box (tgB s[k] = false) ∧ 33 ≤ (s[k].toNat : Int) ∧ (s[k].toNat : Int) ≤ 126 ∧ ((s[k].toNat : Int) == 35) = true := by
        by_cases h1 : 33 ≤ (s[k].toNat : Int)
        · by_cases h2 : (s[k].toNat : Int) ≤ 126
          · by_cases h3 : (s[k].toNat : Int) = 35
            · exact .inr (.inr (.inr ⟨⟨by simp [tgB, h3]⟩, h1, h2, by simp [h3]⟩))
            · exact .inl ⟨⟨by simp [tgB, h1, h2, h3]⟩, h1, h2, by rw [beq_eq_false_iff_ne]; exact h3⟩
          · exact .inr (.inr (.inl ⟨⟨by simp [tgB, h2]⟩, h1, by omega⟩))
        · exact .inr (.inl ⟨⟨by simp [tgB, h1]⟩, by omega⟩)
      rcases hcase with ⟨HC, h1, h2, h3⟩ | ⟨HC, h1⟩ | ⟨HC, h1, h2⟩ | ⟨HC, h1, h2, h3⟩
      · go_wp2
        go_round
        case rel => exact ⟨k + 1, by omega, by go_num, ⟨by rw [take_snoc s k hlt, List.all_append, HP.out]; simpa using HC.out⟩⟩
        case measure => simp [intOf]; omega
      all_goals
        go_wp2
        go_ret
        exact ⟨ret_bool (targetS_no hlt HC.out).symm, rfl⟩
    · have HE := Box.mk (targetS_end hk hlt HP.out)
      by_cases h0 : 0 < s.size
      · have HH := Box.mk (head_at s h0)
        have hne : s.toList.isEmpty = false := by rw [ByteArray.toList_eq]; cases hq : s.data.toList with
          | nil => have h9 : s.data.toList.length = 0 := by rw [hq]; rfl
                   rw [Array.length_toList] at h9
                   exact absurd h0 (by show ¬ 0 < s.data.size; omega)
          | cons _ _ => rfl
        by_cases h47 : s[0] = 47
        · have hb : ((s[0].toNat : Int) == 47) = true := by rw [h47]; rfl
          have HR := Box.mk (show targetS s = true by rw [HE.out, HH.out, h47]; rfl)
          clear h47
          go_wp2
          go_ret
          exact ⟨ret_bool HR.out.symm, rfl⟩
        · have hb : ((s[0].toNat : Int) == 47) = false := by
            rw [Bool.eq_false_iff]; intro h; exact h47 (UInt8.toNat_inj.1 (by simp at h; show s[0].toNat = 47; omega))
          have HR := Box.mk (show targetS s = false by rw [HE.out, HH.out, Bool.eq_false_iff]; intro h; simp at h; exact h47 h)
          clear h47
          go_wp2
          go_ret
          exact ⟨ret_bool HR.out.symm, rfl⟩
      · have he : s = ⟨#[]⟩ := ba_ext (by
          have : s.data.toList.length = 0 := by rw [Array.length_toList]; show s.size = 0; omega
          rw [List.eq_nil_of_length_eq_zero this])
        subst he
        go_wp2
        go_ret
        exact ⟨ret_bool (by decide +kernel), rfl⟩
end Go.Proofs.YteoadfckcilalaaGreatDoor
namespace Go.Proofs.YteoadfckcilalaaGreatDoor
open Go.RowKit

def idxI (c : UInt8) (s : ByteArray) : Int := Lib.indexByte s.data.toList c
theorem idxI_ge (c : UInt8) (s : ByteArray) : -1 ≤ idxI c s := Lib.indexByte_ge _ _
theorem idxI_lt (c : UInt8) (s : ByteArray) {k : Nat} (h : idxI c s = k) : k < s.size := by
 have := (Lib.indexByte_some h).1
 have := (List.getElem?_eq_some_iff.1 this).1
 simpa using this
theorem idxI_at (c : UInt8) (s : ByteArray) (k : Nat) (hk : k < s.size) (h : s[k] = c) (hp : ∀ j, j < k → s.data.toList[j]? ≠ some c) : idxI c s = k := by
 have hge := idxI_ge c s
 have hkk : s.data.toList[k]? = some c := by
  rw [List.getElem?_eq_getElem (by simpa using hk)]
  exact congrArg some h
 by_cases h1 : idxI c s = -1
 · exact absurd hkk (Lib.indexByte_none h1 k)
 · obtain ⟨o, ho⟩ : ∃ o : Nat, idxI c s = o := ⟨(idxI c s).toNat, by omega⟩
   have h2 := Lib.indexByte_some ho
   rw [ho]
   congr 1
   rcases Nat.lt_trichotomy o k with h3 | h3 | h3
   · exact absurd h2.1 (hp o h3)
   · exact h3
   · exact absurd hkk (h2.2 k h3)
def v10 : ByteArray := ⟨#[72, 84, 84, 80, 47, 49, 46, 48]⟩
def v11 : ByteArray := ⟨#[72, 84, 84, 80, 47, 49, 46, 49]⟩
theorem lit10 : ([72, 84, 84, 80, 47, 49, 46, 48] : List UInt8) = v10.toList := by rw [ByteArray.toList_eq]; rfl
theorem lit11 : ([72, 84, 84, 80, 47, 49, 46, 49] : List UInt8) = v11.toList := by rw [ByteArray.toList_eq]; rfl
def minorZ (s : ByteArray) : Int := if s = v10 then 0 else if s = v11 then 1 else -1
end Go.Proofs.YteoadfckcilalaaGreatDoor
namespace Go.Proofs.YteoadfckcilalaaGreatDoor
open Go.RowKit

theorem splitB_lim (sep : ByteArray) (h1 : 1 ≤ sep.size) (save : Nat) : ∀ (k : Nat) (s : ByteArray), Lib.countB s sep ≤ k → Lib.splitB sep save k s = Lib.splitB sep save (Lib.countB s sep) s
 | 0, s, h => by rw [Nat.le_zero.1 h]
 | k + 1, s, h => by
  rcases Lib.indexB_cases s sep with hix | ⟨i, hix, _⟩
  · rw [Lib.splitB_miss sep save _ s hix, Lib.splitB_miss sep save _ s hix]
  · have hc := Lib.countB_hit s sep i h1 hix
    rw [hc, Nat.add_comm 1, Lib.splitB_hit sep save _ s i hix, Lib.splitB_hit sep save _ s i hix, splitB_lim sep h1 save k _ (by omega)]
theorem splitB_more (sep : ByteArray) (h1 : 1 ≤ sep.size) (save : Nat) : ∀ (k : Nat) (s : ByteArray), k ≤ Lib.countB s sep → (Lib.splitB sep save k s).length = k + 1
 | 0, _, _ => rfl
 | k + 1, s, h => by
  rcases Lib.indexB_cases s sep with hix | ⟨i, hix, _⟩
  · rw [Lib.countB_miss s sep hix] at h; omega
  · have hc := Lib.countB_hit s sep i h1 hix
    rw [Lib.splitB_hit sep save _ s i hix, List.length_cons, splitB_more sep h1 save k _ (by omega)]
def wordsS (s : ByteArray) : List ByteArray := Lib.splitB ⟨#[32]⟩ 0 (min 4 (s.size + 1) - 1) s
theorem wordsS_eq (s : ByteArray) : wordsS s = splitS 32 s ∨ (wordsS s).length = 4 ∧ (splitS 32 s).length ≠ 3 := by
 unfold wordsS
 rw [← splitB_eq]
 have hz : 1 ≤ (⟨#[32]⟩ : ByteArray).size := by decide
 have hle := Lib.countB_le ⟨#[32]⟩ hz s.size s (Nat.le_refl _)
 by_cases h : Lib.countB s ⟨#[32]⟩ ≤ min 4 (s.size + 1) - 1
 · exact .inl (splitB_lim _ hz _ _ s h)
 · right
   have e : min 4 (s.size + 1) - 1 = 3 := by omega
   rw [e]
   refine ⟨splitB_more _ hz _ 3 s (by omega), ?_⟩
   rw [splitB_more _ hz _ _ s (Nat.le_refl _)]; omega
theorem decode_skip (s : ByteArray) (pos : Nat) (h : pos < s.size) (ha : 128 ≤ (s[pos]'h).toNat) : pos + (Utf8.decode s pos).2 ≤ s.size ∧ ∀ k, k < (Utf8.decode s pos).2 → ∀ hk : pos + k < s.size, 128 ≤ (s[pos + k]'hk).toNat := by
 have hn : ¬ (s[pos]'h).toNat < 128 := by omega
 have hcont : ∀ k, (decide (pos + k < s.size) && ((s.get! (pos + k)).toNat / 64 == 2)) = true → ∃ hk : pos + k < s.size, 128 ≤ (s[pos + k]'hk).toNat := fun k hk => by
  simp only [Bool.and_eq_true, decide_eq_true_eq, beq_iff_eq] at hk
  obtain ⟨h1, h2⟩ := hk
  refine ⟨h1, ?_⟩
  have e : s.get! (pos + k) = s[pos + k]'h1 := by
   have := get_at s (pos + k) h1
   simpa using this
  rw [e] at h2; omega
 have one : pos + 1 ≤ s.size ∧ ∀ k, k < 1 → ∀ hk : pos + k < s.size, 128 ≤ (s[pos + k]'hk).toNat := ⟨by omega, fun k hk hk2 => by
  obtain rfl : k = 0 := by omega
  exact ha⟩
 simp only [Utf8.decode, get_at s pos h, hn, if_false]
 split
 · rename_i h1
   have h1' := (Bool.and_eq_true _ _ ▸ h1 : _ ∧ _).2
   obtain ⟨k1, g1⟩ := hcont 1 h1'
   split
   · refine ⟨by show pos + 2 ≤ _; omega, fun k hk hk2 => ?_⟩
     have hk' : k < 2 := hk
     match k, hk' with
     | 0, _ => exact ha
     | 1, _ => exact g1
   · exact one
 · split
   · rename_i h1
     simp only [Bool.and_eq_true] at h1
     obtain ⟨k1, g1⟩ := hcont 1 (by simpa using h1.1.2)
     obtain ⟨k2, g2⟩ := hcont 2 (by simpa using h1.2)
     split
     · refine ⟨by show pos + 3 ≤ _; omega, fun k hk hk2 => ?_⟩
       have hk' : k < 3 := hk
       match k, hk' with
       | 0, _ => exact ha
       | 1, _ => exact g1
       | 2, _ => exact g2
     · exact one
   · split
     · rename_i h1
       simp only [Bool.and_eq_true] at h1
       obtain ⟨k1, g1⟩ := hcont 1 (by simpa using h1.1.1.2)
       obtain ⟨k2, g2⟩ := hcont 2 (by simpa using h1.1.2)
       obtain ⟨k3, g3⟩ := hcont 3 (by simpa using h1.2)
       split
       · refine ⟨by show pos + 4 ≤ _; omega, fun k hk hk2 => ?_⟩
         have hk' : k < 4 := hk
         match k, hk' with
         | 0, _ => exact ha
         | 1, _ => exact g1
         | 2, _ => exact g2
         | 3, _ => exact g3
       · exact one
     · exact one

def cutS (d : UInt8) (s : ByteArray) : ByteArray × ByteArray :=
 if 0 ≤ idxI d s then (s.extract 0 (idxI d s).toNat, s.extract ((idxI d s).toNat + 1) s.size) else (s, ⟨#[]⟩)
theorem cutS_at {d : UInt8} {s : ByteArray} {k : Nat} (h : idxI d s = k) : cutS d s = (s.extract 0 k, s.extract (k + 1) s.size) := by unfold cutS; rw [h]; simp
theorem cutS_no {d : UInt8} {s : ByteArray} (h : idxI d s = -1) : cutS d s = (s, ⟨#[]⟩) := by unfold cutS; rw [h]; rfl
theorem idxI_cases (d : UInt8) (s : ByteArray) : idxI d s = -1 ∨ ∃ k : Nat, idxI d s = k ∧ k < s.size := by
 have := idxI_ge d s
 by_cases h : idxI d s = -1
 · exact .inl h
 · refine .inr ⟨(idxI d s).toNat, by omega, idxI_lt d s (by omega)⟩
theorem cutS_size1 (d : UInt8) (s : ByteArray) : (cutS d s).1.size ≤ s.size := by
 rcases idxI_cases d s with h | ⟨k, h, hk⟩
 · rw [cutS_no h]; exact Nat.le_refl _
 · rw [cutS_at h]; exact extract_le _ _ _
theorem cutS_size2 (d : UInt8) (s : ByteArray) : (cutS d s).2.size ≤ s.size := by
 rcases idxI_cases d s with h | ⟨k, h, hk⟩
 · rw [cutS_no h]; exact Nat.zero_le _
 · rw [cutS_at h]; exact extract_le _ _ _
end Go.Proofs.YteoadfckcilalaaGreatDoor
namespace Go.Proofs.YteoadfckcilalaaGreatDoor
open Go.RowKit

theorem idxI_one (d : UInt8) (s : ByteArray) (h : (⟨#[d]⟩ : ByteArray) = s) : idxI d s = 0 := by
 subst h
 exact idxI_at d ⟨#[d]⟩ 0 (show 0 < 1 by decide) rfl (fun j hj => absurd hj (Nat.not_lt_zero _))

set_option maxRecDepth 100000 in
set_option maxHeartbeats 2000000 in
theorem idxLiteC_any (d : UInt8) (s c : ByteArray) (w : World) (hz : c.size = 1) (h0 : ∀ h, c[0]'h = d) (hc : c = ⟨#[d]⟩) :
  Calls Tryz.prog 231 #[.string s, .string c] w fun e w' => e = .returned (.int .i64 (idxI d s)) ∧ w = w' := by
 by_cases he : c = s
 · have HE := Box.mk (idxI_one d s (by rw [← hc]; exact he))
   have h1 : (c.toList == s.toList) = true := by rw [toList_eq]; simp [he]
   clear he hc
   go_enter Tryz.func231, Tryz.ntmps231
   go_wp2_with fail
   go_ret
   exact ⟨ret_int HE.out.symm, rfl⟩
 · have h1 : (c.toList == s.toList) = false := by rw [toList_eq]; simp [he]
   clear he hc
   go_enter Tryz.func231, Tryz.ntmps231
   go_wp2_with fail
   refine (indexByteLite_any s d _).mono ?_
   rintro e w1 ⟨rfl, rfl⟩
   go_wp2_with fail
   go_ret
   exact ⟨rfl, rfl⟩

set_option maxRecDepth 100000 in
set_option maxHeartbeats 2000000 in
theorem liteCutC_yes (d : UInt8) (s c : ByteArray) (k : Nat) (w : World) (hs : s.size ≤ maxLen) (hz : c.size = 1) (h0 : ∀ h, c[0]'h = d) (hc : c = ⟨#[d]⟩) (hk : idxI d s = k) :
  Calls Tryz.prog 219 #[.string s, .string c] w fun e w' => e = .returned (.tuple #[.string (s.extract 0 k), .string (s.extract (k + 1) s.size), .bool true]) ∧ Below w.heap.size w w' := by
 have hlt := idxI_lt d s hk
 unfold maxLen at hs
 have HK := Box.mk hk
 have H0 := Box.mk (And.intro h0 hc)
 clear hk h0 hc
 go_enter Tryz.func219, Tryz.ntmps219
 go_wp2_with fail
 refine (idxLiteC_any d s c _ hz H0.out.1 H0.out.2).mono ?_
 rintro e w1 ⟨he, rfl⟩
 rw [HK.out] at he
 subst he
 go_wp2_with fail
 go_quiet (fail)
 go_wp2
 go_ret3
 exact ⟨rfl, below_drewN (Below.refl _ _) _⟩

set_option maxRecDepth 100000 in
set_option maxHeartbeats 2000000 in
theorem liteCutC_no (d : UInt8) (s c : ByteArray) (w : World) (hz : c.size = 1) (h0 : ∀ h, c[0]'h = d) (hc : c = ⟨#[d]⟩) (hk : idxI d s = -1) :
  Calls Tryz.prog 219 #[.string s, .string c] w fun e w' => e = .returned (.tuple #[.string s, .string ⟨#[]⟩, .bool false]) ∧ Below w.heap.size w w' := by
 have HK := Box.mk hk
 have H0 := Box.mk (And.intro h0 hc)
 clear hk h0 hc
 go_enter Tryz.func219, Tryz.ntmps219
 go_wp2_with fail
 refine (idxLiteC_any d s c _ hz H0.out.1 H0.out.2).mono ?_
 rintro e w1 ⟨he, rfl⟩
 rw [HK.out] at he
 subst he
 go_wp2_with fail
 go_ret3
 exact ⟨rfl, Below.refl _ _⟩

set_option maxHeartbeats 2000000 in
theorem cutC_any (d : UInt8) (s : ByteArray) (w : World) (hs : s.size ≤ maxLen) :
  Calls Tryz.prog 199 #[.string s, .string ⟨#[d]⟩] w fun e w' => ∃ b, e = .returned (.tuple #[.string (cutS d s).1, .string (cutS d s).2, .bool b]) ∧ Below w.heap.size w w' := by
 rcases idxI_cases d s with hk | ⟨k, hk, _⟩
 · have HK := Box.mk hk
   have HC := Box.mk (cutS_no hk)
   clear hk
   go_enter Tryz.func199, Tryz.ntmps199
   go_wp2_with fail
   refine (liteCutC_no d s _ _ rfl (fun _ => rfl) rfl HK.out).mono ?_
   rintro e w1 ⟨rfl, hb⟩
   have HB := Box.mk hb
   clear hb
   go_wp2_with fail
   go_ret3
   exact ⟨false, by rw [HC.out]; rfl, HB.out⟩
 · have HK := Box.mk hk
   have HC := Box.mk (cutS_at hk)
   clear hk
   go_enter Tryz.func199, Tryz.ntmps199
   go_wp2_with fail
   refine (liteCutC_yes d s _ k _ hs rfl (fun _ => rfl) rfl HK.out).mono ?_
   rintro e w1 ⟨rfl, hb⟩
   have HB := Box.mk hb
   clear hb
   go_wp2_with fail
   go_ret3
   exact ⟨true, by rw [HC.out]; rfl, HB.out⟩

def versionS (z : Int) : ByteArray := if z = 0 then v10 else if z = 1 then v11 else ⟨#[]⟩
theorem projDigit_any (c : Int) (w : World) (h0 : 0 ≤ c) (h1 : c ≤ 255) :
  Calls Tryz.prog 234 #[.int .u8 c] w fun e w' => e = .returned (.bool (digB c)) ∧ w = w' := by
 go_enter Tryz.func234, Tryz.ntmps234
 go_wp2
 all_goals go_ret
 all_goals exact ⟨ret_bool (by unfold digB; rw [Bool.eq_iff_iff]; simp; omega), rfl⟩
def statB (n : Int) : Bool := decide (100 ≤ n) && decide (n ≤ 599)
theorem isStatus_any (n : Int) (w : World) :
  Calls Tryz.prog 103 #[.int .i64 n] w fun e w' => e = .returned (.bool (statB n)) ∧ w = w' := by
 go_enter Tryz.func103, Tryz.ntmps103
 go_wp2
 all_goals go_ret
 all_goals exact ⟨ret_bool (by unfold statB; rw [Bool.eq_iff_iff]; simp; omega), rfl⟩
end Go.Proofs.YteoadfckcilalaaGreatDoor
namespace Go.Proofs.YteoadfckcilalaaGreatDoor
open Go.RowKit

def pfxB (p s : ByteArray) : Bool := decide (p.size ≤ s.size ∧ s.extract 0 p.size = p)
set_option maxHeartbeats 1000000 in
theorem litePrefix_any (p s : ByteArray) (w : World) :
  Calls Tryz.prog 162 #[.string s, .string p] w fun e w' => e = .returned (.bool (pfxB p s)) ∧ w = w' := by
 by_cases h1 : p.size ≤ s.size
 · by_cases h2 : s.extract 0 p.size = p
   · have HR := Box.mk (show pfxB p s = true by unfold pfxB; simp [h1, h2])
     have hb : ((s.extract 0 p.size).toList == p.toList) = true := by rw [toList_eq]; simp [h2]
     clear h2
     go_enter Tryz.func162, Tryz.ntmps162
     go_wp2_with fail
     go_ret
     exact ⟨ret_bool HR.out.symm, rfl⟩
   · have HR := Box.mk (show pfxB p s = false by unfold pfxB; simp [h2])
     have hb : ((s.extract 0 p.size).toList == p.toList) = false := by rw [toList_eq]; simp [h2]
     clear h2
     go_enter Tryz.func162, Tryz.ntmps162
     go_wp2_with fail
     go_ret
     exact ⟨ret_bool HR.out.symm, rfl⟩
 · have HR := Box.mk (show pfxB p s = false by unfold pfxB; simp [h1])
   have h1' : s.size < p.size := by omega
   clear h1
   go_enter Tryz.func162, Tryz.ntmps162
   go_wp2_with fail
   go_ret
   exact ⟨ret_bool HR.out.symm, rfl⟩
theorem prefix_any (p s : ByteArray) (w : World) :
  Calls Tryz.prog 136 #[.string s, .string p] w fun e w' => e = .returned (.bool (pfxB p s)) ∧ w = w' := by
 go_enter Tryz.func136, Tryz.ntmps136
 go_wp2_with fail
 refine (litePrefix_any p s _).mono ?_
 rintro e w1 ⟨rfl, rfl⟩
 go_wp2_with fail
 go_ret
 exact ⟨rfl, rfl⟩
set_option maxHeartbeats 1000000 in
theorem liteCutPrefix_yes (p s : ByteArray) (w : World) (h : pfxB p s = true) :
  Calls Tryz.prog 243 #[.string s, .string p] w fun e w' => e = .returned (.tuple #[.string (s.extract p.size s.size), .bool true]) ∧ w = w' := by
 have HP := Box.mk h
 have hle : p.size ≤ s.size := by unfold pfxB at h; simp at h; exact h.1
 clear h
 go_enter Tryz.func243, Tryz.ntmps243
 go_wp2_with fail
 refine (litePrefix_any p s _).mono ?_
 rintro e w1 ⟨he, rfl⟩
 rw [HP.out] at he
 subst he
 go_wp2_with fail
 go_ret2
 exact ⟨rfl, rfl⟩
set_option maxHeartbeats 1000000 in
theorem liteCutPrefix_no (p s : ByteArray) (w : World) (h : pfxB p s = false) :
  Calls Tryz.prog 243 #[.string s, .string p] w fun e w' => e = .returned (.tuple #[.string s, .bool false]) ∧ w = w' := by
 have HP := Box.mk h
 clear h
 go_enter Tryz.func243, Tryz.ntmps243
 go_wp2_with fail
 refine (litePrefix_any p s _).mono ?_
 rintro e w1 ⟨he, rfl⟩
 rw [HP.out] at he
 subst he
 go_wp2_with fail
 go_ret2
 exact ⟨rfl, rfl⟩
theorem cutPrefix_yes (p s : ByteArray) (w : World) (h : pfxB p s = true) :
  Calls Tryz.prog 233 #[.string s, .string p] w fun e w' => e = .returned (.tuple #[.string (s.extract p.size s.size), .bool true]) ∧ w = w' := by
 have HP := Box.mk h
 clear h
 go_enter Tryz.func233, Tryz.ntmps233
 go_wp2_with fail
 refine (liteCutPrefix_yes p s _ HP.out).mono ?_
 rintro e w1 ⟨rfl, rfl⟩
 go_wp2_with fail
 go_ret2
 exact ⟨rfl, rfl⟩
theorem cutPrefix_no (p s : ByteArray) (w : World) (h : pfxB p s = false) :
  Calls Tryz.prog 233 #[.string s, .string p] w fun e w' => e = .returned (.tuple #[.string s, .bool false]) ∧ w = w' := by
 have HP := Box.mk h
 clear h
 go_enter Tryz.func233, Tryz.ntmps233
 go_wp2_with fail
 refine (liteCutPrefix_no p s _ HP.out).mono ?_
 rintro e w1 ⟨rfl, rfl⟩
 go_wp2_with fail
 go_ret2
 exact ⟨rfl, rfl⟩

theorem pfx_slash (s : ByteArray) : pfxB ⟨#[47]⟩ s = (s.data.toList.head? == some 47) := by
 unfold pfxB
 have h1 : (⟨#[47]⟩ : ByteArray).size = 1 := rfl
 rw [h1]
 by_cases h : 0 < s.size
 · rw [head_at s h]
   have hl : s.data.toList.length = s.size := by rw [Array.length_toList]; rfl
   have e : (s.extract 0 1).data.toList = [s[0]] := by
    rw [Lib.extract_from_zero]
    cases hq : s.data.toList with
    | nil => rw [hq] at hl; simp at hl; omega
    | cons a t =>
     have : s.data.toList.head? = some s[0] := head_at s h
     rw [hq] at this
     simp at this
     simp [this]
   rw [Bool.eq_iff_iff]
   simp only [decide_eq_true_eq, beq_iff_eq, Option.some.injEq]
   constructor
   · rintro ⟨_, h2⟩
     rw [h2] at e
     simpa using e.symm
   · intro h2
     exact ⟨h, ba_ext (by rw [e, h2])⟩
 · have hl : s.data.toList.length = s.size := by rw [Array.length_toList]; rfl
   have e : s.data.toList = [] := List.eq_nil_of_length_eq_zero (by omega)
   rw [e, Bool.eq_iff_iff]
   simp only [decide_eq_true_eq]
   constructor
   · rintro ⟨h2, _⟩; omega
   · intro h2; simp at h2

theorem take_more (P : UInt8 → Bool) (s : ByteArray) (pos : Nat) (h : (s.data.toList.take pos).all P = true) : ∀ n, pos + n ≤ s.size → (∀ k, k < n → ∀ hk : pos + k < s.size, P (s[pos + k]'hk) = true) → (s.data.toList.take (pos + n)).all P = true
 | 0, _, _ => h
 | n + 1, hle, hk => by
  have ih := take_more P s pos h n (by omega) (fun k hk1 hk2 => hk k (by omega) hk2)
  rw [← Nat.add_assoc, take_snoc s (pos + n) (by omega), List.all_append, ih]
  simpa using hk n (by omega) (by omega)
theorem valB_high {c : UInt8} (h : 128 ≤ c.toNat) : valB c = true := by
 unfold valB; simp; right; omega

set_option maxRecDepth 100000 in
set_option maxHeartbeats 2000000 in
theorem projTarget_any (s : ByteArray) (w : World) :
  Calls Tryz.prog 99 #[.string s] w fun e w' => e = .returned (.bool (targetS s)) ∧ Below w.heap.size w w' := by
 go_enter Tryz.func99, Tryz.ntmps99
 go_wp2_with fail
 go_loopw [] (fun w' => ∃ pos : Nat, w' = w.iter s pos ∧ pos ≤ s.size ∧ Box ((s.data.toList.take pos).all tgB = true)) (fun w' => s.size - w'.iterPos w.heap.size)
 case atStart => exact ⟨0, rfl, Nat.zero_le _, ⟨by simp⟩⟩
 case round =>
  obtain ⟨pos, rfl, hk, HP⟩ := hrel
  by_cases hp : pos < s.size
  · by_cases ha : s[pos].toNat < 128
    · have hnx : ∀ ty, (Instr.next (.pointer (some ⟨w.heap.size, 0, none⟩)) true ty).run Tryz.prog (w.iter s pos) = _ := fun ty => run_next_ascii w s pos ty hp ha
      have hcase : Box (tgB s[pos] = true) ∧ 33 ≤ (s[pos].toNat : Int) ∧ (s[pos].toNat : Int) ≤ 126 ∧ ((s[pos].toNat : Int) == 35) = false ∨ Box (tgB s[pos] = false) ∧ (s[pos].toNat : Int) < 33
        ∨ Box (tgB s[pos] = false) ∧ 33 ≤ (s[pos].toNat : Int) ∧ 126 < (s[pos].toNat : Int) ∨ Box (tgB s[pos] = false) ∧ 33 ≤ (s[pos].toNat : Int) ∧ (s[pos].toNat : Int) ≤ 126 ∧ ((s[pos].toNat : Int) == 35) = true := by
       by_cases h1 : 33 ≤ (s[pos].toNat : Int)
       · by_cases h2 : (s[pos].toNat : Int) ≤ 126
         · by_cases h3 : (s[pos].toNat : Int) = 35
           · exact .inr (.inr (.inr ⟨⟨by simp [tgB, h3]⟩, h1, h2, by simp [h3]⟩))
           · exact .inl ⟨⟨by simp [tgB, h1, h2, h3]⟩, h1, h2, by rw [beq_eq_false_iff_ne]; exact h3⟩
         · exact .inr (.inr (.inl ⟨⟨by simp [tgB, h2]⟩, h1, by omega⟩))
       · exact .inr (.inl ⟨⟨by simp [tgB, h1]⟩, by omega⟩)
      rcases hcase with ⟨HC, h1, h2, h3⟩ | ⟨HC, h1⟩ | ⟨HC, h1, h2⟩ | ⟨HC, h1, h2, h3⟩
      · go_wp2_with fail
        go_roundw
        case rel => exact ⟨pos + 1, rfl, by omega, ⟨by rw [take_snoc s pos hp, List.all_append, HP.out]; simpa using HC.out⟩⟩
        case measure => simp; omega
      all_goals
       go_wp2_with fail
       go_ret
       exact ⟨ret_bool (targetS_no hp HC.out).symm, below_oneF w _⟩
    · have hd := (decode_high s pos hp (by omega)).1
      have hnx : ∀ ty, (Instr.next (.pointer (some ⟨w.heap.size, 0, none⟩)) true ty).run Tryz.prog (w.iter s pos) = _ := fun ty => run_next_any w s pos ty hp
      have HC := Box.mk (show tgB s[pos] = false by unfold tgB; simp; omega)
      generalize (Utf8.decode s pos).1 = r at *
      generalize (Utf8.decode s pos).2 = wd at *
      clear ha
      have h1 : 33 ≤ (r : Int) := by omega
      have h2 : 126 < (r : Int) := by omega
      go_wp2_with fail
      go_ret
      exact ⟨ret_bool (targetS_no hp HC.out).symm, below_oneF w _⟩
  · have hnx : ∀ ty, (Instr.next (.pointer (some ⟨w.heap.size, 0, none⟩)) true ty).run Tryz.prog (w.iter s pos) = _ := fun ty => run_next_end w s pos ty hp
    have HE := Box.mk (targetS_end hk hp HP.out)
    go_wp2_with fail
    refine (prefix_any ⟨#[47]⟩ s _).mono ?_
    rintro e w1 ⟨rfl, rfl⟩
    go_wp2_with fail
    go_ret
    exact ⟨ret_bool (by rw [HE.out]; exact pfx_slash s), below_oneF w _⟩

set_option maxRecDepth 100000 in
set_option maxHeartbeats 2000000 in
theorem isReason_any (s : ByteArray) (w : World) :
  Calls Tryz.prog 104 #[.string s] w fun e w' => e = .returned (.bool (visS s)) ∧ Below w.heap.size w w' := by
 go_enter Tryz.func104, Tryz.ntmps104
 go_wp2_with fail
 go_loopw [] (fun w' => ∃ pos : Nat, w' = w.iter s pos ∧ pos ≤ s.size ∧ Box ((s.data.toList.take pos).all valB = true)) (fun w' => s.size - w'.iterPos w.heap.size)
 case atStart => exact ⟨0, rfl, Nat.zero_le _, ⟨by simp⟩⟩
 case round =>
  obtain ⟨pos, rfl, hk, HP⟩ := hrel
  by_cases hp : pos < s.size
  · by_cases ha : s[pos].toNat < 128
    · have hnx : ∀ ty, (Instr.next (.pointer (some ⟨w.heap.size, 0, none⟩)) true ty).run Tryz.prog (w.iter s pos) = _ := fun ty => run_next_ascii w s pos ty hp ha
      have hcase : Box (valB s[pos] = true) ∧ ((s[pos].toNat : Int) != 9) = false ∧ ((s[pos].toNat : Int) == 127) = false ∨ Box (valB s[pos] = true) ∧ ((s[pos].toNat : Int) != 9) = true ∧ 32 ≤ (s[pos].toNat : Int) ∧ ((s[pos].toNat : Int) == 127) = false
        ∨ Box (valB s[pos] = false) ∧ ((s[pos].toNat : Int) != 9) = true ∧ (s[pos].toNat : Int) < 32 ∨ Box (valB s[pos] = false) ∧ ((s[pos].toNat : Int) != 9) = true ∧ 32 ≤ (s[pos].toNat : Int) ∧ ((s[pos].toNat : Int) == 127) = true := by
       by_cases h9 : (s[pos].toNat : Int) = 9
       · exact .inl ⟨⟨by simp [valB, h9]⟩, by simp [h9], by simp [h9]⟩
       · have e9 : ((s[pos].toNat : Int) != 9) = true := by rw [bne_iff_ne]; exact h9
         by_cases h32 : 32 ≤ (s[pos].toNat : Int)
         · by_cases h127 : (s[pos].toNat : Int) = 127
           · exact .inr (.inr (.inr ⟨⟨by simp [valB, h127]⟩, e9, h32, by simp [h127]⟩))
           · exact .inr (.inl ⟨⟨by simp [valB, h127, h32]⟩, e9, h32, by rw [beq_eq_false_iff_ne]; exact h127⟩)
         · exact .inr (.inr (.inl ⟨⟨by simp [valB, h9, h32]⟩, e9, by omega⟩))
      rcases hcase with ⟨HC, h1, h2⟩ | ⟨HC, h1, h2, h3⟩ | ⟨HC, h1, h2⟩ | ⟨HC, h1, h2, h3⟩
      · go_wp2_with fail
        go_roundw
        case rel => exact ⟨pos + 1, rfl, by omega, ⟨by rw [take_snoc s pos hp, List.all_append, HP.out]; simpa using HC.out⟩⟩
        case measure => simp; omega
      · go_wp2_with fail
        go_roundw
        case rel => exact ⟨pos + 1, rfl, by omega, ⟨by rw [take_snoc s pos hp, List.all_append, HP.out]; simpa using HC.out⟩⟩
        case measure => simp; omega
      all_goals
       go_wp2_with fail
       go_ret
       exact ⟨ret_bool (visS_no hp HC.out).symm, below_oneF w _⟩
    · obtain ⟨hd, hwd⟩ := decode_high s pos hp (by omega)
      obtain ⟨hsk, hby⟩ := decode_skip s pos hp (by omega)
      have hnx : ∀ ty, (Instr.next (.pointer (some ⟨w.heap.size, 0, none⟩)) true ty).run Tryz.prog (w.iter s pos) = _ := fun ty => run_next_any w s pos ty hp
      have HN := Box.mk (take_more valB s pos HP.out _ hsk (fun k h1 h2 => valB_high (hby k h1 h2)))
      clear hby
      generalize (Utf8.decode s pos).1 = r at *
      generalize (Utf8.decode s pos).2 = wd at *
      clear ha
      have h1 : ((r : Int) != 9) = true := by rw [bne_iff_ne]; omega
      have h2 : 32 ≤ (r : Int) := by omega
      have h3 : ((r : Int) == 127) = false := by rw [beq_eq_false_iff_ne]; omega
      go_wp2_with fail
      go_roundw
      case rel => exact ⟨pos + wd, rfl, hsk, HN⟩
      case measure => simp; omega
  · have hnx : ∀ ty, (Instr.next (.pointer (some ⟨w.heap.size, 0, none⟩)) true ty).run Tryz.prog (w.iter s pos) = _ := fun ty => run_next_end w s pos ty hp
    have HE := Box.mk (visS_yes hk hp HP.out)
    go_wp2_with fail
    go_ret
    exact ⟨ret_bool HE.out.symm, below_oneF w _⟩
end Go.Proofs.YteoadfckcilalaaGreatDoor
namespace Go.Proofs.YteoadfckcilalaaGreatDoor
open Go.RowKit

def hslash : ByteArray := ⟨#[72, 84, 84, 80, 47]⟩
def bAt (s : ByteArray) (k : Nat) : UInt8 := s.data.toList.getD k 0
theorem bAt_get (s : ByteArray) (k : Nat) (h : k < s.size) : s[k] = bAt s k := by
 unfold bAt
 rw [List.getD_eq_getElem?_getD, List.getElem?_eq_getElem (by simpa using h)]; rfl
theorem bAt_extract (s : ByteArray) (a b k : Nat) (h : k < (s.extract a b).size) : (s.extract a b)[k]'h = bAt s (a + k) := by
 rw [bAt_get]
 unfold bAt
 rw [Lib.extract_data]
 have h2 : k < b - a := by rw [ByteArray.size_extract] at h; omega
 rw [List.getD_eq_getElem?_getD, List.getD_eq_getElem?_getD, List.getElem?_take_of_lt h2, List.getElem?_drop]
def verB (s : ByteArray) : Bool := pfxB hslash s && decide (s.size = 8) && digB (bAt s 5).toNat && decide (bAt s 6 = 46) && digB (bAt s 7).toNat
theorem eq46 {c : UInt8} (h : c = 46) : ((c.toNat : Int) == 46) = true := by rw [h]; rfl
theorem ne46 {c : UInt8} (h : ¬ c = 46) : ((c.toNat : Int) == 46) = false := by
 rw [Bool.eq_false_iff]; intro h2; exact h (UInt8.toNat_inj.1 (by simp at h2; show c.toNat = 46; omega))
theorem u8_le (c : UInt8) : (c.toNat : Int) ≤ 255 := by have := c.toNat_lt; omega

set_option maxRecDepth 100000 in
set_option maxHeartbeats 1000000 in
theorem isVersion_any (s : ByteArray) (w : World) :
  Calls Tryz.prog 214 #[.string s] w fun e w' => e = .returned (.bool (verB s)) ∧ w = w' := by
 by_cases hp : pfxB hslash s = true
 · have HP := Box.mk hp
   have hle : 5 ≤ s.size := by unfold pfxB at hp; simp at hp; exact hp.1
   clear hp
   by_cases h8 : s.size = 8
   · have hg0 := bAt_extract s 5 s.size 0
     have hg1 := bAt_extract s 5 s.size 1
     have hg2 := bAt_extract s 5 s.size 2
     have hz : (s.extract 5 s.size).size = 3 := by rw [ByteArray.size_extract]; omega
     have HD := Box.mk (show ∀ b : Bool, verB s = (digB (bAt s 5).toNat && decide (bAt s 6 = 46) && digB (bAt s 7).toNat) from fun _ => by unfold verB; rw [HP.out]; simp [h8])
     simp only [Nat.add_zero, Nat.reduceAdd] at hg0 hg1 hg2
     generalize bAt s 5 = c5 at *
     generalize bAt s 6 = c6 at *
     generalize bAt s 7 = c7 at *
     generalize hd : s.extract 5 s.size = d at *
     have HDD := Box.mk hd
     have u5 := u8_le c5
     have u6 := u8_le c6
     have u7 := u8_le c7
     clear hd h8
     by_cases q0 : digB c5.toNat = true
     · have Q0 := Box.mk q0
       clear q0
       by_cases q1 : c6 = 46
       · have e1 := eq46 q1
         have Q1 := Box.mk q1
         clear q1
         go_enter Tryz.func214, Tryz.ntmps214
         go_wp2_with fail
         refine (cutPrefix_yes hslash s _ HP.out).mono ?_
         rintro e w1 ⟨he, rfl⟩
         change e = .returned (.tuple #[.string (s.extract 5 s.size), .bool true]) at he
         rw [HDD.out] at he
         subst he
         go_wp2_with fail
         refine (projDigit_any _ _ (by omega) u5).mono ?_
         rintro e w1 ⟨he, rfl⟩
         rw [Q0.out] at he
         subst he
         go_wp2_with fail
         refine (projDigit_any _ _ (by omega) u7).mono ?_
         rintro e w1 ⟨rfl, rfl⟩
         generalize hq : digB c7.toNat = q
         have HQ := Box.mk hq
         clear hq
         go_wp2_with fail
         go_ret
         exact ⟨ret_bool (by rw [HD.out true, Q0.out, Q1.out, HQ.out]; rfl), rfl⟩
       · have e1 := ne46 q1
         have Q1 := Box.mk q1
         clear q1
         go_enter Tryz.func214, Tryz.ntmps214
         go_wp2_with fail
         refine (cutPrefix_yes hslash s _ HP.out).mono ?_
         rintro e w1 ⟨he, rfl⟩
         change e = .returned (.tuple #[.string (s.extract 5 s.size), .bool true]) at he
         rw [HDD.out] at he
         subst he
         go_wp2_with fail
         refine (projDigit_any _ _ (by omega) u5).mono ?_
         rintro e w1 ⟨he, rfl⟩
         rw [Q0.out] at he
         subst he
         go_wp2_with fail
         go_ret
         exact ⟨ret_bool (by rw [HD.out true, Q0.out, decide_eq_false Q1.out]; rfl), rfl⟩
     · have Q0 := Box.mk (show digB c5.toNat = false by simpa using q0)
       clear q0
       go_enter Tryz.func214, Tryz.ntmps214
       go_wp2_with fail
       refine (cutPrefix_yes hslash s _ HP.out).mono ?_
       rintro e w1 ⟨he, rfl⟩
       change e = .returned (.tuple #[.string (s.extract 5 s.size), .bool true]) at he
       rw [HDD.out] at he
       subst he
       go_wp2_with fail
       refine (projDigit_any _ _ (by omega) u5).mono ?_
       rintro e w1 ⟨he, rfl⟩
       rw [Q0.out] at he
       subst he
       go_wp2_with fail
       go_ret
       exact ⟨ret_bool (by rw [HD.out true, Q0.out]; rfl), rfl⟩
   · have HR := Box.mk (show verB s = false by unfold verB; rw [decide_eq_false h8]; simp)
     have hz : ((((s.extract 5 s.size).size : Nat) : Int) == 3) = false := by rw [beq_eq_false_iff_ne, ByteArray.size_extract]; omega
     generalize hd : s.extract 5 s.size = d at *
     have HDD := Box.mk hd
     clear hd h8
     go_enter Tryz.func214, Tryz.ntmps214
     go_wp2_with fail
     refine (cutPrefix_yes hslash s _ HP.out).mono ?_
     rintro e w1 ⟨he, rfl⟩
     change e = .returned (.tuple #[.string (s.extract 5 s.size), .bool true]) at he
     rw [HDD.out] at he
     subst he
     go_wp2_with fail
     go_ret
     exact ⟨ret_bool HR.out.symm, rfl⟩
 · have HP := Box.mk (show pfxB hslash s = false by simpa using hp)
   have HR := Box.mk (show verB s = false by unfold verB; rw [HP.out]; rfl)
   clear hp
   go_enter Tryz.func214, Tryz.ntmps214
   go_wp2_with fail
   refine (cutPrefix_no hslash s _ HP.out).mono ?_
   rintro e w1 ⟨rfl, rfl⟩
   go_wp2_with fail
   go_ret
   exact ⟨ret_bool HR.out.symm, rfl⟩

def verZ (s : ByteArray) : Int × Int := if s = v10 then (0, 0) else if s = v11 then (1, 0) else if verB s then (0, 6) else (0, 2)
set_option maxHeartbeats 1000000 in
theorem parseVersion_any (s : ByteArray) (w : World) :
  Calls Tryz.prog 191 #[.string s] w fun e w' => e = .returned (.tuple #[.int .i64 (verZ s).1, .int .i64 (verZ s).2]) ∧ w = w' := by
 by_cases h0 : s = v10
 · have HR := Box.mk (show verZ s = (0, 0) by unfold verZ; rw [if_pos h0])
   have h1 : (s.toList == [72, 84, 84, 80, 47, 49, 46, 48]) = true := by rw [lit10, toList_eq]; simp; exact h0
   clear h0
   go_enter Tryz.func191, Tryz.ntmps191
   go_wp2_with fail
   go_ret2
   exact ⟨by rw [HR.out]; rfl, rfl⟩
 · have h1 : (s.toList == [72, 84, 84, 80, 47, 49, 46, 48]) = false := by rw [lit10, toList_eq]; simp; exact h0
   by_cases h2 : s = v11
   · have HR := Box.mk (show verZ s = (1, 0) by unfold verZ; rw [if_neg h0, if_pos h2])
     have h3 : (s.toList == [72, 84, 84, 80, 47, 49, 46, 49]) = true := by rw [lit11, toList_eq]; simp; exact h2
     clear h0 h2
     go_enter Tryz.func191, Tryz.ntmps191
     go_wp2_with fail
     go_ret2
     exact ⟨by rw [HR.out]; rfl, rfl⟩
   · have h3 : (s.toList == [72, 84, 84, 80, 47, 49, 46, 49]) = false := by rw [lit11, toList_eq]; simp; exact h2
     by_cases h4 : verB s = true
     · have HR := Box.mk (show verZ s = (0, 6) by unfold verZ; rw [if_neg h0, if_neg h2, if_pos h4])
       have H4 := Box.mk h4
       clear h0 h2 h4
       go_enter Tryz.func191, Tryz.ntmps191
       go_wp2_with fail
       refine (isVersion_any s _).mono ?_
       rintro e w1 ⟨he, rfl⟩
       rw [H4.out] at he
       subst he
       go_wp2_with fail
       go_ret2
       exact ⟨by rw [HR.out]; rfl, rfl⟩
     · have HR := Box.mk (show verZ s = (0, 2) by unfold verZ; rw [if_neg h0, if_neg h2, if_neg h4])
       have H4 := Box.mk (show verB s = false by simpa using h4)
       clear h0 h2 h4
       go_enter Tryz.func191, Tryz.ntmps191
       go_wp2_with fail
       refine (isVersion_any s _).mono ?_
       rintro e w1 ⟨he, rfl⟩
       rw [H4.out] at he
       subst he
       go_wp2_with fail
       go_ret2
       exact ⟨by rw [HR.out]; rfl, rfl⟩

def codeZ (s : ByteArray) : Int := if s.size = 3 then (parseS 10 599 s).1 else 0
set_option maxHeartbeats 1000000 in
theorem parseCode_any (s : ByteArray) (w : World) (hs : s.size ≤ maxLen) :
  Calls Tryz.prog 200 #[.string s] w fun e w' => e = .returned (.int .i64 (codeZ s)) ∧ w = w' := by
 by_cases h3 : s.size = 3
 · have HR := Box.mk (show codeZ s = (parseS 10 599 s).1 by unfold codeZ; rw [if_pos h3])
   have hb : (((s.size : Nat) : Int) != 3) = false := by rw [h3]; rfl
   clear h3
   go_enter Tryz.func200, Tryz.ntmps200
   go_wp2_with fail
   refine (parseDecimal_any s 599 _ hs (by decide) (by decide)).mono ?_
   rintro e w1 ⟨he, rfl⟩
   generalize hq : parseS 10 599 s = q at he
   have HQ := Box.mk hq
   clear hq
   subst he
   go_wp2_with fail
   go_ret
   exact ⟨ret_int (by rw [HR.out, HQ.out]), rfl⟩
 · have HR := Box.mk (show codeZ s = 0 by unfold codeZ; rw [if_neg h3])
   have hb : (((s.size : Nat) : Int) != 3) = true := by rw [bne_iff_ne]; omega
   clear h3
   go_enter Tryz.func200, Tryz.ntmps200
   go_wp2_with fail
   go_ret
   exact ⟨ret_int HR.out.symm, rfl⟩
end Go.Proofs.YteoadfckcilalaaGreatDoor
namespace Go.Proofs.YteoadfckcilalaaGreatDoor
open Go.RowKit

section
variable {Q : Exit → Act → World → Prop} {a : Act} {w : World} {o : Oper} {s : Spec}
theorem loc_addS {x y : Operand} {t : TypeId} (ho : o.op = .binOp .add 9 x y t) {b c : ByteArray} (hx : a.eval x = .string b) (hy : a.eval y = .string c) (hn : b.size + c.size ≤ 4000000000) (hs : s.p (.string (b ++ c)) w) :
  o.wp Tryz.prog a w (fun a' w' => ∃ v, a' = a.put o.dst v ∧ Below w.heap.size w w' ∧ s.p v w') Q :=
 loc_run (v := .string (b ++ c)) (by
  have h := run_string_add_sum (P := Tryz.prog) (w := w) b c (by omega)
  unfold execOp
  simp [ho, hx, hy, eqGuard, binOp, h, Result.andThen]) (Below.refl _ _) hs
theorem loc_cell {x : Operand} {t : TypeId} (ho : o.op = .load t x) {p : Addr} (hx : a.eval x = .pointer (some p)) {v : Value} (hc : w.cell? p = some v) (ht : (isAgg t).run Tryz.prog w = .ok false w) (hs : s.p v w) :
  o.wp Tryz.prog a w (fun a' w' => ∃ v, a' = a.put o.dst v ∧ Below w.heap.size w w' ∧ s.p v w') Q :=
 loc_load ho (v := v) (by
  rw [hx]
  simp [Instr.loadAt, Instr.sureAddr, loadVar, hc, ht]) hs
theorem agg_string (w : World) : (isAgg 9).run Tryz.prog w = .ok false w := by
 unfold isAgg; rw [Sem.run_bind, run_underlying Tryz.underlying9 w]; rfl
theorem agg_int (w : World) : (isAgg 3).run Tryz.prog w = .ok false w := by
 unfold isAgg; rw [Sem.run_bind, run_underlying Tryz.underlying3 w]; rfl
theorem run_fieldR (W : World) (g i : Nat) (h : i < 6) : (Instr.fieldAt 29 (.pointer (some ⟨g, 0, none⟩)) i).run Tryz.prog W = .ok (.pointer (some ⟨g, i, none⟩)) W := by
 match i, h with
 | 0, _ => simp [Instr.fieldAt, run_underlying Tryz.underlying29, Instr.sureAddr, fieldPlace, Addr.add]
 | 1, _ => simp [Instr.fieldAt, run_underlying Tryz.underlying29, Instr.sureAddr, fieldPlace, Addr.add]
 | 2, _ => simp [Instr.fieldAt, run_underlying Tryz.underlying29, Instr.sureAddr, fieldPlace, Addr.add]
 | 3, _ => simp [Instr.fieldAt, run_underlying Tryz.underlying29, Instr.sureAddr, fieldPlace, Addr.add]
 | 4, _ => simp [Instr.fieldAt, run_underlying Tryz.underlying29, Instr.sureAddr, fieldPlace, Addr.add]
 | 5, _ => simp [Instr.fieldAt, run_underlying Tryz.underlying29, Instr.sureAddr, fieldPlace, Addr.add]
theorem loc_fieldR {x : Operand} {i : Nat} (ho : o.op = .fieldAddr 29 x i) {g : Nat} (hx : a.eval x = .pointer (some ⟨g, 0, none⟩)) (hi : i < 6) (hs : s.p (.pointer (some ⟨g, i, none⟩)) w) :
  o.wp Tryz.prog a w (fun a' w' => ∃ v, a' = a.put o.dst v ∧ Below w.heap.size w w' ∧ s.p v w') Q :=
 loc_run (v := .pointer (some ⟨g, i, none⟩)) (by unfold execOp; rw [ho]; simp only [hx, Sem.run_bind, run_fieldR _ _ _ hi, Result.andThen_ok, Sem.run_pure]) (Below.refl _ _) hs
end

def http1 : ByteArray := ⟨#[32, 72, 84, 84, 80, 47, 49, 46]⟩
def fmtReq (m t : ByteArray) (z : Int) : ByteArray :=
 if tokS m = true ∧ targetS t = true ∧ 0 ≤ z ∧ z ≤ 1 then m ++ ⟨#[32]⟩ ++ t ++ http1 ++ fmtS 10 z else ⟨#[]⟩
theorem fmtS_small {z : Int} (h0 : 0 ≤ z) (h1 : z ≤ 1) : (fmtS 10 z).size ≤ 1000 := by
 have : z = 0 ∨ z = 1 := by omega
 rcases this with rfl | rfl
 · decide +kernel
 · decide +kernel

set_option maxRecDepth 100000 in
set_option maxHeartbeats 2000000 in
theorem refFormatReq_any (m t : ByteArray) (z : Int) (fa ba : Option Addr) (fn fc bn bc : Nat) (fr : Bool) (w : World) (hm : m.size ≤ 1000000000) (ht : t.size ≤ 1000000000) :
  Calls Tryz.prog 70 #[.agg #[.string m, .string t, .int .i64 z, .slice fa fn fc, .bool fr, .slice ba bn bc]] w fun e w' => e = .returned (.string (fmtReq m t z)) ∧ Below w.heap.size w w' := by
 have HB0 := Box.mk (below_oneF w (.cells #[.string m, .string t, .int .i64 z, .slice fa fn fc, .bool fr, .slice ba bn bc] 29))
 have hml : m.size ≤ maxLen := by unfold maxLen; omega
 have htl : t.size ≤ maxLen := by unfold maxLen; omega
 by_cases h1 : tokS m = true
 · by_cases h2 : targetS t = true
   · by_cases h3 : 0 ≤ z ∧ z ≤ 1
     · have HR := Box.mk (show fmtReq m t z = m ++ ⟨#[32]⟩ ++ t ++ http1 ++ fmtS 10 z by unfold fmtReq; rw [if_pos ⟨h1, h2, h3⟩])
       obtain ⟨z0, z1⟩ := h3
       have HD := Box.mk (fmtS_small z0 z1)
       have HRow := Box.mk (show (w.alloc (.cells #[.string m, .string t, .int .i64 z, .slice fa fn fc, .bool fr, .slice ba bn bc] 29)).heap[w.heap.size]? = some (.cells #[.string m, .string t, .int .i64 z, .slice fa fn fc, .bool fr, .slice ba bn bc] 29 (0, 0)) from heap_alloc_new _ _)
       go_enter Tryz.func70, Tryz.ntmps70
       go_wp2_with fail
       refine (refToken_any m _ hml).mono ?_
       rintro e w1 ⟨rfl, rfl⟩
       go_wp2_with fail
       refine (refTarget_any t _ htl).mono ?_
       rintro e w1 ⟨rfl, rfl⟩
       go_wp2_with fail
       have HRW := HRow
       generalize (w.alloc (.cells #[.string m, .string t, .int .i64 z, .slice fa fn fc, .bool fr, .slice ba bn bc] 29)) = W at *
       generalize hg : w.heap.size = g at *
       have HG := Box.mk hg
       clear hg
       rename_i K hK
       have s1 : (m ++ ⟨#[32]⟩).size = m.size + 1 := by rw [ByteArray.size_append]; rfl
       have s2 : (m ++ ⟨#[32]⟩ ++ t).size = m.size + 1 + t.size := by rw [ByteArray.size_append, s1]
       have s3 : (m ++ ⟨#[32]⟩ ++ t ++ http1).size = m.size + 1 + t.size + 8 := by rw [ByteArray.size_append, s2]; rfl
       refine wp_region_local (S := [.val (.pointer (some ⟨g, 0, none⟩)), .val (.string m), .val (.string (m ++ ⟨#[32]⟩)), .val (.pointer (some ⟨g, 1, none⟩)), .val (.string t), .val (.string (m ++ ⟨#[32]⟩ ++ t)), .val (.string (m ++ ⟨#[32]⟩ ++ t ++ http1)),
        .val (.pointer (some ⟨g, 2, none⟩)), .val (.int .i64 z), .val (.string (fmtS 10 z)), .val (.string (m ++ ⟨#[32]⟩ ++ t ++ http1 ++ fmtS 10 z)), .val (.string (m ++ ⟨#[32]⟩ ++ t ++ http1 ++ fmtS 10 z))])
        (by kernel_rfl) (by kernel_rfl) (by kernel_rfl) ?_ ?_
       · have cell : ∀ w' i v, Below W.heap.size W w' → (#[.string m, .string t, .int .i64 z, .slice fa fn fc, .bool fr, .slice ba bn bc] : Array Value)[i]? = some v → w'.cell? ⟨g, i, none⟩ = some v := fun w' i v hb hv => below_cell hb (by rw [cell_of_row _ _ _ _ _ _ HRW.out]; exact hv)
         refine ⟨?_, ?_, ?_, ?_, ?_, ?_, ?_, ?_, ?_, ?_, ?_, ?_, trivial⟩ <;> intro a w3 hb hf hd
         · exact ⟨wanted_none rfl, loc_fieldR rfl (hf.base 1 rfl) (by decide) rfl⟩
         · exact ⟨wanted_none rfl, loc_cell rfl (hd 0 rfl) (cell w3 0 _ hb rfl) (agg_string _) rfl⟩
         · exact ⟨wanted_none rfl, loc_addS rfl (hd 1 rfl) rfl (by show m.size + 1 ≤ _; omega) rfl⟩
         · exact ⟨wanted_none rfl, loc_fieldR rfl (hf.base 1 rfl) (by decide) rfl⟩
         · exact ⟨wanted_none rfl, loc_cell rfl (hd 3 rfl) (cell w3 1 _ hb rfl) (agg_string _) rfl⟩
         · exact ⟨wanted_none rfl, loc_addS rfl (hd 2 rfl) (hd 4 rfl) (by rw [s1]; omega) rfl⟩
         · exact ⟨wanted_none rfl, loc_addS (c := http1) rfl (hd 5 rfl) rfl (by rw [s2]; show _ + 8 ≤ _; omega) rfl⟩
         · exact ⟨wanted_none rfl, loc_fieldR rfl (hf.base 1 rfl) (by decide) rfl⟩
         · exact ⟨wanted_none rfl, loc_cell rfl (hd 7 rfl) (cell w3 2 _ hb rfl) (agg_int _) rfl⟩
         · refine ⟨wanted_none rfl, loc_call rfl (by kernel_rfl) ?_⟩
           show Calls _ _ #[a.eval (.tmp 31)] w3 _
           rw [show a.eval (.tmp 31) = .int .i64 z from hd 8 rfl]
           refine (refDecimal_any z w3 (by omega) (by omega)).mono ?_
           rintro e w' ⟨rfl, hb'⟩
           exact ⟨_, rfl, hb', rfl⟩
         · exact ⟨wanted_none rfl, loc_addS rfl (hd 6 rfl) (hd 9 rfl) (by rw [s3]; have := HD.out; omega) rfl⟩
         · exact ⟨wanted_none rfl, loc_assign rfl (hd 10 rfl)⟩
       · intro a w3 hb hf hh
         refine hK a w3 ?_
         go_wp2_with fail
         exact local_ret rfl hf.defers (show a.eval (.tmp 2) = .string (m ++ ⟨#[32]⟩ ++ t ++ http1 ++ fmtS 10 z) from hh 11 (by decide)) ⟨ret_str HR.out.symm, by have := HG.out; have h9 := HB0.out; rw [← this] at h9; exact below_trans h9 hb⟩
     · have HR := Box.mk (show fmtReq m t z = ⟨#[]⟩ by unfold fmtReq; rw [if_neg (fun h => h3 h.2.2)])
       have hz : z < 0 ∨ 0 ≤ z ∧ 1 < z := by omega
       clear h3
       rcases hz with hz | ⟨hz0, hz1⟩
       all_goals
        go_enter Tryz.func70, Tryz.ntmps70
        go_wp2_with fail
        refine (refToken_any m _ hml).mono ?_
        rintro e w1 ⟨rfl, rfl⟩
        go_wp2_with fail
        refine (refTarget_any t _ htl).mono ?_
        rintro e w1 ⟨rfl, rfl⟩
        go_wp2_with fail
        go_ret
        exact ⟨ret_str HR.out.symm, HB0.out⟩
   · have h2' : targetS t = false := by simpa using h2
     have HR := Box.mk (show fmtReq m t z = ⟨#[]⟩ by unfold fmtReq; rw [if_neg (fun h => h2 h.2.1)])
     clear h2
     go_enter Tryz.func70, Tryz.ntmps70
     go_wp2_with fail
     refine (refToken_any m _ hml).mono ?_
     rintro e w1 ⟨rfl, rfl⟩
     go_wp2_with fail
     refine (refTarget_any t _ htl).mono ?_
     rintro e w1 ⟨rfl, rfl⟩
     go_wp2_with fail
     go_ret
     exact ⟨ret_str HR.out.symm, HB0.out⟩
 · have h1' : tokS m = false := by simpa using h1
   have HR := Box.mk (show fmtReq m t z = ⟨#[]⟩ by unfold fmtReq; rw [if_neg (fun h => h1 h.1)])
   clear h1
   go_enter Tryz.func70, Tryz.ntmps70
   go_wp2_with fail
   refine (refToken_any m _ hml).mono ?_
   rintro e w1 ⟨rfl, rfl⟩
   go_wp2_with fail
   go_ret
   exact ⟨ret_str HR.out.symm, HB0.out⟩
end Go.Proofs.YteoadfckcilalaaGreatDoor
namespace Go.Proofs.YteoadfckcilalaaGreatDoor
open Go.RowKit

section
variable {Q : Exit → Act → World → Prop} {a : Act} {w : World} {o : Oper} {s : Spec}
theorem run_fieldA (W : World) (g i : Nat) (h : i < 5) : (Instr.fieldAt 31 (.pointer (some ⟨g, 0, none⟩)) i).run Tryz.prog W = .ok (.pointer (some ⟨g, i, none⟩)) W := by
 match i, h with
 | 0, _ => simp [Instr.fieldAt, run_underlying Tryz.underlying31, Instr.sureAddr, fieldPlace, Addr.add]
 | 1, _ => simp [Instr.fieldAt, run_underlying Tryz.underlying31, Instr.sureAddr, fieldPlace, Addr.add]
 | 2, _ => simp [Instr.fieldAt, run_underlying Tryz.underlying31, Instr.sureAddr, fieldPlace, Addr.add]
 | 3, _ => simp [Instr.fieldAt, run_underlying Tryz.underlying31, Instr.sureAddr, fieldPlace, Addr.add]
 | 4, _ => simp [Instr.fieldAt, run_underlying Tryz.underlying31, Instr.sureAddr, fieldPlace, Addr.add]
theorem loc_fieldA {x : Operand} {i : Nat} (ho : o.op = .fieldAddr 31 x i) {g : Nat} (hx : a.eval x = .pointer (some ⟨g, 0, none⟩)) (hi : i < 5) (hs : s.p (.pointer (some ⟨g, i, none⟩)) w) :
  o.wp Tryz.prog a w (fun a' w' => ∃ v, a' = a.put o.dst v ∧ Below w.heap.size w w' ∧ s.p v w') Q :=
 loc_run (v := .pointer (some ⟨g, i, none⟩)) (by unfold execOp; rw [ho]; simp only [hx, Sem.run_bind, run_fieldA _ _ _ hi, Result.andThen_ok, Sem.run_pure]) (Below.refl _ _) hs
end

def http0 : ByteArray := ⟨#[72, 84, 84, 80, 47, 49, 46]⟩
def fmtRep (st : Int) (r : ByteArray) (z : Int) : ByteArray :=
 if 100 ≤ st ∧ st ≤ 599 ∧ 0 ≤ z ∧ z ≤ 1 ∧ visS r = true then http0 ++ fmtS 10 z ++ ⟨#[32]⟩ ++ fmtS 10 st ++ ⟨#[32]⟩ ++ r else ⟨#[]⟩
theorem fmtS_code {z : Int} (h0 : 0 ≤ z) (h1 : z ≤ 599) : (fmtS 10 z).size ≤ 1000 := by
 obtain ⟨k, rfl⟩ : ∃ k : Nat, z = k := ⟨z.toNat, by omega⟩
 have hk : k < 600 := by omega
 have h : ∀ m : Fin 600, (fmtS 10 (m.val : Int)).size ≤ 1000 := by decide +kernel
 exact h ⟨k, hk⟩

set_option maxRecDepth 100000 in
set_option maxHeartbeats 2000000 in
theorem refFormatRep_any (st : Int) (r : ByteArray) (z : Int) (fa ba : Option Addr) (fn fc bn bc : Nat) (w : World) (hr : r.size ≤ 1000000000) :
  Calls Tryz.prog 74 #[.agg #[.int .i64 st, .string r, .int .i64 z, .slice fa fn fc, .slice ba bn bc]] w fun e w' => e = .returned (.string (fmtRep st r z)) ∧ Below w.heap.size w w' := by
 have HB0 := Box.mk (below_oneF w (.cells #[.int .i64 st, .string r, .int .i64 z, .slice fa fn fc, .slice ba bn bc] 31))
 have hrl : r.size ≤ maxLen := by unfold maxLen; omega
 by_cases h0 : (100 ≤ st ∧ st ≤ 599) ∧ 0 ≤ z ∧ z ≤ 1
 · obtain ⟨⟨t0, t1⟩, z0, z1⟩ := h0
   by_cases h1 : visS r = true
   · have HR := Box.mk (show fmtRep st r z = http0 ++ fmtS 10 z ++ ⟨#[32]⟩ ++ fmtS 10 st ++ ⟨#[32]⟩ ++ r by unfold fmtRep; rw [if_pos ⟨t0, t1, z0, z1, h1⟩])
     have HD := Box.mk (And.intro (fmtS_small z0 z1) (fmtS_code (by omega) t1))
     have HRow := Box.mk (show (w.alloc (.cells #[.int .i64 st, .string r, .int .i64 z, .slice fa fn fc, .slice ba bn bc] 31)).heap[w.heap.size]? = some (.cells #[.int .i64 st, .string r, .int .i64 z, .slice fa fn fc, .slice ba bn bc] 31 (0, 0)) from heap_alloc_new _ _)
     go_enter Tryz.func74, Tryz.ntmps74
     go_wp2_with fail
     refine (visible_any r _ hrl).mono ?_
     rintro e w1 ⟨rfl, rfl⟩
     go_wp2_with fail
     have HRW := HRow
     generalize (w.alloc (.cells #[.int .i64 st, .string r, .int .i64 z, .slice fa fn fc, .slice ba bn bc] 31)) = W at *
     generalize hg : w.heap.size = g at *
     have HG := Box.mk hg
     clear hg
     rename_i K hK
     have s1 : (http0 ++ fmtS 10 z).size ≤ 1007 := by rw [ByteArray.size_append]; show 7 + _ ≤ _; have := HD.out.1; omega
     have s2 : (http0 ++ fmtS 10 z ++ ⟨#[32]⟩).size ≤ 1008 := by rw [ByteArray.size_append]; show _ + 1 ≤ _; omega
     have s3 : (http0 ++ fmtS 10 z ++ ⟨#[32]⟩ ++ fmtS 10 st).size ≤ 2008 := by rw [ByteArray.size_append]; have := HD.out.2; omega
     have s4 : (http0 ++ fmtS 10 z ++ ⟨#[32]⟩ ++ fmtS 10 st ++ ⟨#[32]⟩).size ≤ 2009 := by rw [ByteArray.size_append]; show _ + 1 ≤ _; omega
     refine wp_region_local (S := [.val (.pointer (some ⟨g, 2, none⟩)), .val (.int .i64 z), .val (.string (fmtS 10 z)), .val (.string (http0 ++ fmtS 10 z)), .val (.string (http0 ++ fmtS 10 z ++ ⟨#[32]⟩)),
      .val (.pointer (some ⟨g, 0, none⟩)), .val (.int .i64 st), .val (.string (fmtS 10 st)), .val (.string (http0 ++ fmtS 10 z ++ ⟨#[32]⟩ ++ fmtS 10 st)), .val (.string (http0 ++ fmtS 10 z ++ ⟨#[32]⟩ ++ fmtS 10 st ++ ⟨#[32]⟩)),
      .val (.pointer (some ⟨g, 1, none⟩)), .val (.string r), .val (.string (http0 ++ fmtS 10 z ++ ⟨#[32]⟩ ++ fmtS 10 st ++ ⟨#[32]⟩ ++ r)), .val (.string (http0 ++ fmtS 10 z ++ ⟨#[32]⟩ ++ fmtS 10 st ++ ⟨#[32]⟩ ++ r))])
      (by kernel_rfl) (by kernel_rfl) (by kernel_rfl) ?_ ?_
     · have cell : ∀ w' i v, Below W.heap.size W w' → (#[.int .i64 st, .string r, .int .i64 z, .slice fa fn fc, .slice ba bn bc] : Array Value)[i]? = some v → w'.cell? ⟨g, i, none⟩ = some v := fun w' i v hb hv => below_cell hb (by rw [cell_of_row _ _ _ _ _ _ HRW.out]; exact hv)
       refine ⟨?_, ?_, ?_, ?_, ?_, ?_, ?_, ?_, ?_, ?_, ?_, ?_, ?_, ?_, trivial⟩ <;> intro a w3 hb hf hd
       · exact ⟨wanted_none rfl, loc_fieldA rfl (hf.base 1 rfl) (by decide) rfl⟩
       · exact ⟨wanted_none rfl, loc_cell rfl (hd 0 rfl) (cell w3 2 _ hb rfl) (agg_int _) rfl⟩
       · refine ⟨wanted_none rfl, loc_call rfl (by kernel_rfl) ?_⟩
         show Calls _ _ #[a.eval (.tmp 28)] w3 _
         rw [show a.eval (.tmp 28) = .int .i64 z from hd 1 rfl]
         refine (refDecimal_any z w3 (by omega) (by omega)).mono ?_
         rintro e w' ⟨rfl, hb'⟩
         exact ⟨_, rfl, hb', rfl⟩
       · exact ⟨wanted_none rfl, loc_addS (b := http0) rfl rfl (hd 2 rfl) (by show 7 + _ ≤ _; have := HD.out.1; omega) rfl⟩
       · exact ⟨wanted_none rfl, loc_addS rfl (hd 3 rfl) rfl (by show _ + 1 ≤ _; omega) rfl⟩
       · exact ⟨wanted_none rfl, loc_fieldA rfl (hf.base 1 rfl) (by decide) rfl⟩
       · exact ⟨wanted_none rfl, loc_cell rfl (hd 5 rfl) (cell w3 0 _ hb rfl) (agg_int _) rfl⟩
       · refine ⟨wanted_none rfl, loc_call rfl (by kernel_rfl) ?_⟩
         show Calls _ _ #[a.eval (.tmp 33)] w3 _
         rw [show a.eval (.tmp 33) = .int .i64 st from hd 6 rfl]
         refine (refDecimal_any st w3 (by omega) (by omega)).mono ?_
         rintro e w' ⟨rfl, hb'⟩
         exact ⟨_, rfl, hb', rfl⟩
       · exact ⟨wanted_none rfl, loc_addS rfl (hd 4 rfl) (hd 7 rfl) (by have := HD.out.2; omega) rfl⟩
       · exact ⟨wanted_none rfl, loc_addS rfl (hd 8 rfl) rfl (by show _ + 1 ≤ _; omega) rfl⟩
       · exact ⟨wanted_none rfl, loc_fieldA rfl (hf.base 1 rfl) (by decide) rfl⟩
       · exact ⟨wanted_none rfl, loc_cell rfl (hd 10 rfl) (cell w3 1 _ hb rfl) (agg_string _) rfl⟩
       · exact ⟨wanted_none rfl, loc_addS rfl (hd 9 rfl) (hd 11 rfl) (by omega) rfl⟩
       · exact ⟨wanted_none rfl, loc_assign rfl (hd 12 rfl)⟩
     · intro a w3 hb hf hh
       refine hK a w3 ?_
       go_wp2_with fail
       exact local_ret rfl hf.defers (show a.eval (.tmp 2) = .string (http0 ++ fmtS 10 z ++ ⟨#[32]⟩ ++ fmtS 10 st ++ ⟨#[32]⟩ ++ r) from hh 13 (by decide)) ⟨ret_str HR.out.symm, by have := HG.out; have h9 := HB0.out; rw [← this] at h9; exact below_trans h9 hb⟩
   · have h1' : visS r = false := by simpa using h1
     have HR := Box.mk (show fmtRep st r z = ⟨#[]⟩ by unfold fmtRep; rw [if_neg (fun h => h1 h.2.2.2.2)])
     clear h1
     go_enter Tryz.func74, Tryz.ntmps74
     go_wp2_with fail
     refine (visible_any r _ hrl).mono ?_
     rintro e w1 ⟨rfl, rfl⟩
     go_wp2_with fail
     go_ret
     exact ⟨ret_str HR.out.symm, HB0.out⟩
 · have HR := Box.mk (show fmtRep st r z = ⟨#[]⟩ by unfold fmtRep; rw [if_neg (fun h => h0 ⟨⟨h.1, h.2.1⟩, h.2.2.1, h.2.2.2.1⟩)])
   have hz : st < 100 ∨ (100 ≤ st ∧ 599 < st) ∨ (100 ≤ st ∧ st ≤ 599 ∧ z < 0) ∨ (100 ≤ st ∧ st ≤ 599 ∧ 0 ≤ z ∧ 1 < z) := by omega
   clear h0
   rcases hz with hz | ⟨t0, hz⟩ | ⟨t0, t1, hz⟩ | ⟨t0, t1, z0, hz⟩
   all_goals
    go_enter Tryz.func74, Tryz.ntmps74
    go_wp2_with fail
    go_ret
    exact ⟨ret_str HR.out.symm, HB0.out⟩
end Go.Proofs.YteoadfckcilalaaGreatDoor
namespace Go.Proofs.YteoadfckcilalaaGreatDoor
open Go.RowKit

def AVar (w : World) (g : Nat) (st : Int) (r : ByteArray) (z : Int) : Prop := w.heap[g]? = some (.cells #[.int .i64 st, .string r, .int .i64 z, .slice none 0 0, .slice none 0 0] 31 (0, 0))
theorem AVar.keep {w w' : World} {g : Nat} {st : Int} {r : ByteArray} {z : Int} (h : AVar w g st r z) (hb : Below w.heap.size w w') : AVar w' g st r z := by
 unfold AVar at *
 rw [hb.block g (Array.getElem?_eq_some_iff.1 h).1]; exact h
theorem sizeA : (Tryz.prog.info? 31).map (·.size) = some 5 := by kernel_rfl
theorem oneA (st : Int) (r : ByteArray) (z : Int) : (#[.int .i64 st, .string r, .int .i64 z, .slice none 0 0, .slice none 0 0] : Array Value).all (·.oneCell') = true := by simp [Value.oneCell']
def replyV : Option (Int × ByteArray × Int) → Value
 | some f => .tuple #[.agg #[.int .i64 f.1, .string f.2.1, .int .i64 f.2.2, .slice none 0 0, .slice none 0 0], .int .i64 0]
 | none => .tuple #[.agg #[.int .i64 0, .string ⟨#[]⟩, .int .i64 0, .slice none 0 0, .slice none 0 0], .int .i64 2]
def reasonS (s : ByteArray) : ByteArray := if 12 < s.size then s.extract 13 s.size else ⟨#[]⟩
def parseA (s : ByteArray) : Option (Int × ByteArray × Int) :=
 if 12 ≤ s.size ∧ 0 ≤ minorZ (s.extract 0 8) ∧ s.data.toList[8]? = some 32 ∧ (12 < s.size → s.data.toList[12]? = some 32) ∧ (parseS 10 599 (s.extract 9 12)).2 = 0 ∧ 100 ≤ (parseS 10 599 (s.extract 9 12)).1 ∧ visS (reasonS s) = true then
  some ((parseS 10 599 (s.extract 9 12)).1, reasonS s, minorZ (s.extract 0 8)) else none

end Go.Proofs.YteoadfckcilalaaGreatDoor
