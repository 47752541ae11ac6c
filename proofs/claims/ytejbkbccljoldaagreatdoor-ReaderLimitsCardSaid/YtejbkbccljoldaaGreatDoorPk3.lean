/- Contracts of the functions that read a number, of package number and of its reference. The contract of the law AsciiList. Frames of messages: what is said of them; the reference's frame, OfRequest, OfReply, Persistent. OfRequest, OfReply and Persistent of the reference. Contracts of the reference's functions that write a number. Targets and versions, in the reference. Split at the question mark, the version of a line, spoil; in the reference and the laws. Words of a line, rune by rune and byte by byte: plain mathematics. strings.Cut at any byte, strings.HasPrefix, strings.CutPrefix; Split and the versions, of package startline. Targets, reasons and versions, of package startline. The version of a line, of package startline. FormatRequestLine of the reference. FormatStatusLine of the reference. ParseStatusLine of the reference. The request line, parsed: package startline and the reference. The request line, parsed by the reference. The status line, parsed by package startline: the same as the reference's. SameReply and SameRequest of the reference, at equal messages; FormatRequest and FormatStatus of package startline. Heads of messages: where a head ends, its lines. -/
import Derived.Test.YtejbkbccljoldaaGreatDoorPk1
import Derived.Test.YtejbkbccljoldaaGreatDoorPk2
import Derived.Test.YtejbkbccljoldaaGreatDoorRows
import Derived.WalkKit
import Derived.WalkSpells
import Derived.WalkLawsBesides
import Derived.BigQuiet
import Derived.Deep.QuietTactic
import Derived.Lib.Bytealg
import Derived.Lib.IndexLaws
import Derived.Lib.Hide
import Derived.Lib.ItoaMem
import Derived.Laws.IdiomStrings
import Derived.Lib.SlTrimSet
import Derived.Lib.IndexBytes
import Derived.Lib.Split
import Derived.Deep.AppendLies
import Derived.Shelf.Strings.SlTrimAscii
import Derived.Shelf.Strings.SplitShaped
import Derived.Shelf.LaysM
import Derived.Shelf.Strings.BuilderK
import Derived.Shelf.Strconv.Itoa4
import Derived.Shelf.Strings.Prefix
import Derived.Shelf.Bytes.SlIndexWhole
import Derived.Test.YtejbkbccljoldaaGreatDoorProg
import Derived.Lib.SplitLaws
import Derived.WalkSmall
import Derived.Deep.RegionHeld3
import Derived.ProofKit
import Derived.OpenShut
import Derived.Lib.Strings
import Derived.SliceStrings
import Derived.Deep.Quiet
import Derived.Tactics
import Derived.KernelRfl
import Derived.Below
import Derived.Laws.Bits64
import Derived.Lib.SlBytesConst
import Derived.Maps.AppendAt
import Derived.Laws.AppendOwnNone
import Derived.Great.BuildSlice
import Derived.Laws.Rows
import Derived.Laws.BitsAllLaws
import Derived.Laws.Shifts
import Derived.Maps.OwnOps
import Derived.Maps.OwnSet
import Derived.Deep.SlicePairs
import Derived.Lib.AppendZerosOnto
import Derived.Lib.AppendStr
import Derived.Laws.CopyOwn
import Derived.OwnWalk
import Derived.Laws.Strings3
import Derived.Laws.Concat
import Derived.IntWalk
import Derived.Laws.RangeAny
import Derived.LoopTactic
import Derived.Sort.Grow
namespace Go.Proofs.YtejbkbccljoldaaGreatDoor
open Go.RowKit

theorem ret_pair {k : IntKind} {a b : Int} {p : Int × Int} (h : p = (a, b)) : Ending.returned (.tuple #[.int .i64 a, .int k b]) = .returned (.tuple #[.int .i64 p.1, .int k p.2]) := by rw [h]

set_option maxHeartbeats 400000 in
theorem numDigit_any (c : Int) (w : World) (h0 : 0 ≤ c) (h1 : c ≤ 255) :
    Calls Tryz.prog 185 #[.int .u8 c] w fun e w' => e = .returned (.int .i64 (dv c)) ∧ w = w' := by
  go_enter Tryz.func185, Tryz.ntmps185
  go_wp2
  all_goals go_ret
  all_goals exact ⟨ret_int (by unfold dv; (repeat' split) <;> omega), rfl⟩

theorem numS_no {b : Int} {s : ByteArray} {k : Nat} (hlt : k < s.size) (hc : numB b s[k] = false) : numS b s = false := by
  unfold numS
  have : s.data.toList.all (numB b) = false := by
    rw [Bool.eq_false_iff]; intro h
    have := List.all_eq_true.1 h _ (mem_at s k hlt); rw [hc] at this; cases this
  rw [this]; rfl
theorem numS_yes {b : Int} {s : ByteArray} {k : Nat} (hk : k ≤ s.size) (hlt : ¬ k < s.size) (h : (s.data.toList.take k).all (numB b) = true) : numS b s = !s.data.toList.isEmpty := by
  rw [take_all s k hk hlt] at h; unfold numS; rw [h]; rfl

set_option maxHeartbeats 400000 in
theorem isNumeral_any (s : ByteArray) (b : Int) (w : World) (hs : s.size ≤ maxLen) :
    Calls Tryz.prog 184 #[.string s, .int .i64 b] w fun e w' => e = .returned (.bool (numS b s)) ∧ w = w' := by
  unfold maxLen at hs
  go_enter Tryz.func184, Tryz.ntmps184
  go_wp2
  go_loop [8] (fun i => ∃ k : Nat, k ≤ s.size ∧ i = .int .i64 k ∧ Hid ((s.data.toList.take k).all (numB b) = true)) (fun i => s.size - (intOf i).toNat)
  case atStart => exact ⟨0, Nat.zero_le _, rfl, Lib.hid (by simp)⟩
  case round =>
    obtain ⟨k, hk, rfl, HP⟩ := hrel
    by_cases hlt : k < s.size
    · have b1 : (s[k].toNat : Int) ≤ 255 := by have := s[k].toNat_lt; omega
      by_cases hc : b ≤ dv s[k].toNat
      · go_wp2_with (go_at_call 185; refine (numDigit_any _ _ (by omega) (by omega)).mono ?_; rintro e w' ⟨rfl, rfl⟩)
        go_ret
        exact ⟨ret_bool (numS_no hlt (by unfold numB; simpa using hc)).symm, rfl⟩
      · go_wp2_with (go_at_call 185; refine (numDigit_any _ _ (by omega) (by omega)).mono ?_; rintro e w' ⟨rfl, rfl⟩)
        go_round
        case rel => exact ⟨k + 1, by omega, by go_num, Lib.hid (by rw [take_snoc s k hlt, List.all_append, HP.out]; unfold numB; simpa using hc)⟩
        case measure => simp [intOf]; omega
    · go_wp2
      go_ret
      exact ⟨ret_bool (by rw [numS_yes hk hlt HP.out]; simp [toList_isEmpty]), rfl⟩

set_option maxHeartbeats 1000000 in
theorem numParse_yes10 (s : ByteArray) (most : Int) (w : World) (hs : s.size ≤ maxLen) (hn : numS 10 s = true) (hm0 : -9223372036854775808 ≤ most) (hm1 : most ≤ 9223372036854775807) :
    Calls Tryz.prog 171 #[.string s, .int .i64 10, .int .i64 most] w fun e w' => e = .returned (.tuple #[.int .i64 (parseS 10 most s).1, .int .i64 (parseS 10 most s).2]) ∧ w = w' := by
  unfold maxLen at hs
  have hp : parseS 10 most s = pgo 10 most 0 s.data.toList := by unfold parseS; rw [if_pos hn]
  have HP := Lib.hid hp
  clear hp
  go_enter Tryz.func171, Tryz.ntmps171
  go_wp2_with (go_at_call 184; refine (isNumeral_any _ _ _ (by unfold maxLen; omega)).mono ?_; rintro e w' ⟨rfl, rfl⟩)
  go_loop [8, 17] (fun n i => ∃ (k : Nat) (acc : Int), k ≤ s.size ∧ i = .int .i64 k ∧ n = .int .i64 acc ∧ 0 ≤ acc ∧ acc ≤ 9223372036854775807 ∧ Hid (parseS 10 most s = pgo 10 most acc (s.data.toList.drop k))) (fun _ i => s.size - (intOf i).toNat)
  case atStart => exact ⟨0, 0, Nat.zero_le _, rfl, rfl, by omega, by omega, Lib.hid (by rw [HP.out]; rfl)⟩
  case round =>
    obtain ⟨k, acc, hk, rfl, rfl, ha0, ha1, HG⟩ := hrel
    by_cases hlt : k < s.size
    · have b1 : (s[k].toNat : Int) ≤ 255 := by have := s[k].toNat_lt; omega
      have b2 := dv_bd s[k].toNat
      obtain ⟨b20, b21⟩ := b2
      by_cases hd : dv s[k].toNat ≤ most
      · by_cases hq : acc ≤ (most - dv s[k].toNat) / 10
        · go_wp2_with (go_at_call 185; refine (numDigit_any _ _ (by omega) (by omega)).mono ?_; rintro e w' ⟨rfl, rfl⟩)
          go_round
          case rel => exact ⟨k + 1, _, by omega, by go_num, rfl, by omega, by omega, Lib.hid (by rw [HG.out, drop_cons s k hlt, pgo_go hd hq])⟩
          case measure => simp [intOf]; omega
        · go_wp2_with (go_at_call 185; refine (numDigit_any _ _ (by omega) (by omega)).mono ?_; rintro e w' ⟨rfl, rfl⟩)
          go_ret2
          exact ⟨ret_pair (by rw [HG.out, drop_cons s k hlt, pgo_no (.inr (by omega))]), rfl⟩
      · go_wp2_with (go_at_call 185; refine (numDigit_any _ _ (by omega) (by omega)).mono ?_; rintro e w' ⟨rfl, rfl⟩)
        go_ret2
        exact ⟨ret_pair (by rw [HG.out, drop_cons s k hlt, pgo_no (.inl (by omega))]), rfl⟩
    · go_wp2
      go_ret2
      exact ⟨ret_pair (by rw [HG.out, List.drop_of_length_le (by simp; omega)]; rfl), rfl⟩

set_option maxHeartbeats 1000000 in
theorem numParse_yes16 (s : ByteArray) (most : Int) (w : World) (hs : s.size ≤ maxLen) (hn : numS 16 s = true) (hm0 : -9223372036854775808 ≤ most) (hm1 : most ≤ 9223372036854775807) :
    Calls Tryz.prog 171 #[.string s, .int .i64 16, .int .i64 most] w fun e w' => e = .returned (.tuple #[.int .i64 (parseS 16 most s).1, .int .i64 (parseS 16 most s).2]) ∧ w = w' := by
  unfold maxLen at hs
  have hp : parseS 16 most s = pgo 16 most 0 s.data.toList := by unfold parseS; rw [if_pos hn]
  have HP := Lib.hid hp
  clear hp
  go_enter Tryz.func171, Tryz.ntmps171
  go_wp2_with (go_at_call 184; refine (isNumeral_any _ _ _ (by unfold maxLen; omega)).mono ?_; rintro e w' ⟨rfl, rfl⟩)
  go_loop [8, 17] (fun n i => ∃ (k : Nat) (acc : Int), k ≤ s.size ∧ i = .int .i64 k ∧ n = .int .i64 acc ∧ 0 ≤ acc ∧ acc ≤ 9223372036854775807 ∧ Hid (parseS 16 most s = pgo 16 most acc (s.data.toList.drop k))) (fun _ i => s.size - (intOf i).toNat)
  case atStart => exact ⟨0, 0, Nat.zero_le _, rfl, rfl, by omega, by omega, Lib.hid (by rw [HP.out]; rfl)⟩
  case round =>
    obtain ⟨k, acc, hk, rfl, rfl, ha0, ha1, HG⟩ := hrel
    by_cases hlt : k < s.size
    · have b1 : (s[k].toNat : Int) ≤ 255 := by have := s[k].toNat_lt; omega
      have b2 := dv_bd s[k].toNat
      obtain ⟨b20, b21⟩ := b2
      by_cases hd : dv s[k].toNat ≤ most
      · by_cases hq : acc ≤ (most - dv s[k].toNat) / 16
        · go_wp2_with (go_at_call 185; refine (numDigit_any _ _ (by omega) (by omega)).mono ?_; rintro e w' ⟨rfl, rfl⟩)
          go_round
          case rel => exact ⟨k + 1, _, by omega, by go_num, rfl, by omega, by omega, Lib.hid (by rw [HG.out, drop_cons s k hlt, pgo_go hd hq])⟩
          case measure => simp [intOf]; omega
        · go_wp2_with (go_at_call 185; refine (numDigit_any _ _ (by omega) (by omega)).mono ?_; rintro e w' ⟨rfl, rfl⟩)
          go_ret2
          exact ⟨ret_pair (by rw [HG.out, drop_cons s k hlt, pgo_no (.inr (by omega))]), rfl⟩
      · go_wp2_with (go_at_call 185; refine (numDigit_any _ _ (by omega) (by omega)).mono ?_; rintro e w' ⟨rfl, rfl⟩)
        go_ret2
        exact ⟨ret_pair (by rw [HG.out, drop_cons s k hlt, pgo_no (.inl (by omega))]), rfl⟩
    · go_wp2
      go_ret2
      exact ⟨ret_pair (by rw [HG.out, List.drop_of_length_le (by simp; omega)]; rfl), rfl⟩

set_option maxHeartbeats 1000000 in
theorem numParse_any (s : ByteArray) (b most : Int) (w : World) (hs : s.size ≤ maxLen) (hb : b = 10 ∨ b = 16) (hm0 : -9223372036854775808 ≤ most) (hm1 : most ≤ 9223372036854775807) :
    Calls Tryz.prog 171 #[.string s, .int .i64 b, .int .i64 most] w fun e w' => e = .returned (.tuple #[.int .i64 (parseS b most s).1, .int .i64 (parseS b most s).2]) ∧ w = w' := by
  by_cases hn : numS b s = true
  · rcases hb with rfl | rfl
    · exact numParse_yes10 s most w hs hn hm0 hm1
    · exact numParse_yes16 s most w hs hn hm0 hm1
  · unfold maxLen at hs
    have hn' : numS b s = false := by simpa using hn
    clear hn
    have hp : parseS b most s = (0, 2) := by unfold parseS; rw [hn']; rfl
    have HP := Lib.hid hp
    clear hp
    go_enter Tryz.func171, Tryz.ntmps171
    go_wp2_with (go_at_call 184; refine (isNumeral_any _ _ _ (by unfold maxLen; omega)).mono ?_; rintro e w' ⟨rfl, rfl⟩)
    go_ret2
    exact ⟨ret_pair HP.out, rfl⟩

theorem parseDecimal_any (s : ByteArray) (most : Int) (w : World) (hs : s.size ≤ maxLen) (hm0 : -9223372036854775808 ≤ most) (hm1 : most ≤ 9223372036854775807) :
    Calls Tryz.prog 152 #[.string s, .int .i64 most] w fun e w' => e = .returned (.tuple #[.int .i64 (parseS 10 most s).1, .int .i64 (parseS 10 most s).2]) ∧ w = w' := by
  go_enter Tryz.func152, Tryz.ntmps152
  go_wp2_with (go_at_call 171; refine (numParse_any _ _ _ _ hs (by omega) hm0 hm1).mono ?_; rintro e w' ⟨rfl, rfl⟩)
  go_ret2
  exact ⟨rfl, rfl⟩
theorem parseHex_any (s : ByteArray) (most : Int) (w : World) (hs : s.size ≤ maxLen) (hm0 : -9223372036854775808 ≤ most) (hm1 : most ≤ 9223372036854775807) :
    Calls Tryz.prog 174 #[.string s, .int .i64 most] w fun e w' => e = .returned (.tuple #[.int .i64 (parseS 16 most s).1, .int .i64 (parseS 16 most s).2]) ∧ w = w' := by
  go_enter Tryz.func174, Tryz.ntmps174
  go_wp2_with (go_at_call 171; refine (numParse_any _ _ _ _ hs (by omega) hm0 hm1).mono ?_; rintro e w' ⟨rfl, rfl⟩)
  go_ret2
  exact ⟨rfl, rfl⟩
end Go.Proofs.YtejbkbccljoldaaGreatDoor
namespace Go.Proofs.YtejbkbccljoldaaGreatDoor
open Go.RowKit

theorem splitL_total (c : UInt8) : ∀ l : List UInt8, ((splitL c l).map (fun p => p.length + 1)).sum = l.length + 1
  | [] => rfl
  | b :: t => by
    have ih := splitL_total c t
    rw [splitL]; split
    · simp; omega
    · cases h : splitL c t with
      | nil => exact absurd h (splitL_ne c t)
      | cons q r => rw [h] at ih; simp [front] at ih ⊢; omega
theorem total_map (L : List (List UInt8)) : total (L.map ofL) = (L.map (fun p => p.length + 1)).sum := by
  induction L with
  | nil => rfl
  | cons a t ih =>
    have e : (ofL a).size = a.length := by show (ofL a).data.size = _; simp [ofL]
    simp only [List.map_cons, total, List.sum_cons, ih, e]
theorem total_elemsOf (l : List ByteArray) : total (elemsOf l) ≤ total l := by
  unfold elemsOf
  induction l with
  | nil => exact Nat.le_refl _
  | cons a t ih =>
    have h := trimBA_size a
    simp only [List.map_cons, List.filter_cons]
    split <;> simp only [total] <;> omega
theorem total_append (a b : List ByteArray) : total (a ++ b) = total a + total b := by
  induction a with
  | nil => simp [total]
  | cons x t ih => simp only [List.cons_append, total, ih]; omega
theorem total_elemL (a : ByteArray) : total (elemL a) ≤ a.size + 1 := by
  have h1 := total_elemsOf (splitS 44 a)
  have h2 : total (splitS 44 a) = a.size + 1 := by
    unfold splitS; rw [total_map, splitL_total]; simp
  unfold elemL; omega
theorem total_listL : ∀ l : List ByteArray, total (listL l) ≤ total l
  | [] => Nat.le_refl _
  | a :: t => by
    have h1 := total_listL t
    have h2 := total_elemL a
    have e : listL (a :: t) = elemL a ++ listL t := by unfold listL; rw [List.flatMap_cons]
    rw [e, total_append]; simp only [total]; omega

section
variable (w : World) (m : Int)

end
end Go.Proofs.YtejbkbccljoldaaGreatDoor
namespace Go.Proofs.YtejbkbccljoldaaGreatDoor
open Go.RowKit

def clN : ByteArray := ⟨#[99, 111, 110, 116, 101, 110, 116, 45, 108, 101, 110, 103, 116, 104]⟩
def teN : ByteArray := ⟨#[116, 114, 97, 110, 115, 102, 101, 114, 45, 101, 110, 99, 111, 100, 105, 110, 103]⟩
def chunkedN : ByteArray := ⟨#[99, 104, 117, 110, 107, 101, 100]⟩
/-- The elements are just one that is chunked. -/
def chunkedB (x : List ByteArray) : Bool := match x with | [y] => foldS y chunkedN | _ => false
/-- Kind, length, error. -/
def frameS (v : Int) (l : List Fld) (k0 : Int) : Int × Int × Int :=
  if hasL l teN = true then
    (if v = 0 ∨ 0 < (valuesL l clN).length ∨ chunkedB (listL (valuesL l teN)) = false then (0, 0, 5) else (3, 0, 0))
  else match valuesL l clN with
    | [] => (k0, 0, 0)
    | y :: r => if 0 < r.length ∨ (parseS 10 1000000000 y).2 = 2 then (0, 0, 5) else if (parseS 10 1000000000 y).2 = 0 then (2, (parseS 10 1000000000 y).1, 0) else (0, 0, (parseS 10 1000000000 y).2)
def frameV (f : Int × Int × Int) : Value := .tuple #[.agg #[.int .i64 f.1, .int .i64 f.2.1], .int .i64 f.2.2]
theorem frameS_te {v : Int} {l : List Fld} {k0 : Int} (h : hasL l teN = true) : frameS v l k0 = if v = 0 ∨ 0 < (valuesL l clN).length ∨ chunkedB (listL (valuesL l teN)) = false then (0, 0, 5) else (3, 0, 0) := by
  unfold frameS; rw [if_pos h]
theorem frameS_none {v : Int} {l : List Fld} {k0 : Int} (h : hasL l teN = false) (h2 : valuesL l clN = []) : frameS v l k0 = (k0, 0, 0) := by
  unfold frameS; rw [if_neg (by rw [h]; decide), h2]
theorem frameS_len {v : Int} {l : List Fld} {k0 : Int} {y : ByteArray} {r : List ByteArray} (h : hasL l teN = false) (h2 : valuesL l clN = y :: r) :
    frameS v l k0 = if 0 < r.length ∨ (parseS 10 1000000000 y).2 = 2 then (0, 0, 5) else if (parseS 10 1000000000 y).2 = 0 then (2, (parseS 10 1000000000 y).1, 0) else (0, 0, (parseS 10 1000000000 y).2) := by
  unfold frameS; rw [if_neg (by rw [h]; decide), h2]
theorem valuesL_small {l : List Fld} (h : ShortF l) {n y : ByteArray} (hy : y ∈ valuesL l n) : y.size ≤ maxLen := by
  unfold valuesL at hy
  obtain ⟨f, hf, rfl⟩ := List.mem_map.1 hy
  exact (h f (List.mem_filter.1 hf).1).2
/-- A frame's variable. -/
def KVar (w : World) (g : Nat) (k n : Int) : Prop := w.heap[g]? = some (.cells #[.int .i64 k, .int .i64 n] 33 (0, 0))
theorem KVar.keep {w w' : World} {g : Nat} {k n : Int} (h : KVar w g k n) (hb : Below w.heap.size w w') : KVar w' g k n := by
  unfold KVar at *
  rw [hb.block g (Array.getElem?_eq_some_iff.1 h).1]; exact h
theorem sizeK : (Tryz.prog.info? 33).map (·.size) = some 2 := by kernel_rfl
theorem oneK (k n : Int) : (#[.int .i64 k, .int .i64 n] : Array Value).all (·.oneCell') = true := by simp [Value.oneCell']
theorem total_mem {l : List ByteArray} {y : ByteArray} (h : y ∈ l) : y.size + 1 ≤ total l := by
  obtain ⟨k, hk, rfl⟩ := List.getElem_of_mem h
  exact total_at hk (Nat.le_refl _)
theorem listL_small {l : List ByteArray} {y : ByteArray} (h : y ∈ listL l) : y.size ≤ total l := by
  have h1 := total_mem h
  have h2 := total_listL l
  omega
theorem chunkedB_ne {x : List ByteArray} (h : ¬ x.length = 1) : chunkedB x = false := by
  unfold chunkedB
  split
  · exact absurd rfl h
  · rfl

end Go.Proofs.YtejbkbccljoldaaGreatDoor
namespace Go.Proofs.YtejbkbccljoldaaGreatDoor
open Go.RowKit

def headN : ByteArray := ⟨#[72, 69, 65, 68]⟩
theorem litHead : ([72, 69, 65, 68] : List UInt8) = headN.toList := by rw [ByteArray.toList_eq]; rfl
def noBody (method : ByteArray) (st : Int) : Bool := decide (method = headN) || (decide (100 ≤ st) && decide (st ≤ 199)) || decide (st = 204) || decide (st = 304)
def replyS (method : ByteArray) (st v : Int) (l : List Fld) : Int × Int × Int := if noBody method st = true then (1, 0, 0) else frameS v l 4
theorem noBody_cases (method : ByteArray) (st : Int) : noBody method st = true ∧ (method = headN ∨ ¬ method = headN ∧ 100 ≤ st ∧ st ≤ 199 ∨ ¬ method = headN ∧ st = 204 ∨ ¬ method = headN ∧ st = 304) ∨ noBody method st = false ∧ ¬ method = headN ∧ (st < 100 ∨ 199 < st ∧ ¬ st = 204 ∧ ¬ st = 304) := by
  unfold noBody
  by_cases h0 : method = headN
  · exact .inl ⟨by simp [h0], .inl h0⟩
  · by_cases h1 : 100 ≤ st ∧ st ≤ 199
    · exact .inl ⟨by simp [h1.1, h1.2], .inr (.inl ⟨h0, h1.1, h1.2⟩)⟩
    · by_cases h2 : st = 204
      · exact .inl ⟨by simp [h2], .inr (.inr (.inl ⟨h0, h2⟩))⟩
      · by_cases h3 : st = 304
        · exact .inl ⟨by simp [h3], .inr (.inr (.inr ⟨h0, h3⟩))⟩
        · refine .inr ⟨?_, h0, by omega⟩
          simp [h0, h2, h3]; omega

end Go.Proofs.YtejbkbccljoldaaGreatDoor
namespace Go.Proofs.YtejbkbccljoldaaGreatDoor
open Go.RowKit

def hexS : ByteArray := ⟨#[48, 49, 50, 51, 52, 53, 54, 55, 56, 57, 97, 98, 99, 100, 101, 102]⟩
theorem hexS_piece_fin : ∀ d : Fin 16, (hexS.extract d.val (d.val + 1)).data.toList = [dgc d.val] := by decide +kernel
theorem hexS_piece {d : Nat} (h : d < 16) : (⟨#[48, 49, 50, 51, 52, 53, 54, 55, 56, 57, 97, 98, 99, 100, 101, 102]⟩ : ByteArray).extract d (d + 1) = ⟨#[dgc d]⟩ := by
  have := hexS_piece_fin ⟨d, h⟩
  apply ByteArray.ext
  apply Array.toList_inj.1
  exact this
theorem one_cat (c : UInt8) (t : List UInt8) : (⟨#[c]⟩ : ByteArray) ++ ⟨t.toArray⟩ = ⟨(c :: t).toArray⟩ := by
  apply ByteArray.ext; simp

set_option maxHeartbeats 1000000 in
theorem refBase10 (n : Nat) (w : World) (hn : (n : Int) ≤ 9223372036854775807) :
    Calls Tryz.prog 60 #[.int .i64 n, .int .i64 10] w fun e w' => e = .returned (.string (numeral 10 n)) ∧ ∃ j, w' = w.drewN j := by
  go_enter Tryz.func60, Tryz.ntmps60
  go_wp2
  go_loopw [5, 0] (fun s m wr => ∃ (k : Nat) (t : List UInt8) (j : Nat), (t.length : Int) + k ≤ n ∧ (t = [] ∨ 0 < k) ∧ m = .int .i64 k ∧ s = .string ⟨t.toArray⟩ ∧ wr = w.drewN j ∧ Hid (digs 10 n = digs 10 k ++ t)) (fun _ m _ => (intOf m).toNat)
  case atStart => exact ⟨n, [], 0, by simp, .inl rfl, rfl, rfl, by simp [World.drewN_zero], Lib.hid (by simp)⟩
  case round =>
    obtain ⟨k, t, j, hk, hne, rfl, rfl, rfl, HD⟩ := hrel
    have HNE := Lib.hid hne
    have hlen : t.length + 1 ≤ 9223372036854775807 := by
      rcases hne with rfl | h
      · simp
      · omega
    clear hne
    obtain ⟨d, hd⟩ : ∃ d : Nat, k % 10 = d := ⟨_, rfl⟩
    have hd9 : d < 10 := by omega
    have HDD := Lib.hid hd
    have hr : ((k : Int).tmod 10) = (d : Int) := by rw [Int.tmod_eq_emod_of_nonneg (by omega)]; omega
    clear hd
    have hw1 : IntKind.i64.wrap (d : Int) = (d : Int) := IntWalk.i64_in _ (by omega)
    have hw2 : IntKind.i64.wrap ((d : Int) + 1) = (d : Int) + 1 := IntWalk.i64_in _ (by omega)
    have hn1 : ((d : Int) + 1).toNat = d + 1 := by omega
    have hi1 : (0 : Int) ≤ d := by omega
    have hi2 : (0 : Int) ≤ d + 1 := by omega
    have hi3 : (d : Int) + 1 ≤ 16 := by omega
    have hi4 : d + 1 ≤ 16 := by omega
    have hi5 : (d : Int) ≤ d + 1 := by omega
    have hp := hexS_piece (d := d) (by omega)
    have hadd : ∀ W, (Op.stringOp .add ⟨#[dgc d]⟩ ⟨t.toArray⟩).run Tryz.prog W = .ok (.string ⟨(dgc d :: t).toArray⟩) W := fun W => by
      have h := run_string_add_sum (P := Tryz.prog) (w := W) ⟨#[dgc d]⟩ ⟨t.toArray⟩ (by show 1 + (t.toArray).size ≤ _; simp; omega)
      rw [one_cat] at h; exact h
    go_wp2_with fail
    go_quiet (fail)
    clear hr hw1 hw2 hn1 hp hadd hi4
    have hq : (k : Int) / 10 = ((k / 10 : Nat) : Int) := by omega
    by_cases hz : k / 10 = 0
    · have hz1 : (k : Int) / 10 = 0 := by omega
      have HZ := Lib.hid hz
      clear hz hq
      go_wp2
      go_ret
      refine ⟨ret_str ?_, _, rfl⟩
      have hs : k < 10 := by have := HZ.out; omega
      unfold numeral
      rw [HD.out, digs_small hs]
      have : k % 10 = k := Nat.mod_eq_of_lt hs
      rw [← HDD.out, this]; rfl
    · have HZ := Lib.hid hz
      have hz2 : ¬ (k : Int) / 10 = 0 := by omega
      clear hz hq
      go_wp2
      go_roundw
      case rel =>
        have hz := HZ.out
        refine ⟨k / 10, dgc d :: t, _, by simp; omega, .inr (by omega), by first | rfl | simp, rfl, rfl, Lib.hid ?_⟩
        rw [HD.out, digs_big (by omega) (show ¬ k < 10 by omega), ← HDD.out]; simp
      case measure => have hz := HZ.out; simp [intOf]; omega

set_option maxHeartbeats 1000000 in
theorem refBase16 (n : Nat) (w : World) (hn : (n : Int) ≤ 9223372036854775807) :
    Calls Tryz.prog 60 #[.int .i64 n, .int .i64 16] w fun e w' => e = .returned (.string (numeral 16 n)) ∧ ∃ j, w' = w.drewN j := by
  go_enter Tryz.func60, Tryz.ntmps60
  go_wp2
  go_loopw [5, 0] (fun s m wr => ∃ (k : Nat) (t : List UInt8) (j : Nat), (t.length : Int) + k ≤ n ∧ (t = [] ∨ 0 < k) ∧ m = .int .i64 k ∧ s = .string ⟨t.toArray⟩ ∧ wr = w.drewN j ∧ Hid (digs 16 n = digs 16 k ++ t)) (fun _ m _ => (intOf m).toNat)
  case atStart => exact ⟨n, [], 0, by simp, .inl rfl, rfl, rfl, by simp [World.drewN_zero], Lib.hid (by simp)⟩
  case round =>
    obtain ⟨k, t, j, hk, hne, rfl, rfl, rfl, HD⟩ := hrel
    have HNE := Lib.hid hne
    have hlen : t.length + 1 ≤ 9223372036854775807 := by
      rcases hne with rfl | h
      · simp
      · omega
    clear hne
    obtain ⟨d, hd⟩ : ∃ d : Nat, k % 16 = d := ⟨_, rfl⟩
    have hd9 : d < 16 := by omega
    have HDD := Lib.hid hd
    have hr : ((k : Int).tmod 16) = (d : Int) := by rw [Int.tmod_eq_emod_of_nonneg (by omega)]; omega
    clear hd
    have hw1 : IntKind.i64.wrap (d : Int) = (d : Int) := IntWalk.i64_in _ (by omega)
    have hw2 : IntKind.i64.wrap ((d : Int) + 1) = (d : Int) + 1 := IntWalk.i64_in _ (by omega)
    have hn1 : ((d : Int) + 1).toNat = d + 1 := by omega
    have hi1 : (0 : Int) ≤ d := by omega
    have hi2 : (0 : Int) ≤ d + 1 := by omega
    have hi3 : (d : Int) + 1 ≤ 16 := by omega
    have hi4 : d + 1 ≤ 16 := by omega
    have hi5 : (d : Int) ≤ d + 1 := by omega
    have hp := hexS_piece (d := d) (by omega)
    have hadd : ∀ W, (Op.stringOp .add ⟨#[dgc d]⟩ ⟨t.toArray⟩).run Tryz.prog W = .ok (.string ⟨(dgc d :: t).toArray⟩) W := fun W => by
      have h := run_string_add_sum (P := Tryz.prog) (w := W) ⟨#[dgc d]⟩ ⟨t.toArray⟩ (by show 1 + (t.toArray).size ≤ _; simp; omega)
      rw [one_cat] at h; exact h
    go_wp2_with fail
    go_quiet (fail)
    clear hr hw1 hw2 hn1 hp hadd hi4
    have hq : (k : Int) / 16 = ((k / 16 : Nat) : Int) := by omega
    by_cases hz : k / 16 = 0
    · have hz1 : (k : Int) / 16 = 0 := by omega
      have HZ := Lib.hid hz
      clear hz hq
      go_wp2
      go_ret
      refine ⟨ret_str ?_, _, rfl⟩
      have hs : k < 16 := by have := HZ.out; omega
      unfold numeral
      rw [HD.out, digs_small hs]
      have : k % 16 = k := Nat.mod_eq_of_lt hs
      rw [← HDD.out, this]; rfl
    · have HZ := Lib.hid hz
      have hz2 : ¬ (k : Int) / 16 = 0 := by omega
      clear hz hq
      go_wp2
      go_roundw
      case rel =>
        have hz := HZ.out
        refine ⟨k / 16, dgc d :: t, _, by simp; omega, .inr (by omega), by first | rfl | simp, rfl, rfl, Lib.hid ?_⟩
        rw [HD.out, digs_big (by omega) (show ¬ k < 16 by omega), ← HDD.out]; simp
      case measure => have hz := HZ.out; simp [intOf]; omega

def fmtS (b : Nat) (n : Int) : ByteArray := if n < 0 then ⟨#[]⟩ else numeral b n.toNat
theorem below_drewN0 (w : World) (j : Nat) : Below w.heap.size w (w.drewN j) := ⟨rfl, rfl, rfl, Nat.le_refl _, fun _ _ => rfl⟩
theorem refBase_neg (n b : Int) (w : World) (hn : n < 0) :
    Calls Tryz.prog 60 #[.int .i64 n, .int .i64 b] w fun e w' => e = .returned (.string ⟨#[]⟩) ∧ w = w' := by
  go_enter Tryz.func60, Tryz.ntmps60
  go_wp2
  go_ret
  exact ⟨rfl, rfl⟩

theorem refDecimal_any (n : Int) (w : World) (h0 : -9223372036854775808 ≤ n) (h1 : n ≤ 9223372036854775807) :
    Calls Tryz.prog 41 #[.int .i64 n] w fun e w' => e = .returned (.string (fmtS 10 n)) ∧ Below w.heap.size w w' := by
  by_cases hn : n < 0
  · go_enter Tryz.func41, Tryz.ntmps41
    go_wp2_with (go_at_call 60; refine (refBase_neg _ _ _ hn).mono ?_; rintro e w' ⟨rfl, rfl⟩)
    go_ret
    exact ⟨ret_str (by unfold fmtS; rw [if_pos hn]), Below.refl _ _⟩
  · obtain ⟨k, rfl⟩ : ∃ k : Nat, n = k := ⟨n.toNat, by omega⟩
    go_enter Tryz.func41, Tryz.ntmps41
    go_wp2_with (go_at_call 60; refine (refBase10 _ _ (by omega)).mono ?_; rintro e w' ⟨rfl, j, rfl⟩)
    go_ret
    exact ⟨ret_str (by unfold fmtS; rw [if_neg (by omega)]; rfl), below_drewN0 _ _⟩
theorem refHex_any (n : Int) (w : World) (h0 : -9223372036854775808 ≤ n) (h1 : n ≤ 9223372036854775807) :
    Calls Tryz.prog 59 #[.int .i64 n] w fun e w' => e = .returned (.string (fmtS 16 n)) ∧ Below w.heap.size w w' := by
  by_cases hn : n < 0
  · go_enter Tryz.func59, Tryz.ntmps59
    go_wp2_with (go_at_call 60; refine (refBase_neg _ _ _ hn).mono ?_; rintro e w' ⟨rfl, rfl⟩)
    go_ret
    exact ⟨ret_str (by unfold fmtS; rw [if_pos hn]), Below.refl _ _⟩
  · obtain ⟨k, rfl⟩ : ∃ k : Nat, n = k := ⟨n.toNat, by omega⟩
    go_enter Tryz.func59, Tryz.ntmps59
    go_wp2_with (go_at_call 60; refine (refBase16 _ _ (by omega)).mono ?_; rintro e w' ⟨rfl, j, rfl⟩)
    go_ret
    exact ⟨ret_str (by unfold fmtS; rw [if_neg (by omega)]; rfl), below_drewN0 _ _⟩
end Go.Proofs.YtejbkbccljoldaaGreatDoor
namespace Go.Proofs.YtejbkbccljoldaaGreatDoor
open Go.RowKit

def tgB (c : UInt8) : Bool := decide (33 ≤ (c.toNat : Int)) && decide ((c.toNat : Int) ≤ 126) && !decide ((c.toNat : Int) = 35)
def targetS (s : ByteArray) : Bool := s.data.toList.all tgB && (s.data.toList.head? == some 47)
theorem targetS_no {s : ByteArray} {k : Nat} (hlt : k < s.size) (hc : tgB s[k] = false) : targetS s = false := by
  unfold targetS
  have : s.data.toList.all tgB = false := by
    rw [Bool.eq_false_iff]; intro h
    have := List.all_eq_true.1 h _ (mem_at s k hlt); rw [hc] at this; cases this
  rw [this]; rfl
theorem head_at (s : ByteArray) (h : 0 < s.size) : s.data.toList.head? = some s[0] := by
  rw [List.head?_eq_getElem?, List.getElem?_eq_getElem (by simpa using h)]; rfl
theorem targetS_end {s : ByteArray} {k : Nat} (hk : k ≤ s.size) (hlt : ¬ k < s.size) (h : (s.data.toList.take k).all tgB = true) : targetS s = (s.data.toList.head? == some 47) := by
  unfold targetS
  rw [take_all s k hk hlt] at h
  rw [h]; rfl

set_option maxRecDepth 100000 in
set_option maxHeartbeats 1000000 in
theorem refTarget_any (s : ByteArray) (w : World) (hs : s.size ≤ maxLen) :
    Calls Tryz.prog 81 #[.string s] w fun e w' => e = .returned (.bool (targetS s)) ∧ w = w' := by
  unfold maxLen at hs
  go_enter Tryz.func81, Tryz.ntmps81
  go_wp2
  go_loop [3] (fun i => ∃ k : Nat, k ≤ s.size ∧ i = .int .i64 k ∧ Box ((s.data.toList.take k).all tgB = true)) (fun i => s.size - (intOf i).toNat)
  case atStart => exact ⟨0, Nat.zero_le _, rfl, ⟨by simp⟩⟩
  case round =>
    obtain ⟨k, hk, rfl, HP⟩ := hrel
    by_cases hlt : k < s.size
    · have b1 : (s[k].toNat : Int) ≤ 255 := by have := s[k].toNat_lt; omega
      have hcase : Box (tgB s[k] = true) ∧ 33 ≤ (s[k].toNat : Int) ∧ (s[k].toNat : Int) ≤ 126 ∧ ((s[k].toNat : Int) == 35) = false ∨ Box (tgB s[k] = false) ∧ (s[k].toNat : Int) < 33
          ∨ Box (tgB s[k] = false) ∧ 33 ≤ (s[k].toNat : Int) ∧ 126 < (s[k].toNat : Int) ∨ Box (tgB s[k] = false) ∧ 33 ≤ (s[k].toNat : Int) ∧ (s[k].toNat : Int) ≤ 126 ∧ ((s[k].toNat : Int) == 35) = true := by
        by_cases h1 : 33 ≤ (s[k].toNat : Int)
        · by_cases h2 : (s[k].toNat : Int) ≤ 126
          · by_cases h3 : (s[k].toNat : Int) = 35
            · exact .inr (.inr (.inr ⟨⟨by simp [tgB, h3]⟩, h1, h2, by simp [h3]⟩))
            · exact .inl ⟨⟨by simp [tgB, h1, h2, h3]⟩, h1, h2, by rw [beq_eq_false_iff_ne]; exact h3⟩
          · exact .inr (.inr (.inl ⟨⟨by simp [tgB, h2]⟩, h1, by omega⟩))
        · exact .inr (.inl ⟨⟨by simp [tgB, h1]⟩, by omega⟩)
      rcases hcase with ⟨HC, h1, h2, h3⟩ | ⟨HC, h1⟩ | ⟨HC, h1, h2⟩ | ⟨HC, h1, h2, h3⟩
      · go_wp2
        go_round
        case rel => exact ⟨k + 1, by omega, by go_num, ⟨by rw [take_snoc s k hlt, List.all_append, HP.out]; simpa using HC.out⟩⟩
        case measure => simp [intOf]; omega
      all_goals
        go_wp2
        go_ret
        exact ⟨ret_bool (targetS_no hlt HC.out).symm, rfl⟩
    · have HE := Box.mk (targetS_end hk hlt HP.out)
      by_cases h0 : 0 < s.size
      · have HH := Box.mk (head_at s h0)
        have hne : s.toList.isEmpty = false := by rw [ByteArray.toList_eq]; cases hq : s.data.toList with
          | nil => have h9 : s.data.toList.length = 0 := by rw [hq]; rfl
                   rw [Array.length_toList] at h9
                   exact absurd h0 (by show ¬ 0 < s.data.size; omega)
          | cons _ _ => rfl
        by_cases h47 : s[0] = 47
        · have hb : ((s[0].toNat : Int) == 47) = true := by rw [h47]; rfl
          have HR := Box.mk (show targetS s = true by rw [HE.out, HH.out, h47]; rfl)
          clear h47
          go_wp2
          go_ret
          exact ⟨ret_bool HR.out.symm, rfl⟩
        · have hb : ((s[0].toNat : Int) == 47) = false := by
            rw [Bool.eq_false_iff]; intro h; exact h47 (UInt8.toNat_inj.1 (by simp at h; show s[0].toNat = 47; omega))
          have HR := Box.mk (show targetS s = false by rw [HE.out, HH.out, Bool.eq_false_iff]; intro h; simp at h; exact h47 h)
          clear h47
          go_wp2
          go_ret
          exact ⟨ret_bool HR.out.symm, rfl⟩
      · have he : s = ⟨#[]⟩ := ba_ext (by
          have : s.data.toList.length = 0 := by rw [Array.length_toList]; show s.size = 0; omega
          rw [List.eq_nil_of_length_eq_zero this])
        subst he
        go_wp2
        go_ret
        exact ⟨ret_bool (by decide +kernel), rfl⟩
end Go.Proofs.YtejbkbccljoldaaGreatDoor
namespace Go.Proofs.YtejbkbccljoldaaGreatDoor
open Go.RowKit

def idxI (c : UInt8) (s : ByteArray) : Int := Lib.indexByte s.data.toList c
theorem idxI_ge (c : UInt8) (s : ByteArray) : -1 ≤ idxI c s := Lib.indexByte_ge _ _
theorem idxI_lt (c : UInt8) (s : ByteArray) {k : Nat} (h : idxI c s = k) : k < s.size := by
  have := (Lib.indexByte_some h).1
  have := (List.getElem?_eq_some_iff.1 this).1
  simpa using this
theorem idxI_at (c : UInt8) (s : ByteArray) (k : Nat) (hk : k < s.size) (h : s[k] = c) (hp : ∀ j, j < k → s.data.toList[j]? ≠ some c) : idxI c s = k := by
  have hge := idxI_ge c s
  have hkk : s.data.toList[k]? = some c := by
    rw [List.getElem?_eq_getElem (by simpa using hk)]
    exact congrArg some h
  by_cases h1 : idxI c s = -1
  · exact absurd hkk (Lib.indexByte_none h1 k)
  · obtain ⟨o, ho⟩ : ∃ o : Nat, idxI c s = o := ⟨(idxI c s).toNat, by omega⟩
    have h2 := Lib.indexByte_some ho
    rw [ho]
    congr 1
    rcases Nat.lt_trichotomy o k with h3 | h3 | h3
    · exact absurd h2.1 (hp o h3)
    · exact h3
    · exact absurd hkk (h2.2 k h3)
def v10 : ByteArray := ⟨#[72, 84, 84, 80, 47, 49, 46, 48]⟩
def v11 : ByteArray := ⟨#[72, 84, 84, 80, 47, 49, 46, 49]⟩
theorem lit10 : ([72, 84, 84, 80, 47, 49, 46, 48] : List UInt8) = v10.toList := by rw [ByteArray.toList_eq]; rfl
theorem lit11 : ([72, 84, 84, 80, 47, 49, 46, 49] : List UInt8) = v11.toList := by rw [ByteArray.toList_eq]; rfl
def minorZ (s : ByteArray) : Int := if s = v10 then 0 else if s = v11 then 1 else -1
end Go.Proofs.YtejbkbccljoldaaGreatDoor
namespace Go.Proofs.YtejbkbccljoldaaGreatDoor
open Go.RowKit

theorem splitB_lim (sep : ByteArray) (h1 : 1 ≤ sep.size) (save : Nat) : ∀ (k : Nat) (s : ByteArray), Lib.countB s sep ≤ k → Lib.splitB sep save k s = Lib.splitB sep save (Lib.countB s sep) s
  | 0, s, h => by rw [Nat.le_zero.1 h]
  | k + 1, s, h => by
    rcases Lib.indexB_cases s sep with hix | ⟨i, hix, _⟩
    · rw [Lib.splitB_miss sep save _ s hix, Lib.splitB_miss sep save _ s hix]
    · have hc := Lib.countB_hit s sep i h1 hix
      rw [hc, Nat.add_comm 1, Lib.splitB_hit sep save _ s i hix, Lib.splitB_hit sep save _ s i hix, splitB_lim sep h1 save k _ (by omega)]
theorem splitB_more (sep : ByteArray) (h1 : 1 ≤ sep.size) (save : Nat) : ∀ (k : Nat) (s : ByteArray), k ≤ Lib.countB s sep → (Lib.splitB sep save k s).length = k + 1
  | 0, _, _ => rfl
  | k + 1, s, h => by
    rcases Lib.indexB_cases s sep with hix | ⟨i, hix, _⟩
    · rw [Lib.countB_miss s sep hix] at h; omega
    · have hc := Lib.countB_hit s sep i h1 hix
      rw [Lib.splitB_hit sep save _ s i hix, List.length_cons, splitB_more sep h1 save k _ (by omega)]
/-- At most four pieces at blanks. -/
def wordsS (s : ByteArray) : List ByteArray := Lib.splitB ⟨#[32]⟩ 0 (min 4 (s.size + 1) - 1) s
theorem wordsS_eq (s : ByteArray) : wordsS s = splitS 32 s ∨ (wordsS s).length = 4 ∧ (splitS 32 s).length ≠ 3 := by
  unfold wordsS
  rw [← splitB_eq]
  have hz : 1 ≤ (⟨#[32]⟩ : ByteArray).size := by decide
  have hle := Lib.countB_le ⟨#[32]⟩ hz s.size s (Nat.le_refl _)
  by_cases h : Lib.countB s ⟨#[32]⟩ ≤ min 4 (s.size + 1) - 1
  · exact .inl (splitB_lim _ hz _ _ s h)
  · right
    have e : min 4 (s.size + 1) - 1 = 3 := by omega
    rw [e]
    refine ⟨splitB_more _ hz _ 3 s (by omega), ?_⟩
    rw [splitB_more _ hz _ _ s (Nat.le_refl _)]; omega
/-- Bytes that a rune of more than one byte, or a byte that is none, takes: all are at 128 or beyond. -/
theorem decode_skip (s : ByteArray) (pos : Nat) (h : pos < s.size) (ha : 128 ≤ (s[pos]'h).toNat) : pos + (Utf8.decode s pos).2 ≤ s.size ∧ ∀ k, k < (Utf8.decode s pos).2 → ∀ hk : pos + k < s.size, 128 ≤ (s[pos + k]'hk).toNat := by
  have hn : ¬ (s[pos]'h).toNat < 128 := by omega
  have hcont : ∀ k, (decide (pos + k < s.size) && ((s.get! (pos + k)).toNat / 64 == 2)) = true → ∃ hk : pos + k < s.size, 128 ≤ (s[pos + k]'hk).toNat := fun k hk => by
    simp only [Bool.and_eq_true, decide_eq_true_eq, beq_iff_eq] at hk
    obtain ⟨h1, h2⟩ := hk
    refine ⟨h1, ?_⟩
    have e : s.get! (pos + k) = s[pos + k]'h1 := by
      have := get_at s (pos + k) h1
      simpa using this
    rw [e] at h2; omega
  have one : pos + 1 ≤ s.size ∧ ∀ k, k < 1 → ∀ hk : pos + k < s.size, 128 ≤ (s[pos + k]'hk).toNat := ⟨by omega, fun k hk hk2 => by
    obtain rfl : k = 0 := by omega
    exact ha⟩
  simp only [Utf8.decode, get_at s pos h, hn, if_false]
  split
  · rename_i h1
    have h1' := (Bool.and_eq_true _ _ ▸ h1 : _ ∧ _).2
    obtain ⟨k1, g1⟩ := hcont 1 h1'
    split
    · refine ⟨by show pos + 2 ≤ _; omega, fun k hk hk2 => ?_⟩
      have hk' : k < 2 := hk
      match k, hk' with
      | 0, _ => exact ha
      | 1, _ => exact g1
    · exact one
  · split
    · rename_i h1
      simp only [Bool.and_eq_true] at h1
      obtain ⟨k1, g1⟩ := hcont 1 (by simpa using h1.1.2)
      obtain ⟨k2, g2⟩ := hcont 2 (by simpa using h1.2)
      split
      · refine ⟨by show pos + 3 ≤ _; omega, fun k hk hk2 => ?_⟩
        have hk' : k < 3 := hk
        match k, hk' with
        | 0, _ => exact ha
        | 1, _ => exact g1
        | 2, _ => exact g2
      · exact one
    · split
      · rename_i h1
        simp only [Bool.and_eq_true] at h1
        obtain ⟨k1, g1⟩ := hcont 1 (by simpa using h1.1.1.2)
        obtain ⟨k2, g2⟩ := hcont 2 (by simpa using h1.1.2)
        obtain ⟨k3, g3⟩ := hcont 3 (by simpa using h1.2)
        split
        · refine ⟨by show pos + 4 ≤ _; omega, fun k hk hk2 => ?_⟩
          have hk' : k < 4 := hk
          match k, hk' with
          | 0, _ => exact ha
          | 1, _ => exact g1
          | 2, _ => exact g2
          | 3, _ => exact g3
        · exact one
      · exact one

/-- A string at the first of a byte. -/
def cutS (d : UInt8) (s : ByteArray) : ByteArray × ByteArray :=
  if 0 ≤ idxI d s then (s.extract 0 (idxI d s).toNat, s.extract ((idxI d s).toNat + 1) s.size) else (s, ⟨#[]⟩)
theorem cutS_at {d : UInt8} {s : ByteArray} {k : Nat} (h : idxI d s = k) : cutS d s = (s.extract 0 k, s.extract (k + 1) s.size) := by unfold cutS; rw [h]; simp
theorem cutS_no {d : UInt8} {s : ByteArray} (h : idxI d s = -1) : cutS d s = (s, ⟨#[]⟩) := by unfold cutS; rw [h]; rfl
theorem idxI_cases (d : UInt8) (s : ByteArray) : idxI d s = -1 ∨ ∃ k : Nat, idxI d s = k ∧ k < s.size := by
  have := idxI_ge d s
  by_cases h : idxI d s = -1
  · exact .inl h
  · refine .inr ⟨(idxI d s).toNat, by omega, idxI_lt d s (by omega)⟩
theorem cutS_size1 (d : UInt8) (s : ByteArray) : (cutS d s).1.size ≤ s.size := by
  rcases idxI_cases d s with h | ⟨k, h, hk⟩
  · rw [cutS_no h]; exact Nat.le_refl _
  · rw [cutS_at h]; exact extract_le _ _ _
theorem cutS_size2 (d : UInt8) (s : ByteArray) : (cutS d s).2.size ≤ s.size := by
  rcases idxI_cases d s with h | ⟨k, h, hk⟩
  · rw [cutS_no h]; exact Nat.zero_le _
  · rw [cutS_at h]; exact extract_le _ _ _
end Go.Proofs.YtejbkbccljoldaaGreatDoor
namespace Go.Proofs.YtejbkbccljoldaaGreatDoor
open Go.RowKit

theorem idxI_one (d : UInt8) (s : ByteArray) (h : (⟨#[d]⟩ : ByteArray) = s) : idxI d s = 0 := by
  subst h
  exact idxI_at d ⟨#[d]⟩ 0 (show 0 < 1 by decide) rfl (fun j hj => absurd hj (Nat.not_lt_zero _))

set_option maxRecDepth 100000 in
set_option maxHeartbeats 2000000 in
theorem idxLiteC_any (d : UInt8) (s c : ByteArray) (w : World) (hz : c.size = 1) (h0 : ∀ h, c[0]'h = d) (hc : c = ⟨#[d]⟩) :
    Calls Tryz.prog 175 #[.string s, .string c] w fun e w' => e = .returned (.int .i64 (idxI d s)) ∧ w = w' := by
  by_cases he : c = s
  · have HE := Box.mk (idxI_one d s (by rw [← hc]; exact he))
    have h1 : (c.toList == s.toList) = true := by rw [toList_eq]; simp [he]
    clear he hc
    go_enter Tryz.func175, Tryz.ntmps175
    go_wp2_with fail
    go_ret
    exact ⟨ret_int HE.out.symm, rfl⟩
  · have h1 : (c.toList == s.toList) = false := by rw [toList_eq]; simp [he]
    clear he hc
    go_enter Tryz.func175, Tryz.ntmps175
    go_wp2_with fail
    refine (indexByteLite_any s d _).mono ?_
    rintro e w1 ⟨rfl, rfl⟩
    go_wp2_with fail
    go_ret
    exact ⟨rfl, rfl⟩

set_option maxRecDepth 100000 in
set_option maxHeartbeats 2000000 in
theorem liteCutC_yes (d : UInt8) (s c : ByteArray) (k : Nat) (w : World) (hs : s.size ≤ maxLen) (hz : c.size = 1) (h0 : ∀ h, c[0]'h = d) (hc : c = ⟨#[d]⟩) (hk : idxI d s = k) :
    Calls Tryz.prog 172 #[.string s, .string c] w fun e w' => e = .returned (.tuple #[.string (s.extract 0 k), .string (s.extract (k + 1) s.size), .bool true]) ∧ Below w.heap.size w w' := by
  have hlt := idxI_lt d s hk
  unfold maxLen at hs
  have HK := Box.mk hk
  have H0 := Box.mk (And.intro h0 hc)
  clear hk h0 hc
  go_enter Tryz.func172, Tryz.ntmps172
  go_wp2_with fail
  refine (idxLiteC_any d s c _ hz H0.out.1 H0.out.2).mono ?_
  rintro e w1 ⟨he, rfl⟩
  rw [HK.out] at he
  subst he
  go_wp2_with fail
  go_quiet (fail)
  go_wp2
  go_ret3
  exact ⟨rfl, below_drewN (Below.refl _ _) _⟩

set_option maxRecDepth 100000 in
set_option maxHeartbeats 2000000 in
theorem liteCutC_no (d : UInt8) (s c : ByteArray) (w : World) (hz : c.size = 1) (h0 : ∀ h, c[0]'h = d) (hc : c = ⟨#[d]⟩) (hk : idxI d s = -1) :
    Calls Tryz.prog 172 #[.string s, .string c] w fun e w' => e = .returned (.tuple #[.string s, .string ⟨#[]⟩, .bool false]) ∧ Below w.heap.size w w' := by
  have HK := Box.mk hk
  have H0 := Box.mk (And.intro h0 hc)
  clear hk h0 hc
  go_enter Tryz.func172, Tryz.ntmps172
  go_wp2_with fail
  refine (idxLiteC_any d s c _ hz H0.out.1 H0.out.2).mono ?_
  rintro e w1 ⟨he, rfl⟩
  rw [HK.out] at he
  subst he
  go_wp2_with fail
  go_ret3
  exact ⟨rfl, Below.refl _ _⟩

set_option maxHeartbeats 2000000 in
theorem cutC_any (d : UInt8) (s : ByteArray) (w : World) (hs : s.size ≤ maxLen) :
    Calls Tryz.prog 153 #[.string s, .string ⟨#[d]⟩] w fun e w' => ∃ b, e = .returned (.tuple #[.string (cutS d s).1, .string (cutS d s).2, .bool b]) ∧ Below w.heap.size w w' := by
  rcases idxI_cases d s with hk | ⟨k, hk, _⟩
  · have HK := Box.mk hk
    have HC := Box.mk (cutS_no hk)
    clear hk
    go_enter Tryz.func153, Tryz.ntmps153
    go_wp2_with fail
    refine (liteCutC_no d s _ _ rfl (fun _ => rfl) rfl HK.out).mono ?_
    rintro e w1 ⟨rfl, hb⟩
    have HB := Box.mk hb
    clear hb
    go_wp2_with fail
    go_ret3
    exact ⟨false, by rw [HC.out]; rfl, HB.out⟩
  · have HK := Box.mk hk
    have HC := Box.mk (cutS_at hk)
    clear hk
    go_enter Tryz.func153, Tryz.ntmps153
    go_wp2_with fail
    refine (liteCutC_yes d s _ k _ hs rfl (fun _ => rfl) rfl HK.out).mono ?_
    rintro e w1 ⟨rfl, hb⟩
    have HB := Box.mk hb
    clear hb
    go_wp2_with fail
    go_ret3
    exact ⟨true, by rw [HC.out]; rfl, HB.out⟩

def versionS (z : Int) : ByteArray := if z = 0 then v10 else if z = 1 then v11 else ⟨#[]⟩
theorem projDigit_any (c : Int) (w : World) (h0 : 0 ≤ c) (h1 : c ≤ 255) :
    Calls Tryz.prog 183 #[.int .u8 c] w fun e w' => e = .returned (.bool (digB c)) ∧ w = w' := by
  go_enter Tryz.func183, Tryz.ntmps183
  go_wp2
  all_goals go_ret
  all_goals exact ⟨ret_bool (by unfold digB; rw [Bool.eq_iff_iff]; simp; omega), rfl⟩
def statB (n : Int) : Bool := decide (100 ≤ n) && decide (n ≤ 599)
theorem isStatus_any (n : Int) (w : World) :
    Calls Tryz.prog 155 #[.int .i64 n] w fun e w' => e = .returned (.bool (statB n)) ∧ w = w' := by
  go_enter Tryz.func155, Tryz.ntmps155
  go_wp2
  all_goals go_ret
  all_goals exact ⟨ret_bool (by unfold statB; rw [Bool.eq_iff_iff]; simp; omega), rfl⟩
end Go.Proofs.YtejbkbccljoldaaGreatDoor
namespace Go.Proofs.YtejbkbccljoldaaGreatDoor
open Go.RowKit

def pfxB (p s : ByteArray) : Bool := decide (p.size ≤ s.size ∧ s.extract 0 p.size = p)
set_option maxHeartbeats 1000000 in
theorem litePrefix_any (p s : ByteArray) (w : World) :
    Calls Tryz.prog 181 #[.string s, .string p] w fun e w' => e = .returned (.bool (pfxB p s)) ∧ w = w' := by
  by_cases h1 : p.size ≤ s.size
  · by_cases h2 : s.extract 0 p.size = p
    · have HR := Box.mk (show pfxB p s = true by unfold pfxB; simp [h1, h2])
      have hb : ((s.extract 0 p.size).toList == p.toList) = true := by rw [toList_eq]; simp [h2]
      clear h2
      go_enter Tryz.func181, Tryz.ntmps181
      go_wp2_with fail
      go_ret
      exact ⟨ret_bool HR.out.symm, rfl⟩
    · have HR := Box.mk (show pfxB p s = false by unfold pfxB; simp [h2])
      have hb : ((s.extract 0 p.size).toList == p.toList) = false := by rw [toList_eq]; simp [h2]
      clear h2
      go_enter Tryz.func181, Tryz.ntmps181
      go_wp2_with fail
      go_ret
      exact ⟨ret_bool HR.out.symm, rfl⟩
  · have HR := Box.mk (show pfxB p s = false by unfold pfxB; simp [h1])
    have h1' : s.size < p.size := by omega
    clear h1
    go_enter Tryz.func181, Tryz.ntmps181
    go_wp2_with fail
    go_ret
    exact ⟨ret_bool HR.out.symm, rfl⟩
theorem prefix_any (p s : ByteArray) (w : World) :
    Calls Tryz.prog 166 #[.string s, .string p] w fun e w' => e = .returned (.bool (pfxB p s)) ∧ w = w' := by
  go_enter Tryz.func166, Tryz.ntmps166
  go_wp2_with fail
  refine (litePrefix_any p s _).mono ?_
  rintro e w1 ⟨rfl, rfl⟩
  go_wp2_with fail
  go_ret
  exact ⟨rfl, rfl⟩
set_option maxHeartbeats 1000000 in
theorem liteCutPrefix_yes (p s : ByteArray) (w : World) (h : pfxB p s = true) :
    Calls Tryz.prog 198 #[.string s, .string p] w fun e w' => e = .returned (.tuple #[.string (s.extract p.size s.size), .bool true]) ∧ w = w' := by
  have HP := Box.mk h
  have hle : p.size ≤ s.size := by unfold pfxB at h; simp at h; exact h.1
  clear h
  go_enter Tryz.func198, Tryz.ntmps198
  go_wp2_with fail
  refine (litePrefix_any p s _).mono ?_
  rintro e w1 ⟨he, rfl⟩
  rw [HP.out] at he
  subst he
  go_wp2_with fail
  go_ret2
  exact ⟨rfl, rfl⟩
set_option maxHeartbeats 1000000 in
theorem liteCutPrefix_no (p s : ByteArray) (w : World) (h : pfxB p s = false) :
    Calls Tryz.prog 198 #[.string s, .string p] w fun e w' => e = .returned (.tuple #[.string s, .bool false]) ∧ w = w' := by
  have HP := Box.mk h
  clear h
  go_enter Tryz.func198, Tryz.ntmps198
  go_wp2_with fail
  refine (litePrefix_any p s _).mono ?_
  rintro e w1 ⟨he, rfl⟩
  rw [HP.out] at he
  subst he
  go_wp2_with fail
  go_ret2
  exact ⟨rfl, rfl⟩
theorem cutPrefix_yes (p s : ByteArray) (w : World) (h : pfxB p s = true) :
    Calls Tryz.prog 182 #[.string s, .string p] w fun e w' => e = .returned (.tuple #[.string (s.extract p.size s.size), .bool true]) ∧ w = w' := by
  have HP := Box.mk h
  clear h
  go_enter Tryz.func182, Tryz.ntmps182
  go_wp2_with fail
  refine (liteCutPrefix_yes p s _ HP.out).mono ?_
  rintro e w1 ⟨rfl, rfl⟩
  go_wp2_with fail
  go_ret2
  exact ⟨rfl, rfl⟩
theorem cutPrefix_no (p s : ByteArray) (w : World) (h : pfxB p s = false) :
    Calls Tryz.prog 182 #[.string s, .string p] w fun e w' => e = .returned (.tuple #[.string s, .bool false]) ∧ w = w' := by
  have HP := Box.mk h
  clear h
  go_enter Tryz.func182, Tryz.ntmps182
  go_wp2_with fail
  refine (liteCutPrefix_no p s _ HP.out).mono ?_
  rintro e w1 ⟨rfl, rfl⟩
  go_wp2_with fail
  go_ret2
  exact ⟨rfl, rfl⟩

theorem pfx_slash (s : ByteArray) : pfxB ⟨#[47]⟩ s = (s.data.toList.head? == some 47) := by
  unfold pfxB
  have h1 : (⟨#[47]⟩ : ByteArray).size = 1 := rfl
  rw [h1]
  by_cases h : 0 < s.size
  · rw [head_at s h]
    have hl : s.data.toList.length = s.size := by rw [Array.length_toList]; rfl
    have e : (s.extract 0 1).data.toList = [s[0]] := by
      rw [Lib.extract_from_zero]
      cases hq : s.data.toList with
      | nil => rw [hq] at hl; simp at hl; omega
      | cons a t =>
        have : s.data.toList.head? = some s[0] := head_at s h
        rw [hq] at this
        simp at this
        simp [this]
    rw [Bool.eq_iff_iff]
    simp only [decide_eq_true_eq, beq_iff_eq, Option.some.injEq]
    constructor
    · rintro ⟨_, h2⟩
      rw [h2] at e
      simpa using e.symm
    · intro h2
      exact ⟨h, ba_ext (by rw [e, h2])⟩
  · have hl : s.data.toList.length = s.size := by rw [Array.length_toList]; rfl
    have e : s.data.toList = [] := List.eq_nil_of_length_eq_zero (by omega)
    rw [e, Bool.eq_iff_iff]
    simp only [decide_eq_true_eq]
    constructor
    · rintro ⟨h2, _⟩; omega
    · intro h2; simp at h2

theorem take_more (P : UInt8 → Bool) (s : ByteArray) (pos : Nat) (h : (s.data.toList.take pos).all P = true) : ∀ n, pos + n ≤ s.size → (∀ k, k < n → ∀ hk : pos + k < s.size, P (s[pos + k]'hk) = true) → (s.data.toList.take (pos + n)).all P = true
  | 0, _, _ => h
  | n + 1, hle, hk => by
    have ih := take_more P s pos h n (by omega) (fun k hk1 hk2 => hk k (by omega) hk2)
    rw [← Nat.add_assoc, take_snoc s (pos + n) (by omega), List.all_append, ih]
    simpa using hk n (by omega) (by omega)
theorem valB_high {c : UInt8} (h : 128 ≤ c.toNat) : valB c = true := by
  unfold valB; simp; right; omega

set_option maxRecDepth 100000 in
set_option maxHeartbeats 2000000 in
theorem projTarget_any (s : ByteArray) (w : World) :
    Calls Tryz.prog 144 #[.string s] w fun e w' => e = .returned (.bool (targetS s)) ∧ Below w.heap.size w w' := by
  go_enter Tryz.func144, Tryz.ntmps144
  go_wp2_with fail
  go_loopw [] (fun w' => ∃ pos : Nat, w' = w.iter s pos ∧ pos ≤ s.size ∧ Box ((s.data.toList.take pos).all tgB = true)) (fun w' => s.size - w'.iterPos w.heap.size)
  case atStart => exact ⟨0, rfl, Nat.zero_le _, ⟨by simp⟩⟩
  case round =>
    obtain ⟨pos, rfl, hk, HP⟩ := hrel
    by_cases hp : pos < s.size
    · by_cases ha : s[pos].toNat < 128
      · have hnx : ∀ ty, (Instr.next (.pointer (some ⟨w.heap.size, 0, none⟩)) true ty).run Tryz.prog (w.iter s pos) = _ := fun ty => run_next_ascii w s pos ty hp ha
        have hcase : Box (tgB s[pos] = true) ∧ 33 ≤ (s[pos].toNat : Int) ∧ (s[pos].toNat : Int) ≤ 126 ∧ ((s[pos].toNat : Int) == 35) = false ∨ Box (tgB s[pos] = false) ∧ (s[pos].toNat : Int) < 33
            ∨ Box (tgB s[pos] = false) ∧ 33 ≤ (s[pos].toNat : Int) ∧ 126 < (s[pos].toNat : Int) ∨ Box (tgB s[pos] = false) ∧ 33 ≤ (s[pos].toNat : Int) ∧ (s[pos].toNat : Int) ≤ 126 ∧ ((s[pos].toNat : Int) == 35) = true := by
          by_cases h1 : 33 ≤ (s[pos].toNat : Int)
          · by_cases h2 : (s[pos].toNat : Int) ≤ 126
            · by_cases h3 : (s[pos].toNat : Int) = 35
              · exact .inr (.inr (.inr ⟨⟨by simp [tgB, h3]⟩, h1, h2, by simp [h3]⟩))
              · exact .inl ⟨⟨by simp [tgB, h1, h2, h3]⟩, h1, h2, by rw [beq_eq_false_iff_ne]; exact h3⟩
            · exact .inr (.inr (.inl ⟨⟨by simp [tgB, h2]⟩, h1, by omega⟩))
          · exact .inr (.inl ⟨⟨by simp [tgB, h1]⟩, by omega⟩)
        rcases hcase with ⟨HC, h1, h2, h3⟩ | ⟨HC, h1⟩ | ⟨HC, h1, h2⟩ | ⟨HC, h1, h2, h3⟩
        · go_wp2_with fail
          go_roundw
          case rel => exact ⟨pos + 1, rfl, by omega, ⟨by rw [take_snoc s pos hp, List.all_append, HP.out]; simpa using HC.out⟩⟩
          case measure => simp; omega
        all_goals
          go_wp2_with fail
          go_ret
          exact ⟨ret_bool (targetS_no hp HC.out).symm, below_oneF w _⟩
      · have hd := (decode_high s pos hp (by omega)).1
        have hnx : ∀ ty, (Instr.next (.pointer (some ⟨w.heap.size, 0, none⟩)) true ty).run Tryz.prog (w.iter s pos) = _ := fun ty => run_next_any w s pos ty hp
        have HC := Box.mk (show tgB s[pos] = false by unfold tgB; simp; omega)
        generalize (Utf8.decode s pos).1 = r at *
        generalize (Utf8.decode s pos).2 = wd at *
        clear ha
        have h1 : 33 ≤ (r : Int) := by omega
        have h2 : 126 < (r : Int) := by omega
        go_wp2_with fail
        go_ret
        exact ⟨ret_bool (targetS_no hp HC.out).symm, below_oneF w _⟩
    · have hnx : ∀ ty, (Instr.next (.pointer (some ⟨w.heap.size, 0, none⟩)) true ty).run Tryz.prog (w.iter s pos) = _ := fun ty => run_next_end w s pos ty hp
      have HE := Box.mk (targetS_end hk hp HP.out)
      go_wp2_with fail
      refine (prefix_any ⟨#[47]⟩ s _).mono ?_
      rintro e w1 ⟨rfl, rfl⟩
      go_wp2_with fail
      go_ret
      exact ⟨ret_bool (by rw [HE.out]; exact pfx_slash s), below_oneF w _⟩

set_option maxRecDepth 100000 in
set_option maxHeartbeats 2000000 in
theorem isReason_any (s : ByteArray) (w : World) :
    Calls Tryz.prog 156 #[.string s] w fun e w' => e = .returned (.bool (visS s)) ∧ Below w.heap.size w w' := by
  go_enter Tryz.func156, Tryz.ntmps156
  go_wp2_with fail
  go_loopw [] (fun w' => ∃ pos : Nat, w' = w.iter s pos ∧ pos ≤ s.size ∧ Box ((s.data.toList.take pos).all valB = true)) (fun w' => s.size - w'.iterPos w.heap.size)
  case atStart => exact ⟨0, rfl, Nat.zero_le _, ⟨by simp⟩⟩
  case round =>
    obtain ⟨pos, rfl, hk, HP⟩ := hrel
    by_cases hp : pos < s.size
    · by_cases ha : s[pos].toNat < 128
      · have hnx : ∀ ty, (Instr.next (.pointer (some ⟨w.heap.size, 0, none⟩)) true ty).run Tryz.prog (w.iter s pos) = _ := fun ty => run_next_ascii w s pos ty hp ha
        have hcase : Box (valB s[pos] = true) ∧ ((s[pos].toNat : Int) != 9) = false ∧ ((s[pos].toNat : Int) == 127) = false ∨ Box (valB s[pos] = true) ∧ ((s[pos].toNat : Int) != 9) = true ∧ 32 ≤ (s[pos].toNat : Int) ∧ ((s[pos].toNat : Int) == 127) = false
            ∨ Box (valB s[pos] = false) ∧ ((s[pos].toNat : Int) != 9) = true ∧ (s[pos].toNat : Int) < 32 ∨ Box (valB s[pos] = false) ∧ ((s[pos].toNat : Int) != 9) = true ∧ 32 ≤ (s[pos].toNat : Int) ∧ ((s[pos].toNat : Int) == 127) = true := by
          by_cases h9 : (s[pos].toNat : Int) = 9
          · exact .inl ⟨⟨by simp [valB, h9]⟩, by simp [h9], by simp [h9]⟩
          · have e9 : ((s[pos].toNat : Int) != 9) = true := by rw [bne_iff_ne]; exact h9
            by_cases h32 : 32 ≤ (s[pos].toNat : Int)
            · by_cases h127 : (s[pos].toNat : Int) = 127
              · exact .inr (.inr (.inr ⟨⟨by simp [valB, h127]⟩, e9, h32, by simp [h127]⟩))
              · exact .inr (.inl ⟨⟨by simp [valB, h127, h32]⟩, e9, h32, by rw [beq_eq_false_iff_ne]; exact h127⟩)
            · exact .inr (.inr (.inl ⟨⟨by simp [valB, h9, h32]⟩, e9, by omega⟩))
        rcases hcase with ⟨HC, h1, h2⟩ | ⟨HC, h1, h2, h3⟩ | ⟨HC, h1, h2⟩ | ⟨HC, h1, h2, h3⟩
        · go_wp2_with fail
          go_roundw
          case rel => exact ⟨pos + 1, rfl, by omega, ⟨by rw [take_snoc s pos hp, List.all_append, HP.out]; simpa using HC.out⟩⟩
          case measure => simp; omega
        · go_wp2_with fail
          go_roundw
          case rel => exact ⟨pos + 1, rfl, by omega, ⟨by rw [take_snoc s pos hp, List.all_append, HP.out]; simpa using HC.out⟩⟩
          case measure => simp; omega
        all_goals
          go_wp2_with fail
          go_ret
          exact ⟨ret_bool (visS_no hp HC.out).symm, below_oneF w _⟩
      · obtain ⟨hd, hwd⟩ := decode_high s pos hp (by omega)
        obtain ⟨hsk, hby⟩ := decode_skip s pos hp (by omega)
        have hnx : ∀ ty, (Instr.next (.pointer (some ⟨w.heap.size, 0, none⟩)) true ty).run Tryz.prog (w.iter s pos) = _ := fun ty => run_next_any w s pos ty hp
        have HN := Box.mk (take_more valB s pos HP.out _ hsk (fun k h1 h2 => valB_high (hby k h1 h2)))
        clear hby
        generalize (Utf8.decode s pos).1 = r at *
        generalize (Utf8.decode s pos).2 = wd at *
        clear ha
        have h1 : ((r : Int) != 9) = true := by rw [bne_iff_ne]; omega
        have h2 : 32 ≤ (r : Int) := by omega
        have h3 : ((r : Int) == 127) = false := by rw [beq_eq_false_iff_ne]; omega
        go_wp2_with fail
        go_roundw
        case rel => exact ⟨pos + wd, rfl, hsk, HN⟩
        case measure => simp; omega
    · have hnx : ∀ ty, (Instr.next (.pointer (some ⟨w.heap.size, 0, none⟩)) true ty).run Tryz.prog (w.iter s pos) = _ := fun ty => run_next_end w s pos ty hp
      have HE := Box.mk (visS_yes hk hp HP.out)
      go_wp2_with fail
      go_ret
      exact ⟨ret_bool HE.out.symm, below_oneF w _⟩
end Go.Proofs.YtejbkbccljoldaaGreatDoor
namespace Go.Proofs.YtejbkbccljoldaaGreatDoor
open Go.RowKit

def hslash : ByteArray := ⟨#[72, 84, 84, 80, 47]⟩
def bAt (s : ByteArray) (k : Nat) : UInt8 := s.data.toList.getD k 0
theorem bAt_get (s : ByteArray) (k : Nat) (h : k < s.size) : s[k] = bAt s k := by
  unfold bAt
  rw [List.getD_eq_getElem?_getD, List.getElem?_eq_getElem (by simpa using h)]; rfl
theorem bAt_extract (s : ByteArray) (a b k : Nat) (h : k < (s.extract a b).size) : (s.extract a b)[k]'h = bAt s (a + k) := by
  rw [bAt_get]
  unfold bAt
  rw [Lib.extract_data]
  have h2 : k < b - a := by rw [ByteArray.size_extract] at h; omega
  rw [List.getD_eq_getElem?_getD, List.getD_eq_getElem?_getD, List.getElem?_take_of_lt h2, List.getElem?_drop]
/-- HTTP/, a digit, a point, a digit. -/
def verB (s : ByteArray) : Bool := pfxB hslash s && decide (s.size = 8) && digB (bAt s 5).toNat && decide (bAt s 6 = 46) && digB (bAt s 7).toNat
theorem eq46 {c : UInt8} (h : c = 46) : ((c.toNat : Int) == 46) = true := by rw [h]; rfl
theorem ne46 {c : UInt8} (h : ¬ c = 46) : ((c.toNat : Int) == 46) = false := by
  rw [Bool.eq_false_iff]; intro h2; exact h (UInt8.toNat_inj.1 (by simp at h2; show c.toNat = 46; omega))
theorem u8_le (c : UInt8) : (c.toNat : Int) ≤ 255 := by have := c.toNat_lt; omega

set_option maxRecDepth 100000 in
set_option maxHeartbeats 1000000 in
theorem isVersion_any (s : ByteArray) (w : World) :
    Calls Tryz.prog 167 #[.string s] w fun e w' => e = .returned (.bool (verB s)) ∧ w = w' := by
  by_cases hp : pfxB hslash s = true
  · have HP := Box.mk hp
    have hle : 5 ≤ s.size := by unfold pfxB at hp; simp at hp; exact hp.1
    clear hp
    by_cases h8 : s.size = 8
    · have hg0 := bAt_extract s 5 s.size 0
      have hg1 := bAt_extract s 5 s.size 1
      have hg2 := bAt_extract s 5 s.size 2
      have hz : (s.extract 5 s.size).size = 3 := by rw [ByteArray.size_extract]; omega
      have HD := Box.mk (show ∀ b : Bool, verB s = (digB (bAt s 5).toNat && decide (bAt s 6 = 46) && digB (bAt s 7).toNat) from fun _ => by unfold verB; rw [HP.out]; simp [h8])
      simp only [Nat.add_zero, Nat.reduceAdd] at hg0 hg1 hg2
      generalize bAt s 5 = c5 at *
      generalize bAt s 6 = c6 at *
      generalize bAt s 7 = c7 at *
      generalize hd : s.extract 5 s.size = d at *
      have HDD := Box.mk hd
      have u5 := u8_le c5
      have u6 := u8_le c6
      have u7 := u8_le c7
      clear hd h8
      by_cases q0 : digB c5.toNat = true
      · have Q0 := Box.mk q0
        clear q0
        by_cases q1 : c6 = 46
        · have e1 := eq46 q1
          have Q1 := Box.mk q1
          clear q1
          go_enter Tryz.func167, Tryz.ntmps167
          go_wp2_with fail
          refine (cutPrefix_yes hslash s _ HP.out).mono ?_
          rintro e w1 ⟨he, rfl⟩
          change e = .returned (.tuple #[.string (s.extract 5 s.size), .bool true]) at he
          rw [HDD.out] at he
          subst he
          go_wp2_with fail
          refine (projDigit_any _ _ (by omega) u5).mono ?_
          rintro e w1 ⟨he, rfl⟩
          rw [Q0.out] at he
          subst he
          go_wp2_with fail
          refine (projDigit_any _ _ (by omega) u7).mono ?_
          rintro e w1 ⟨rfl, rfl⟩
          generalize hq : digB c7.toNat = q
          have HQ := Box.mk hq
          clear hq
          go_wp2_with fail
          go_ret
          exact ⟨ret_bool (by rw [HD.out true, Q0.out, Q1.out, HQ.out]; rfl), rfl⟩
        · have e1 := ne46 q1
          have Q1 := Box.mk q1
          clear q1
          go_enter Tryz.func167, Tryz.ntmps167
          go_wp2_with fail
          refine (cutPrefix_yes hslash s _ HP.out).mono ?_
          rintro e w1 ⟨he, rfl⟩
          change e = .returned (.tuple #[.string (s.extract 5 s.size), .bool true]) at he
          rw [HDD.out] at he
          subst he
          go_wp2_with fail
          refine (projDigit_any _ _ (by omega) u5).mono ?_
          rintro e w1 ⟨he, rfl⟩
          rw [Q0.out] at he
          subst he
          go_wp2_with fail
          go_ret
          exact ⟨ret_bool (by rw [HD.out true, Q0.out, decide_eq_false Q1.out]; rfl), rfl⟩
      · have Q0 := Box.mk (show digB c5.toNat = false by simpa using q0)
        clear q0
        go_enter Tryz.func167, Tryz.ntmps167
        go_wp2_with fail
        refine (cutPrefix_yes hslash s _ HP.out).mono ?_
        rintro e w1 ⟨he, rfl⟩
        change e = .returned (.tuple #[.string (s.extract 5 s.size), .bool true]) at he
        rw [HDD.out] at he
        subst he
        go_wp2_with fail
        refine (projDigit_any _ _ (by omega) u5).mono ?_
        rintro e w1 ⟨he, rfl⟩
        rw [Q0.out] at he
        subst he
        go_wp2_with fail
        go_ret
        exact ⟨ret_bool (by rw [HD.out true, Q0.out]; rfl), rfl⟩
    · have HR := Box.mk (show verB s = false by unfold verB; rw [decide_eq_false h8]; simp)
      have hz : ((((s.extract 5 s.size).size : Nat) : Int) == 3) = false := by rw [beq_eq_false_iff_ne, ByteArray.size_extract]; omega
      generalize hd : s.extract 5 s.size = d at *
      have HDD := Box.mk hd
      clear hd h8
      go_enter Tryz.func167, Tryz.ntmps167
      go_wp2_with fail
      refine (cutPrefix_yes hslash s _ HP.out).mono ?_
      rintro e w1 ⟨he, rfl⟩
      change e = .returned (.tuple #[.string (s.extract 5 s.size), .bool true]) at he
      rw [HDD.out] at he
      subst he
      go_wp2_with fail
      go_ret
      exact ⟨ret_bool HR.out.symm, rfl⟩
  · have HP := Box.mk (show pfxB hslash s = false by simpa using hp)
    have HR := Box.mk (show verB s = false by unfold verB; rw [HP.out]; rfl)
    clear hp
    go_enter Tryz.func167, Tryz.ntmps167
    go_wp2_with fail
    refine (cutPrefix_no hslash s _ HP.out).mono ?_
    rintro e w1 ⟨rfl, rfl⟩
    go_wp2_with fail
    go_ret
    exact ⟨ret_bool HR.out.symm, rfl⟩

/-- The minor number of a version, and the error. -/
def verZ (s : ByteArray) : Int × Int := if s = v10 then (0, 0) else if s = v11 then (1, 0) else if verB s then (0, 6) else (0, 2)
set_option maxHeartbeats 1000000 in
theorem parseVersion_any (s : ByteArray) (w : World) :
    Calls Tryz.prog 145 #[.string s] w fun e w' => e = .returned (.tuple #[.int .i64 (verZ s).1, .int .i64 (verZ s).2]) ∧ w = w' := by
  by_cases h0 : s = v10
  · have HR := Box.mk (show verZ s = (0, 0) by unfold verZ; rw [if_pos h0])
    have h1 : (s.toList == [72, 84, 84, 80, 47, 49, 46, 48]) = true := by rw [lit10, toList_eq]; simp; exact h0
    clear h0
    go_enter Tryz.func145, Tryz.ntmps145
    go_wp2_with fail
    go_ret2
    exact ⟨by rw [HR.out]; rfl, rfl⟩
  · have h1 : (s.toList == [72, 84, 84, 80, 47, 49, 46, 48]) = false := by rw [lit10, toList_eq]; simp; exact h0
    by_cases h2 : s = v11
    · have HR := Box.mk (show verZ s = (1, 0) by unfold verZ; rw [if_neg h0, if_pos h2])
      have h3 : (s.toList == [72, 84, 84, 80, 47, 49, 46, 49]) = true := by rw [lit11, toList_eq]; simp; exact h2
      clear h0 h2
      go_enter Tryz.func145, Tryz.ntmps145
      go_wp2_with fail
      go_ret2
      exact ⟨by rw [HR.out]; rfl, rfl⟩
    · have h3 : (s.toList == [72, 84, 84, 80, 47, 49, 46, 49]) = false := by rw [lit11, toList_eq]; simp; exact h2
      by_cases h4 : verB s = true
      · have HR := Box.mk (show verZ s = (0, 6) by unfold verZ; rw [if_neg h0, if_neg h2, if_pos h4])
        have H4 := Box.mk h4
        clear h0 h2 h4
        go_enter Tryz.func145, Tryz.ntmps145
        go_wp2_with fail
        refine (isVersion_any s _).mono ?_
        rintro e w1 ⟨he, rfl⟩
        rw [H4.out] at he
        subst he
        go_wp2_with fail
        go_ret2
        exact ⟨by rw [HR.out]; rfl, rfl⟩
      · have HR := Box.mk (show verZ s = (0, 2) by unfold verZ; rw [if_neg h0, if_neg h2, if_neg h4])
        have H4 := Box.mk (show verB s = false by simpa using h4)
        clear h0 h2 h4
        go_enter Tryz.func145, Tryz.ntmps145
        go_wp2_with fail
        refine (isVersion_any s _).mono ?_
        rintro e w1 ⟨he, rfl⟩
        rw [H4.out] at he
        subst he
        go_wp2_with fail
        go_ret2
        exact ⟨by rw [HR.out]; rfl, rfl⟩

def codeZ (s : ByteArray) : Int := if s.size = 3 then (parseS 10 599 s).1 else 0
set_option maxHeartbeats 1000000 in
theorem parseCode_any (s : ByteArray) (w : World) (hs : s.size ≤ maxLen) :
    Calls Tryz.prog 154 #[.string s] w fun e w' => e = .returned (.int .i64 (codeZ s)) ∧ w = w' := by
  by_cases h3 : s.size = 3
  · have HR := Box.mk (show codeZ s = (parseS 10 599 s).1 by unfold codeZ; rw [if_pos h3])
    have hb : (((s.size : Nat) : Int) != 3) = false := by rw [h3]; rfl
    clear h3
    go_enter Tryz.func154, Tryz.ntmps154
    go_wp2_with fail
    refine (parseDecimal_any s 599 _ hs (by decide) (by decide)).mono ?_
    rintro e w1 ⟨he, rfl⟩
    generalize hq : parseS 10 599 s = q at he
    have HQ := Box.mk hq
    clear hq
    subst he
    go_wp2_with fail
    go_ret
    exact ⟨ret_int (by rw [HR.out, HQ.out]), rfl⟩
  · have HR := Box.mk (show codeZ s = 0 by unfold codeZ; rw [if_neg h3])
    have hb : (((s.size : Nat) : Int) != 3) = true := by rw [bne_iff_ne]; omega
    clear h3
    go_enter Tryz.func154, Tryz.ntmps154
    go_wp2_with fail
    go_ret
    exact ⟨ret_int HR.out.symm, rfl⟩
end Go.Proofs.YtejbkbccljoldaaGreatDoor
namespace Go.Proofs.YtejbkbccljoldaaGreatDoor
open Go.RowKit

section
variable {Q : Exit → Act → World → Prop} {a : Act} {w : World} {o : Oper} {s : Spec}
theorem loc_addS {x y : Operand} {t : TypeId} (ho : o.op = .binOp .add 9 x y t) {b c : ByteArray} (hx : a.eval x = .string b) (hy : a.eval y = .string c) (hn : b.size + c.size ≤ 4000000000) (hs : s.p (.string (b ++ c)) w) :
    o.wp Tryz.prog a w (fun a' w' => ∃ v, a' = a.put o.dst v ∧ Below w.heap.size w w' ∧ s.p v w') Q :=
  loc_run (v := .string (b ++ c)) (by
    have h := run_string_add_sum (P := Tryz.prog) (w := w) b c (by omega)
    unfold execOp
    simp [ho, hx, hy, eqGuard, binOp, h, Result.andThen]) (Below.refl _ _) hs
theorem loc_cell {x : Operand} {t : TypeId} (ho : o.op = .load t x) {p : Addr} (hx : a.eval x = .pointer (some p)) {v : Value} (hc : w.cell? p = some v) (ht : (isAgg t).run Tryz.prog w = .ok false w) (hs : s.p v w) :
    o.wp Tryz.prog a w (fun a' w' => ∃ v, a' = a.put o.dst v ∧ Below w.heap.size w w' ∧ s.p v w') Q :=
  loc_load ho (v := v) (by
    rw [hx]
    simp [Instr.loadAt, Instr.sureAddr, loadVar, hc, ht]) hs
theorem agg_string (w : World) : (isAgg 9).run Tryz.prog w = .ok false w := by
  unfold isAgg; rw [Sem.run_bind, run_underlying Tryz.underlying9 w]; rfl
theorem agg_int (w : World) : (isAgg 3).run Tryz.prog w = .ok false w := by
  unfold isAgg; rw [Sem.run_bind, run_underlying Tryz.underlying3 w]; rfl
theorem run_fieldR (W : World) (g i : Nat) (h : i < 6) : (Instr.fieldAt 29 (.pointer (some ⟨g, 0, none⟩)) i).run Tryz.prog W = .ok (.pointer (some ⟨g, i, none⟩)) W := by
  match i, h with
  | 0, _ => simp [Instr.fieldAt, run_underlying Tryz.underlying29, Instr.sureAddr, fieldPlace, Addr.add]
  | 1, _ => simp [Instr.fieldAt, run_underlying Tryz.underlying29, Instr.sureAddr, fieldPlace, Addr.add]
  | 2, _ => simp [Instr.fieldAt, run_underlying Tryz.underlying29, Instr.sureAddr, fieldPlace, Addr.add]
  | 3, _ => simp [Instr.fieldAt, run_underlying Tryz.underlying29, Instr.sureAddr, fieldPlace, Addr.add]
  | 4, _ => simp [Instr.fieldAt, run_underlying Tryz.underlying29, Instr.sureAddr, fieldPlace, Addr.add]
  | 5, _ => simp [Instr.fieldAt, run_underlying Tryz.underlying29, Instr.sureAddr, fieldPlace, Addr.add]
theorem loc_fieldR {x : Operand} {i : Nat} (ho : o.op = .fieldAddr 29 x i) {g : Nat} (hx : a.eval x = .pointer (some ⟨g, 0, none⟩)) (hi : i < 6) (hs : s.p (.pointer (some ⟨g, i, none⟩)) w) :
    o.wp Tryz.prog a w (fun a' w' => ∃ v, a' = a.put o.dst v ∧ Below w.heap.size w w' ∧ s.p v w') Q :=
  loc_run (v := .pointer (some ⟨g, i, none⟩)) (by unfold execOp; rw [ho]; simp only [hx, Sem.run_bind, run_fieldR _ _ _ hi, Result.andThen_ok, Sem.run_pure]) (Below.refl _ _) hs
end

def http1 : ByteArray := ⟨#[32, 72, 84, 84, 80, 47, 49, 46]⟩
def fmtReq (m t : ByteArray) (z : Int) : ByteArray :=
  if tokS m = true ∧ targetS t = true ∧ 0 ≤ z ∧ z ≤ 1 then m ++ ⟨#[32]⟩ ++ t ++ http1 ++ fmtS 10 z else ⟨#[]⟩
theorem fmtS_small {z : Int} (h0 : 0 ≤ z) (h1 : z ≤ 1) : (fmtS 10 z).size ≤ 1000 := by
  have : z = 0 ∨ z = 1 := by omega
  rcases this with rfl | rfl
  · decide +kernel
  · decide +kernel

set_option maxRecDepth 100000 in
set_option maxHeartbeats 2000000 in
theorem refFormatReq_any (m t : ByteArray) (z : Int) (fa ba : Option Addr) (fn fc bn bc : Nat) (fr : Bool) (w : World) (hm : m.size ≤ 1000000000) (ht : t.size ≤ 1000000000) :
    Calls Tryz.prog 61 #[.agg #[.string m, .string t, .int .i64 z, .slice fa fn fc, .bool fr, .slice ba bn bc]] w fun e w' => e = .returned (.string (fmtReq m t z)) ∧ Below w.heap.size w w' := by
  have HB0 := Box.mk (below_oneF w (.cells #[.string m, .string t, .int .i64 z, .slice fa fn fc, .bool fr, .slice ba bn bc] 29))
  have hml : m.size ≤ maxLen := by unfold maxLen; omega
  have htl : t.size ≤ maxLen := by unfold maxLen; omega
  by_cases h1 : tokS m = true
  · by_cases h2 : targetS t = true
    · by_cases h3 : 0 ≤ z ∧ z ≤ 1
      · have HR := Box.mk (show fmtReq m t z = m ++ ⟨#[32]⟩ ++ t ++ http1 ++ fmtS 10 z by unfold fmtReq; rw [if_pos ⟨h1, h2, h3⟩])
        obtain ⟨z0, z1⟩ := h3
        have HD := Box.mk (fmtS_small z0 z1)
        have HRow := Box.mk (show (w.alloc (.cells #[.string m, .string t, .int .i64 z, .slice fa fn fc, .bool fr, .slice ba bn bc] 29)).heap[w.heap.size]? = some (.cells #[.string m, .string t, .int .i64 z, .slice fa fn fc, .bool fr, .slice ba bn bc] 29 (0, 0)) from heap_alloc_new _ _)
        go_enter Tryz.func61, Tryz.ntmps61
        go_wp2_with fail
        refine (refToken_any m _ hml).mono ?_
        rintro e w1 ⟨rfl, rfl⟩
        go_wp2_with fail
        refine (refTarget_any t _ htl).mono ?_
        rintro e w1 ⟨rfl, rfl⟩
        go_wp2_with fail
        have HRW := HRow
        generalize (w.alloc (.cells #[.string m, .string t, .int .i64 z, .slice fa fn fc, .bool fr, .slice ba bn bc] 29)) = W at *
        generalize hg : w.heap.size = g at *
        have HG := Box.mk hg
        clear hg
        rename_i K hK
        have s1 : (m ++ ⟨#[32]⟩).size = m.size + 1 := by rw [ByteArray.size_append]; rfl
        have s2 : (m ++ ⟨#[32]⟩ ++ t).size = m.size + 1 + t.size := by rw [ByteArray.size_append, s1]
        have s3 : (m ++ ⟨#[32]⟩ ++ t ++ http1).size = m.size + 1 + t.size + 8 := by rw [ByteArray.size_append, s2]; rfl
        refine wp_region_local (S := [.val (.pointer (some ⟨g, 0, none⟩)), .val (.string m), .val (.string (m ++ ⟨#[32]⟩)), .val (.pointer (some ⟨g, 1, none⟩)), .val (.string t), .val (.string (m ++ ⟨#[32]⟩ ++ t)), .val (.string (m ++ ⟨#[32]⟩ ++ t ++ http1)),
          .val (.pointer (some ⟨g, 2, none⟩)), .val (.int .i64 z), .val (.string (fmtS 10 z)), .val (.string (m ++ ⟨#[32]⟩ ++ t ++ http1 ++ fmtS 10 z)), .val (.string (m ++ ⟨#[32]⟩ ++ t ++ http1 ++ fmtS 10 z))])
          (by kernel_rfl) (by kernel_rfl) (by kernel_rfl) ?_ ?_
        · have cell : ∀ w' i v, Below W.heap.size W w' → (#[.string m, .string t, .int .i64 z, .slice fa fn fc, .bool fr, .slice ba bn bc] : Array Value)[i]? = some v → w'.cell? ⟨g, i, none⟩ = some v := fun w' i v hb hv => below_cell hb (by rw [cell_of_row _ _ _ _ _ _ HRW.out]; exact hv)
          refine ⟨?_, ?_, ?_, ?_, ?_, ?_, ?_, ?_, ?_, ?_, ?_, ?_, trivial⟩ <;> intro a w3 hb hf hd
          · exact ⟨wanted_none rfl, loc_fieldR rfl (hf.base 1 rfl) (by decide) rfl⟩
          · exact ⟨wanted_none rfl, loc_cell rfl (hd 0 rfl) (cell w3 0 _ hb rfl) (agg_string _) rfl⟩
          · exact ⟨wanted_none rfl, loc_addS rfl (hd 1 rfl) rfl (by show m.size + 1 ≤ _; omega) rfl⟩
          · exact ⟨wanted_none rfl, loc_fieldR rfl (hf.base 1 rfl) (by decide) rfl⟩
          · exact ⟨wanted_none rfl, loc_cell rfl (hd 3 rfl) (cell w3 1 _ hb rfl) (agg_string _) rfl⟩
          · exact ⟨wanted_none rfl, loc_addS rfl (hd 2 rfl) (hd 4 rfl) (by rw [s1]; omega) rfl⟩
          · exact ⟨wanted_none rfl, loc_addS (c := http1) rfl (hd 5 rfl) rfl (by rw [s2]; show _ + 8 ≤ _; omega) rfl⟩
          · exact ⟨wanted_none rfl, loc_fieldR rfl (hf.base 1 rfl) (by decide) rfl⟩
          · exact ⟨wanted_none rfl, loc_cell rfl (hd 7 rfl) (cell w3 2 _ hb rfl) (agg_int _) rfl⟩
          · refine ⟨wanted_none rfl, loc_call rfl (by kernel_rfl) ?_⟩
            show Calls _ _ #[a.eval (.tmp 31)] w3 _
            rw [show a.eval (.tmp 31) = .int .i64 z from hd 8 rfl]
            refine (refDecimal_any z w3 (by omega) (by omega)).mono ?_
            rintro e w' ⟨rfl, hb'⟩
            exact ⟨_, rfl, hb', rfl⟩
          · exact ⟨wanted_none rfl, loc_addS rfl (hd 6 rfl) (hd 9 rfl) (by rw [s3]; have := HD.out; omega) rfl⟩
          · exact ⟨wanted_none rfl, loc_assign rfl (hd 10 rfl)⟩
        · intro a w3 hb hf hh
          refine hK a w3 ?_
          go_wp2_with fail
          exact local_ret rfl hf.defers (show a.eval (.tmp 2) = .string (m ++ ⟨#[32]⟩ ++ t ++ http1 ++ fmtS 10 z) from hh 11 (by decide)) ⟨ret_str HR.out.symm, by have := HG.out; have h9 := HB0.out; rw [← this] at h9; exact below_trans h9 hb⟩
      · have HR := Box.mk (show fmtReq m t z = ⟨#[]⟩ by unfold fmtReq; rw [if_neg (fun h => h3 h.2.2)])
        have hz : z < 0 ∨ 0 ≤ z ∧ 1 < z := by omega
        clear h3
        rcases hz with hz | ⟨hz0, hz1⟩
        all_goals
          go_enter Tryz.func61, Tryz.ntmps61
          go_wp2_with fail
          refine (refToken_any m _ hml).mono ?_
          rintro e w1 ⟨rfl, rfl⟩
          go_wp2_with fail
          refine (refTarget_any t _ htl).mono ?_
          rintro e w1 ⟨rfl, rfl⟩
          go_wp2_with fail
          go_ret
          exact ⟨ret_str HR.out.symm, HB0.out⟩
    · have h2' : targetS t = false := by simpa using h2
      have HR := Box.mk (show fmtReq m t z = ⟨#[]⟩ by unfold fmtReq; rw [if_neg (fun h => h2 h.2.1)])
      clear h2
      go_enter Tryz.func61, Tryz.ntmps61
      go_wp2_with fail
      refine (refToken_any m _ hml).mono ?_
      rintro e w1 ⟨rfl, rfl⟩
      go_wp2_with fail
      refine (refTarget_any t _ htl).mono ?_
      rintro e w1 ⟨rfl, rfl⟩
      go_wp2_with fail
      go_ret
      exact ⟨ret_str HR.out.symm, HB0.out⟩
  · have h1' : tokS m = false := by simpa using h1
    have HR := Box.mk (show fmtReq m t z = ⟨#[]⟩ by unfold fmtReq; rw [if_neg (fun h => h1 h.1)])
    clear h1
    go_enter Tryz.func61, Tryz.ntmps61
    go_wp2_with fail
    refine (refToken_any m _ hml).mono ?_
    rintro e w1 ⟨rfl, rfl⟩
    go_wp2_with fail
    go_ret
    exact ⟨ret_str HR.out.symm, HB0.out⟩
end Go.Proofs.YtejbkbccljoldaaGreatDoor
namespace Go.Proofs.YtejbkbccljoldaaGreatDoor
open Go.RowKit

section
variable {Q : Exit → Act → World → Prop} {a : Act} {w : World} {o : Oper} {s : Spec}
end

def http0 : ByteArray := ⟨#[72, 84, 84, 80, 47, 49, 46]⟩
end Go.Proofs.YtejbkbccljoldaaGreatDoor
namespace Go.Proofs.YtejbkbccljoldaaGreatDoor
open Go.RowKit

def AVar (w : World) (g : Nat) (st : Int) (r : ByteArray) (z : Int) : Prop := w.heap[g]? = some (.cells #[.int .i64 st, .string r, .int .i64 z, .slice none 0 0, .slice none 0 0] 31 (0, 0))
theorem AVar.keep {w w' : World} {g : Nat} {st : Int} {r : ByteArray} {z : Int} (h : AVar w g st r z) (hb : Below w.heap.size w w') : AVar w' g st r z := by
  unfold AVar at *
  rw [hb.block g (Array.getElem?_eq_some_iff.1 h).1]; exact h
theorem sizeA : (Tryz.prog.info? 31).map (·.size) = some 5 := by kernel_rfl
theorem oneA (st : Int) (r : ByteArray) (z : Int) : (#[.int .i64 st, .string r, .int .i64 z, .slice none 0 0, .slice none 0 0] : Array Value).all (·.oneCell') = true := by simp [Value.oneCell']
def replyV : Option (Int × ByteArray × Int) → Value
  | some f => .tuple #[.agg #[.int .i64 f.1, .string f.2.1, .int .i64 f.2.2, .slice none 0 0, .slice none 0 0], .int .i64 0]
  | none => .tuple #[.agg #[.int .i64 0, .string ⟨#[]⟩, .int .i64 0, .slice none 0 0, .slice none 0 0], .int .i64 2]
def reasonS (s : ByteArray) : ByteArray := if 12 < s.size then s.extract 13 s.size else ⟨#[]⟩
def parseA (s : ByteArray) : Option (Int × ByteArray × Int) :=
  if 12 ≤ s.size ∧ 0 ≤ minorZ (s.extract 0 8) ∧ s.data.toList[8]? = some 32 ∧ (12 < s.size → s.data.toList[12]? = some 32) ∧ (parseS 10 599 (s.extract 9 12)).2 = 0 ∧ 100 ≤ (parseS 10 599 (s.extract 9 12)).1 ∧ visS (reasonS s) = true then
    some ((parseS 10 599 (s.extract 9 12)).1, reasonS s, minorZ (s.extract 0 8)) else none

end Go.Proofs.YtejbkbccljoldaaGreatDoor
namespace Go.Proofs.YtejbkbccljoldaaGreatDoor
open Go.RowKit

/-- A request's line: method, target, minor. -/
def RVar (w : World) (g : Nat) (m t : ByteArray) (z : Int) : Prop := w.heap[g]? = some (.cells #[.string m, .string t, .int .i64 z, .slice none 0 0, .bool false, .slice none 0 0] 29 (0, 0))
theorem RVar.keep {w w' : World} {g : Nat} {m t : ByteArray} {z : Int} (h : RVar w g m t z) (hb : Below w.heap.size w w') : RVar w' g m t z := by
  unfold RVar at *
  rw [hb.block g (Array.getElem?_eq_some_iff.1 h).1]; exact h
theorem sizeR : (Tryz.prog.info? 29).map (·.size) = some 6 := by kernel_rfl
theorem oneR (m t : ByteArray) (z : Int) : (#[.string m, .string t, .int .i64 z, .slice none 0 0, .bool false, .slice none 0 0] : Array Value).all (·.oneCell') = true := by simp [Value.oneCell']
def reqV : Option (ByteArray × ByteArray × Int) × Int → Value
  | (some f, _) => .tuple #[.agg #[.string f.1, .string f.2.1, .int .i64 f.2.2, .slice none 0 0, .bool false, .slice none 0 0], .int .i64 0]
  | (none, e) => .tuple #[.agg #[.string ⟨#[]⟩, .string ⟨#[]⟩, .int .i64 0, .slice none 0 0, .bool false, .slice none 0 0], .int .i64 e]
def lineR : List ByteArray → Option (ByteArray × ByteArray × Int) × Int
  | [m, t, v] => if tokS m = true ∧ targetS t = true then (if (verZ v).2 = 0 then (some (m, t, (verZ v).1), 0) else (none, (verZ v).2)) else (none, 2)
  | _ => (none, 2)
theorem lineR_no {l : List ByteArray} (h : ¬ l.length = 3) : lineR l = (none, 2) := by
  unfold lineR
  split
  · exact absurd rfl h
  · rfl
theorem lineR_ok {m t v : ByteArray} (h1 : tokS m = true) (h2 : targetS t = true) (h4 : (verZ v).2 = 0) : lineR [m, t, v] = (some (m, t, (verZ v).1), 0) := by
  show (if tokS m = true ∧ targetS t = true then (if (verZ v).2 = 0 then (some (m, t, (verZ v).1), 0) else (none, (verZ v).2)) else (none, 2)) = (_ : Option (ByteArray × ByteArray × Int) × Int)
  rw [if_pos ⟨h1, h2⟩, if_pos h4]
theorem lineR_err {m t v : ByteArray} (h1 : tokS m = true) (h2 : targetS t = true) (h4 : ¬ (verZ v).2 = 0) : lineR [m, t, v] = (none, (verZ v).2) := by
  show (if tokS m = true ∧ targetS t = true then (if (verZ v).2 = 0 then (some (m, t, (verZ v).1), 0) else (none, (verZ v).2)) else (none, 2)) = (_ : Option (ByteArray × ByteArray × Int) × Int)
  rw [if_pos ⟨h1, h2⟩, if_neg h4]
theorem lineR_bad {m t v : ByteArray} (h : ¬ (tokS m = true ∧ targetS t = true)) : lineR [m, t, v] = (none, 2) := by
  show (if tokS m = true ∧ targetS t = true then (if (verZ v).2 = 0 then (some (m, t, (verZ v).1), 0) else (none, (verZ v).2)) else (none, 2)) = (_ : Option (ByteArray × ByteArray × Int) × Int)
  rw [if_neg h]
theorem lineR_words (s : ByteArray) : lineR (wordsS s) = lineR (splitS 32 s) := by
  rcases wordsS_eq s with h | ⟨h1, h2⟩
  · rw [h]
  · rw [lineR_no (by omega), lineR_no h2]
theorem three {l : List ByteArray} (h : l.length = 3) : ∃ a b c, l = [a, b, c] := by
  match l, h with
  | [a, b, c], _ => exact ⟨a, b, c, rfl⟩
theorem wordsS_small {s : ByteArray} (h : (wordsS s).length = 3) (x : ByteArray) (hx : x ∈ wordsS s) : x.size ≤ s.size := by
  rcases wordsS_eq s with h1 | ⟨h1, _⟩
  · rw [h1] at hx; exact splitS_small 32 s x hx
  · omega
theorem cellsOf_at (l : List ByteArray) (n j : Nat) (hj : j < l.length) : (Lib.cellsOf l n)[j]? = some (.string l[j]) := by
  unfold Lib.cellsOf
  rw [List.getElem?_toArray, List.getElem?_append_left (by simpa using hj)]; simp [hj]
theorem splitN_any (s : ByteArray) (w : World) (m : Int) (hs : s.size < 4294967281) (hm : w.cell? ⟨0, 0, none⟩ = some (.int .i64 m)) :
    Calls Tryz.prog 127 #[.string s, .string ⟨#[32]⟩, .int .i64 4] w fun e w' => ∃ cap, e = .returned (.slice (some ⟨w.heap.size, 0, none⟩) (wordsS s).length cap) ∧
      (∀ j (hj : j < (wordsS s).length), w'.cell? ⟨w.heap.size, j, none⟩ = some (.string (wordsS s)[j])) ∧ Below w.heap.size w w' := by
  refine (Any.strings_SplitN { Tryz.laysM147 with } Tryz.laysM147.i9 s ⟨#[32]⟩ 4 m w hs hm (by decide) (by decide) (by decide)).mono ?_
  rintro e w' ⟨he, hw⟩
  refine ⟨_, he, fun j hj => ?_, by rw [hw]; exact (Below.refl _ _).alloc (Nat.le_refl _) _⟩
  rw [hw, new_cellF]
  exact cellsOf_at _ _ j hj

section
variable {Q : Exit → Act → World → Prop} {a : Act} {w : World} {o : Oper} {s : Spec}
theorem loc_index_s {x y : Operand} (ho : o.op = .indexAddr 70 x y) {ad : Addr} {n c k : Nat} (hx : a.eval x = .slice (some ad) n c) (hy : a.eval y = .int .i64 k) (hk : k < n) (hs : s.p (.pointer (some (ad.add k))) w) :
    o.wp Tryz.prog a w (fun a' w' => ∃ v, a' = a.put o.dst v ∧ Below w.heap.size w w' ∧ s.p v w') Q :=
  loc_run (v := .pointer (some (ad.add k))) (by
    have es : (sizeOf (Tryz.prog.elem 70)).run Tryz.prog w = .ok 1 w := by
      rw [show Tryz.prog.elem 70 = 9 by kernel_rfl]
      have h : (Tryz.prog.info? 9).map (·.size) = some 1 := by kernel_rfl
      cases hq : Tryz.prog.info? 9 with
      | none => rw [hq] at h; cases h
      | some i => rw [hq] at h; simp at h; simp [sizeOf, typeInfo, hq, h]
    have h := run_indexAt_slice (P := Tryz.prog) (w := w) 70 ad n c .i64 (k : Int) (by kernel_rfl)
    rw [if_pos ⟨by omega, by omega⟩, es] at h
    simp only [Result.andThen, Int.toNat_natCast, Nat.mul_one] at h
    unfold execOp
    simp only [ho, hx, hy, Sem.run_bind, h, Result.andThen_ok, Sem.run_pure]) (Below.refl _ _) hs
theorem loc_buildR {x y z : Operand} (ho : o.op = .build 29 #[(0, x), (1, y), (2, z)]) {m t : ByteArray} {n : Int} (hx : a.eval x = .string m) (hy : a.eval y = .string t) (hz : a.eval z = .int .i64 n)
    (hs : s.p (.agg #[.string m, .string t, .int .i64 n, .slice none 0 0, .bool false, .slice none 0 0]) w) :
    o.wp Tryz.prog a w (fun a' w' => ∃ v, a' = a.put o.dst v ∧ Below w.heap.size w w' ∧ s.p v w') Q := by
  refine loc_run (v := .agg #[.string m, .string t, .int .i64 n, .slice none 0 0, .bool false, .slice none 0 0]) ?_ (Below.refl _ _) hs
  have hb := run_build (P := Tryz.prog) w 29 #[(0, .string m), (1, .string t), (2, .int .i64 n)] #[.string m, .string t, .int .i64 n, .slice none 0 0, .bool false, .slice none 0 0] (by kernel_rfl)
  unfold execOp
  simp only [ho, List.map_toArray, List.map_cons, List.map_nil, hx, hy, hz, Sem.run_bind, hb, Result.andThen_ok, Sem.run_pure]
end

set_option maxRecDepth 100000 in
set_option maxHeartbeats 2000000 in
theorem projParseReq_any (s : ByteArray) (w : World) (mm : Int) (hs : s.size < 4294967281) (hm : w.cell? ⟨0, 0, none⟩ = some (.int .i64 mm)) :
    Calls Tryz.prog 130 #[.string s] w fun e w' => e = .returned (reqV (lineR (splitS 32 s))) ∧ Below w.heap.size w w' := by
  have HW := Box.mk (lineR_words s)
  have HB := Box.mk (below_oneF w (.cells #[.string ⟨#[]⟩, .string ⟨#[]⟩, .int .i64 0, .slice none 0 0, .bool false, .slice none 0 0] 29))
  have HR := Box.mk (show RVar (w.alloc (.cells #[.string ⟨#[]⟩, .string ⟨#[]⟩, .int .i64 0, .slice none 0 0, .bool false, .slice none 0 0] 29)) w.heap.size ⟨#[]⟩ ⟨#[]⟩ 0 from heap_alloc_new _ _)
  have HM := Box.mk (below_cell HB.out hm)
  have HSM := Box.mk (fun h => wordsS_small (s := s) h)
  clear hm
  go_enter Tryz.func130, Tryz.ntmps130
  go_wp2_with fail
  refine (splitN_any s _ mm hs HM.out).mono ?_
  rintro e w1 ⟨cap, rfl, hcell, hb1⟩
  have HB1 := Box.mk (below_trans HB.out hb1)
  have HR1 := Box.mk (HR.out.keep hb1)
  have HC := Box.mk hcell
  have hg1 : (w.alloc (.cells #[.string ⟨#[]⟩, .string ⟨#[]⟩, .int .i64 0, .slice none 0 0, .bool false, .slice none 0 0] 29)).heap.size = w.heap.size + 1 := World.size_alloc _ _
  rw [hg1] at HC ⊢
  clear hb1 hcell HM HB HR hg1
  generalize hws : wordsS s = ws at *
  clear hws
  by_cases h3 : ws.length = 3
  · obtain ⟨m, t, v, rfl⟩ := three h3
    have hc0 := HC.out 0 (by simp)
    have hc1 := HC.out 1 (by simp)
    have hc2 := HC.out 2 (by simp)
    simp only [List.getElem_cons_zero, List.getElem_cons_succ] at hc0 hc1 hc2
    have HZ := Box.mk (show m.size ≤ maxLen by have := HSM.out rfl m (by simp); unfold maxLen; omega)
    clear h3 HC HSM
    rw [show ([m, t, v] : List ByteArray).length = 3 from rfl]
    by_cases h1 : tokS m = true
    · have H1 := Box.mk h1
      clear h1
      by_cases h2 : targetS t = true
      · have H2 := Box.mk h2
        clear h2
        by_cases h4 : (verZ v).2 = 0
        · have HP := Box.mk (show lineR (splitS 32 s) = (some (m, t, (verZ v).1), 0) by rw [← HW.out]; exact lineR_ok H1.out H2.out h4)
          have H4 := Box.mk h4
          clear h4
          go_wp2_with fail
          refine (token_any m _ HZ.out).mono ?_
          rintro e w2 ⟨he, rfl⟩
          rw [H1.out] at he
          subst he
          go_wp2_with fail
          refine (projTarget_any t _).mono ?_
          rintro e w3 ⟨he, hb3⟩
          rw [H2.out] at he
          subst he
          have HB3 := Box.mk (below_trans HB1.out hb3)
          have HR3 := Box.mk (HR1.out.keep hb3)
          have hd0 := below_cell hb3 hc0
          have hd1 := below_cell hb3 hc1
          have hd2 := below_cell hb3 hc2
          clear hb3 hc0 hc1 hc2 HB1 HR1
          go_wp2_with fail
          refine (parseVersion_any v _).mono ?_
          rintro e w4 ⟨he, rfl⟩
          rw [H4.out] at he
          generalize hzz : (verZ v).1 = z at *
          clear hzz
          subst he
          go_wp2_with fail
          generalize hg : w.heap.size = g at *
          have HG := Box.mk hg
          clear hg
          rename_i K hK
          refine wp_region_store (S := [some (.val (.slice (some ⟨g + 1, 0, none⟩) 3 cap)), some (.val (.pointer (some ⟨g + 1, 0, none⟩))), some (.val (.string m)), some (.val (.slice (some ⟨g + 1, 0, none⟩) 3 cap)), some (.val (.pointer (some ⟨g + 1, 1, none⟩))), some (.val (.string t)), some (.val (.int .i64 z)),
            some (.val (.agg #[.string m, .string t, .int .i64 z, .slice none 0 0, .bool false, .slice none 0 0])), none, some (.val (.int .i64 0))]) 8 [9]
            (fun w' => Below g w w' ∧ RVar w' g m t z) (by kernel_rfl) (by kernel_rfl) (by kernel_rfl) (by kernel_rfl) rfl rfl rfl ?_ ?_ ?_ ?_
          · refine ⟨?_, ?_, ?_, ?_, ?_, ?_, ?_, ?_, ?_, trivial⟩ <;> intro a w5 hb hf hd
            · exact ⟨wanted_none rfl, loc_move rfl (hf.base 4 rfl)⟩
            · exact ⟨wanted_none rfl, loc_index_s (k := 0) rfl (hd 0 rfl) rfl (by decide) rfl⟩
            · exact ⟨wanted_none rfl, loc_cell rfl (hd 1 rfl) (below_cell hb hd0) (agg_string _) rfl⟩
            · exact ⟨wanted_none rfl, loc_move rfl (hf.base 4 rfl)⟩
            · exact ⟨wanted_none rfl, loc_index_s (k := 1) rfl (hd 3 rfl) rfl (by decide) rfl⟩
            · exact ⟨wanted_none rfl, loc_cell rfl (hd 4 rfl) (below_cell hb hd1) (agg_string _) rfl⟩
            · exact ⟨wanted_none rfl, loc_move rfl (hf.base 5 rfl)⟩
            · exact ⟨wanted_none rfl, loc_buildR rfl (hd 2 rfl) (hd 5 rfl) (hd 6 rfl) rfl⟩
            · exact ⟨wanted_none rfl, loc_assign rfl rfl⟩
          · exact ⟨fun a w5 hf hd => ⟨wanted_none rfl, late_assign rfl rfl⟩, trivial⟩
          · refine ⟨rfl, fun a w5 hb hf hd => ⟨wanted_none rfl, ?_⟩⟩
            refine wp_store_row 29 _ _ rfl g #[.string m, .string t, .int .i64 z, .slice none 0 0, .bool false, .slice none 0 0] (hf.base 2 rfl) (hd 7 rfl) 29 _ (HR3.out.keep hb) sizeR rfl (oneR _ _ _) ⟨rfl, ?_, ?_⟩
            · have h8 := HG.out
              exact below_setRow (HB3.out.trans (hb.mono (by have := HB3.out.size; omega))) (Nat.le_refl _) _
            · exact setRow_heap _ _ _ _ _ _ (HR3.out.keep hb)
          · intro a w5 hp hf hh
            refine hK a w5 ?_
            go_wp2_with fail
            refine bodyPost_ret (results_row_tmpF rfl _ w5 g _ _ _ _ (hf.base 2 rfl) hp.2 Tryz.underlying29 rfl sizeR) hf.defers ?_
            rw [show a.tmps.getD 3 undef = .int .i64 0 from hh 9 (by decide)]
            exact ⟨by rw [HP.out]; rfl, by rw [HG.out]; exact hp.1⟩
        · have HP := Box.mk (show lineR (splitS 32 s) = (none, (verZ v).2) by rw [← HW.out]; exact lineR_err H1.out H2.out h4)
          have hb4 : ((verZ v).2 != 0) = true := by rw [bne_iff_ne]; exact h4
          clear h4
          go_wp2_with fail
          refine (token_any m _ HZ.out).mono ?_
          rintro e w2 ⟨he, rfl⟩
          rw [H1.out] at he
          subst he
          go_wp2_with fail
          refine (projTarget_any t _).mono ?_
          rintro e w3 ⟨he, hb3⟩
          rw [H2.out] at he
          subst he
          have HB3 := Box.mk (below_trans HB1.out hb3)
          have HR3 := Box.mk (HR1.out.keep hb3)
          have hd2 := below_cell hb3 hc2
          clear hb3 hc0 hc1 hc2 HB1 HR1
          go_wp2_with fail
          refine (parseVersion_any v _).mono ?_
          rintro e w4 ⟨he, rfl⟩
          generalize (verZ v).1 = z at *
          generalize (verZ v).2 = er at *
          subst he
          go_wp2_with (refine wpList_store_row rfl 29 _ _ rfl w.heap.size #[.string ⟨#[]⟩, .string ⟨#[]⟩, .int .i64 0, .slice none 0 0, .bool false, .slice none 0 0] rfl rfl 29 _ HR3.out sizeR rfl (oneR _ _ _) ?_)
          (try simp only [Exit.inBlock, Exit.then])
          refine bodyPost_ret (results_row_tmpF rfl _ _ w.heap.size _ _ _ _ rfl (setRow_heap _ _ _ _ _ _ HR3.out) Tryz.underlying29 rfl sizeR) rfl ?_
          exact ⟨by rw [HP.out]; rfl, below_setRow HB3.out (Nat.le_refl _) _⟩
      · have H2 := Box.mk (show targetS t = false by simpa using h2)
        have HP := Box.mk (show lineR (splitS 32 s) = (none, 2) by rw [← HW.out]; exact lineR_bad (fun h => h2 h.2))
        clear h2
        go_wp2_with fail
        refine (token_any m _ HZ.out).mono ?_
        rintro e w2 ⟨he, rfl⟩
        rw [H1.out] at he
        subst he
        go_wp2_with fail
        refine (projTarget_any t _).mono ?_
        rintro e w3 ⟨he, hb3⟩
        rw [H2.out] at he
        subst he
        have HB3 := Box.mk (below_trans HB1.out hb3)
        have HR3 := Box.mk (HR1.out.keep hb3)
        clear hb3 hc0 hc1 hc2 HB1 HR1
        go_wp2_with (refine wpList_store_row rfl 29 _ _ rfl w.heap.size #[.string ⟨#[]⟩, .string ⟨#[]⟩, .int .i64 0, .slice none 0 0, .bool false, .slice none 0 0] rfl rfl 29 _ HR3.out sizeR rfl (oneR _ _ _) ?_)
        (try simp only [Exit.inBlock, Exit.then])
        refine bodyPost_ret (results_row_tmpF rfl _ _ w.heap.size _ _ _ _ rfl (setRow_heap _ _ _ _ _ _ HR3.out) Tryz.underlying29 rfl sizeR) rfl ?_
        exact ⟨by rw [HP.out]; rfl, below_setRow HB3.out (Nat.le_refl _) _⟩
    · have H1 := Box.mk (show tokS m = false by simpa using h1)
      have HP := Box.mk (show lineR (splitS 32 s) = (none, 2) by rw [← HW.out]; exact lineR_bad (fun h => h1 h.1))
      clear h1
      go_wp2_with fail
      refine (token_any m _ HZ.out).mono ?_
      rintro e w2 ⟨he, rfl⟩
      rw [H1.out] at he
      subst he
      go_wp2_with (refine wpList_store_row rfl 29 _ _ rfl w.heap.size #[.string ⟨#[]⟩, .string ⟨#[]⟩, .int .i64 0, .slice none 0 0, .bool false, .slice none 0 0] rfl rfl 29 _ HR1.out sizeR rfl (oneR _ _ _) ?_)
      (try simp only [Exit.inBlock, Exit.then])
      refine bodyPost_ret (results_row_tmpF rfl _ _ w.heap.size _ _ _ _ rfl (setRow_heap _ _ _ _ _ _ HR1.out) Tryz.underlying29 rfl sizeR) rfl ?_
      exact ⟨by rw [HP.out]; rfl, below_setRow HB1.out (Nat.le_refl _) _⟩
  · have HP := Box.mk (show lineR (splitS 32 s) = (none, 2) by rw [← HW.out]; exact lineR_no h3)
    have hb3 : (((ws.length : Nat) : Int) != 3) = true := by rw [bne_iff_ne]; omega
    clear h3 HC HSM
    go_wp2_with (refine wpList_store_row rfl 29 _ _ rfl w.heap.size #[.string ⟨#[]⟩, .string ⟨#[]⟩, .int .i64 0, .slice none 0 0, .bool false, .slice none 0 0] rfl rfl 29 _ HR1.out sizeR rfl (oneR _ _ _) ?_)
    (try simp only [Exit.inBlock, Exit.then])
    refine bodyPost_ret (results_row_tmpF rfl _ _ w.heap.size _ _ _ _ rfl (setRow_heap _ _ _ _ _ _ HR1.out) Tryz.underlying29 rfl sizeR) rfl ?_
    exact ⟨by rw [HP.out]; rfl, below_setRow HB1.out (Nat.le_refl _) _⟩
end Go.Proofs.YtejbkbccljoldaaGreatDoor
namespace Go.Proofs.YtejbkbccljoldaaGreatDoor
open Go.RowKit

theorem verZ_min {v : ByteArray} (h : 0 ≤ minorZ v) : verZ v = (minorZ v, 0) := by
  unfold minorZ at *
  unfold verZ
  by_cases h0 : v = v10
  · rw [if_pos h0, if_pos h0]
  · rw [if_neg h0] at h ⊢
    rw [if_neg h0]
    by_cases h1 : v = v11
    · rw [if_pos h1, if_pos h1]
    · rw [if_neg h1] at h; omega
theorem verZ_yes {v : ByteArray} (h : minorZ v < 0) (hv : verB v = true) : verZ v = (0, 6) := by
  unfold minorZ at h
  unfold verZ
  by_cases h0 : v = v10
  · rw [if_pos h0] at h; omega
  · rw [if_neg h0] at h ⊢
    by_cases h1 : v = v11
    · rw [if_pos h1] at h; omega
    · rw [if_neg h1, if_pos hv]
theorem verZ_no {v : ByteArray} (h : minorZ v < 0) (hv : verB v = false) : verZ v = (0, 2) := by
  unfold minorZ at h
  unfold verZ
  by_cases h0 : v = v10
  · rw [if_pos h0] at h; omega
  · rw [if_neg h0] at h ⊢
    by_cases h1 : v = v11
    · rw [if_pos h1] at h; omega
    · rw [if_neg h1, if_neg (by rw [hv]; decide)]
end Go.Proofs.YtejbkbccljoldaaGreatDoor
namespace Go.Proofs.YtejbkbccljoldaaGreatDoor
open Go.RowKit

theorem parse599 (s : ByteArray) : (parseS 10 599 s).2 = 0 ∧ (parseS 10 599 s).1 ≤ 599 ∨ ¬ (parseS 10 599 s).2 = 0 ∧ (parseS 10 599 s).1 = 0 := by
  unfold parseS
  split
  · rename_i h
    have hne : s.data.toList ≠ [] := by
      intro e
      unfold numS at h
      rw [e] at h; simp at h
    rw [pgo_eq 10 599 (by decide) _ 0 (by decide) (.inr hne)]
    split
    · exact .inl ⟨rfl, by assumption⟩
    · exact .inr ⟨by decide, rfl⟩
  · exact .inr ⟨by decide, rfl⟩
theorem stat_parse (s : ByteArray) : statB (parseS 10 599 s).1 = true ↔ (parseS 10 599 s).2 = 0 ∧ 100 ≤ (parseS 10 599 s).1 := by
  unfold statB
  simp only [Bool.and_eq_true, decide_eq_true_eq]
  rcases parse599 s with ⟨h1, h2⟩ | ⟨h1, h2⟩
  · exact ⟨fun h => ⟨h1, h.1⟩, fun h => ⟨h.2, h2⟩⟩
  · rw [h2]; exact ⟨fun h => absurd h.1 (by decide), fun h => absurd h.2 (by decide)⟩
theorem parse_blank {s : ByteArray} {k : Nat} (h : s.data.toList[k]? = some 32) : ¬ (parseS 10 599 s).2 = 0 := by
  unfold parseS
  rw [if_neg]
  · decide
  · intro h2
    unfold numS at h2
    rw [Bool.and_eq_true] at h2
    have := List.all_eq_true.1 h2.1 32 (List.mem_of_getElem? h)
    revert this; decide
theorem verZ_iff (v : ByteArray) : (verZ v).2 = 0 ↔ 0 ≤ minorZ v := by
  by_cases h : 0 ≤ minorZ v
  · exact ⟨fun _ => h, fun _ => by rw [verZ_min h]⟩
  · refine ⟨fun h2 => ?_, fun h2 => absurd h2 h⟩
    have hlt : minorZ v < 0 := by omega
    cases hv : verB v with
    | true => rw [verZ_yes hlt hv] at h2; exact absurd h2 (by decide)
    | false => rw [verZ_no hlt hv] at h2; exact absurd h2 (by decide)
theorem minorZ_is {v : ByteArray} (h : 0 ≤ minorZ v) : v = v10 ∨ v = v11 := by
  unfold minorZ at h
  by_cases h0 : v = v10
  · exact .inl h0
  · rw [if_neg h0] at h
    by_cases h1 : v = v11
    · exact .inr h1
    · rw [if_neg h1] at h; omega
theorem minorZ_size {v : ByteArray} (h : 0 ≤ minorZ v) : v.size = 8 := by
  rcases minorZ_is h with rfl | rfl <;> rfl
theorem minorZ_blank {v : ByteArray} (h : 0 ≤ minorZ v) (k : Nat) : v.data.toList[k]? ≠ some 32 := by
  have h10 : ∀ k : Nat, v10.data.toList[k]? ≠ some 32 := fun k e => by
    have := List.mem_of_getElem? e
    revert this; decide
  have h11 : ∀ k : Nat, v11.data.toList[k]? ≠ some 32 := fun k e => by
    have := List.mem_of_getElem? e
    revert this; decide
  rcases minorZ_is h with rfl | rfl
  · exact h10 k
  · exact h11 k

def parseA2 (s : ByteArray) : Option (Int × ByteArray × Int) :=
  if (verZ (cutS 32 s).1).2 = 0 ∧ statB (codeZ (cutS 32 (cutS 32 s).2).1) = true ∧ visS (cutS 32 (cutS 32 s).2).2 = true then
    some (codeZ (cutS 32 (cutS 32 s).2).1, (cutS 32 (cutS 32 s).2).2, (verZ (cutS 32 s).1).1) else none
theorem stat0 : statB 0 = false := rfl
theorem code_no {s : ByteArray} (h : ¬ s.size = 3) : codeZ s = 0 := by unfold codeZ; rw [if_neg h]
theorem parseA2_code {s : ByteArray} (h : ¬ (cutS 32 (cutS 32 s).2).1.size = 3) : parseA2 s = none := by
  unfold parseA2
  rw [if_neg (fun h2 => by have := h2.2.1; rw [code_no h, stat0] at this; cases this)]
theorem parseA2_ver {s : ByteArray} (h : ¬ 0 ≤ minorZ (cutS 32 s).1) : parseA2 s = none := by
  unfold parseA2
  rw [if_neg (fun h2 => h ((verZ_iff _).1 h2.1))]
theorem extract_at (s : ByteArray) (a b k : Nat) (h : k < b - a) : (s.extract a b).data.toList[k]? = s.data.toList[a + k]? := by
  rw [Lib.extract_data, List.getElem?_take_of_lt h, List.getElem?_drop]
theorem both_same {s : ByteArray} {d r : ByteArray} (h1 : (cutS 32 s).1 = s.extract 0 8) (h2 : (cutS 32 (cutS 32 s).2).1 = d) (h3 : (cutS 32 (cutS 32 s).2).2 = r) (hd : d = s.extract 9 12) (hz : d.size = 3) (hr : r = reasonS s)
    (g1 : 12 ≤ s.size) (g2 : s.data.toList[8]? = some 32) (g3 : 12 < s.size → s.data.toList[12]? = some 32) : parseA2 s = parseA s := by
  unfold parseA2 parseA
  rw [h1, h2, h3, hr]
  have hc : codeZ d = (parseS 10 599 (s.extract 9 12)).1 := by unfold codeZ; rw [if_pos hz, hd]
  rw [hc]
  by_cases c : 0 ≤ minorZ (s.extract 0 8)
  · have e1 : verZ (s.extract 0 8) = (minorZ (s.extract 0 8), 0) := verZ_min c
    rw [e1]
    by_cases c2 : statB (parseS 10 599 (s.extract 9 12)).1 = true
    · obtain ⟨c3, c4⟩ := (stat_parse _).1 c2
      by_cases c5 : visS (reasonS s) = true
      · rw [if_pos ⟨rfl, c2, c5⟩, if_pos ⟨g1, c, g2, g3, c3, c4, c5⟩]
      · rw [if_neg (fun h => c5 h.2.2), if_neg (fun h => c5 h.2.2.2.2.2.2)]
    · rw [if_neg (fun h => c2 h.2.1), if_neg (fun h => c2 ((stat_parse _).2 ⟨h.2.2.2.2.1, h.2.2.2.2.2.1⟩))]
  · rw [if_neg (fun h => c ((verZ_iff _).1 h.1)), if_neg (fun h => c h.2.1)]
theorem parseA_no {s : ByteArray} (h : 12 ≤ s.size → 0 ≤ minorZ (s.extract 0 8) → s.data.toList[8]? = some 32 → (12 < s.size → s.data.toList[12]? = some 32) → (parseS 10 599 (s.extract 9 12)).2 = 0 → False) : parseA s = none := by
  unfold parseA
  rw [if_neg (fun h2 => h h2.1 h2.2.1 h2.2.2.1 h2.2.2.2.1 h2.2.2.2.2.1)]
theorem sub_a (s : ByteArray) (h : 12 < s.size) : (s.extract 9 s.size).extract 0 3 = s.extract 9 12 := by
  apply ba_ext
  rw [Lib.extract_data, Lib.extract_data, Lib.extract_data, List.drop_zero, List.take_take, show min (3 - 0) (s.size - 9) = 12 - 9 by omega]
theorem sub_b (s : ByteArray) (h : 12 < s.size) : (s.extract 9 s.size).extract (3 + 1) (s.extract 9 s.size).size = s.extract 13 s.size := by
  have hz : (s.extract 9 s.size).size = s.size - 9 := by rw [ByteArray.size_extract]; omega
  rw [hz]
  apply ba_ext
  rw [Lib.extract_data, Lib.extract_data, Lib.extract_data, List.drop_take, List.drop_drop, List.take_take, show min (s.size - 9 - (3 + 1)) (s.size - 9 - (3 + 1)) = s.size - 13 by omega]
set_option maxHeartbeats 1000000 in
theorem parseA2_eq (s : ByteArray) : parseA2 s = parseA s := by
  rcases idxI_cases 32 s with h | ⟨k, h, hk⟩
  · have hn := Lib.indexByte_none h
    rw [parseA2_code (by rw [cutS_no h]; show ¬ (cutS 32 ⟨#[]⟩).1.size = 3; decide), parseA_no (fun _ _ h2 => absurd h2 (hn 8))]
  · have hs := Lib.indexByte_some h
    by_cases h8 : k = 8
    · subst h8
      have h1 : (cutS 32 s).1 = s.extract 0 8 := by rw [cutS_at h]
      have h2 : (cutS 32 s).2 = s.extract 9 s.size := by rw [cutS_at h]
      have hz : (s.extract 9 s.size).size = s.size - 9 := by rw [ByteArray.size_extract]; omega
      rcases idxI_cases 32 (s.extract 9 s.size) with ht | ⟨j, ht, hj⟩
      · have hn := Lib.indexByte_none ht
        by_cases hz3 : (s.extract 9 s.size).size = 3
        · have h12 : s.size = 12 := by omega
          refine both_same h1 (by rw [h2, cutS_no ht]) (by rw [h2, cutS_no ht]) ?_ hz3 ?_ (by omega) hs.1 (fun h3 => by omega)
          · rw [h12]
          · unfold reasonS; rw [if_neg (by omega)]
        · rw [parseA2_code (by rw [h2, cutS_no ht]; exact hz3)]
          refine (parseA_no fun h3 h4 h5 h6 h7 => ?_).symm
          have h12 : 12 < s.size := by omega
          refine hn 3 ?_
          rw [extract_at _ _ _ _ (by omega)]; exact h6 h12
      · have hjs := Lib.indexByte_some ht
        have hq1 : (cutS 32 (cutS 32 s).2).1 = (s.extract 9 s.size).extract 0 j := by rw [h2, cutS_at ht]
        have hq2 : (cutS 32 (cutS 32 s).2).2 = (s.extract 9 s.size).extract (j + 1) (s.extract 9 s.size).size := by rw [h2, cutS_at ht]
        have hjz : ((s.extract 9 s.size).extract 0 j).size = j := by rw [ByteArray.size_extract]; omega
        by_cases hj3 : j = 3
        · subst hj3
          have h13 : 12 < s.size := by omega
          refine both_same h1 hq1 hq2 ?_ hjz ?_ (by omega) hs.1 (fun _ => ?_)
          · exact sub_a s h13
          · unfold reasonS
            rw [if_pos h13]
            exact sub_b s h13
          · have := hjs.1
            rw [extract_at _ _ _ _ (by omega)] at this; exact this
        · rw [parseA2_code (by rw [hq1, hjz]; exact hj3)]
          refine (parseA_no fun h3 h4 h5 h6 h7 => ?_).symm
          rcases Nat.lt_or_ge j 3 with hlt | hge
          · refine parse_blank (k := j) ?_ h7
            have := hjs.1
            rw [extract_at _ _ _ _ (by omega)] at this ⊢; exact this
          · have h12 : 12 < s.size := by omega
            refine hjs.2 3 (by omega) ?_
            rw [extract_at _ _ _ _ (by omega)]; exact h6 h12
    · have h1 : (cutS 32 s).1 = s.extract 0 k := by rw [cutS_at h]
      rw [parseA2_ver (by rw [h1]; intro h2; have := minorZ_size h2; rw [ByteArray.size_extract] at this; omega)]
      refine (parseA_no fun h3 h4 h5 h6 h7 => ?_).symm
      rcases Nat.lt_or_ge k 8 with hlt | hge
      · refine minorZ_blank h4 k ?_
        rw [extract_at _ _ _ _ (by omega), Nat.zero_add]; exact hs.1
      · exact hs.2 8 (by omega) h5

set_option maxRecDepth 100000 in
set_option maxHeartbeats 2000000 in
theorem projParseRep_any (s : ByteArray) (w : World) (hs : s.size ≤ maxLen) :
    Calls Tryz.prog 136 #[.string s] w fun e w' => e = .returned (replyV (parseA s)) ∧ Below w.heap.size w w' := by
  rw [← parseA2_eq]
  have HB := Box.mk (below_oneF w (.cells #[.int .i64 0, .string ⟨#[]⟩, .int .i64 0, .slice none 0 0, .slice none 0 0] 31))
  have HR := Box.mk (show AVar (w.alloc (.cells #[.int .i64 0, .string ⟨#[]⟩, .int .i64 0, .slice none 0 0, .slice none 0 0] 31)) w.heap.size 0 ⟨#[]⟩ 0 from heap_alloc_new _ _)
  have HZ2 := Box.mk (cutS_size2 32 s)
  have HZ3 := Box.mk (cutS_size1 32 (cutS 32 s).2)
  have HP0 := Box.mk (show parseA2 s = if (verZ (cutS 32 s).1).2 = 0 ∧ statB (codeZ (cutS 32 (cutS 32 s).2).1) = true ∧ visS (cutS 32 (cutS 32 s).2).2 = true then
    some (codeZ (cutS 32 (cutS 32 s).2).1, (cutS 32 (cutS 32 s).2).2, (verZ (cutS 32 s).1).1) else none from rfl)
  have H0 := Box.mk hs
  clear hs
  go_enter Tryz.func136, Tryz.ntmps136
  go_wp2_with fail
  refine (cutC_any 32 s _ H0.out).mono ?_
  rintro e w1 ⟨b1, rfl, hb1⟩
  have HB1 := Box.mk (below_trans HB.out hb1)
  have HR1 := Box.mk (HR.out.keep hb1)
  clear hb1 HB HR
  generalize (cutS 32 s).1 = v at *
  generalize (cutS 32 s).2 = t at *
  go_wp2_with fail
  refine (cutC_any 32 t _ (Nat.le_trans HZ2.out H0.out)).mono ?_
  rintro e w2 ⟨b2, rfl, hb2⟩
  have HB2 := Box.mk (below_trans HB1.out hb2)
  have HR2 := Box.mk (HR1.out.keep hb2)
  clear hb2 HB1 HR1
  generalize (cutS 32 t).1 = d at *
  generalize (cutS 32 t).2 = r at *
  go_wp2_with fail
  refine (parseVersion_any v _).mono ?_
  rintro e w3 ⟨rfl, rfl⟩
  generalize verZ v = q at *
  obtain ⟨q1, q2⟩ := q
  go_wp2_with fail
  refine (parseCode_any d _ (Nat.le_trans HZ3.out (Nat.le_trans HZ2.out H0.out))).mono ?_
  rintro e w3 ⟨rfl, rfl⟩
  generalize codeZ d = c at *
  by_cases c0 : q2 = 0
  · by_cases c1 : statB c = true
    · by_cases c2 : visS r = true
      · have HP := Box.mk (show parseA2 s = some (c, r, q1) by rw [HP0.out, if_pos ⟨c0, c1, c2⟩])
        subst c0
        have C1 := Box.mk c1
        have C2 := Box.mk c2
        clear c1 c2 HP0
        go_wp2_with fail
        refine (isStatus_any c _).mono ?_
        rintro e w4 ⟨he, rfl⟩
        rw [C1.out] at he
        subst he
        go_wp2_with fail
        refine (isReason_any r _).mono ?_
        rintro e w4 ⟨he, hb4⟩
        rw [C2.out] at he
        subst he
        have HB4 := Box.mk (below_trans HB2.out hb4)
        have HR4 := Box.mk (HR2.out.keep hb4)
        clear hb4 HB2 HR2
        go_wp2_with (refine wpList_store_row rfl 31 _ _ rfl w.heap.size #[.int .i64 c, .string r, .int .i64 q1, .slice none 0 0, .slice none 0 0] rfl rfl 31 _ HR4.out sizeA rfl (oneA _ _ _) ?_)
        (try simp only [Exit.inBlock, Exit.then])
        refine bodyPost_ret (results_row_tmpF rfl _ _ w.heap.size _ _ _ _ rfl (setRow_heap _ _ _ _ _ _ HR4.out) Tryz.underlying31 rfl sizeA) rfl ?_
        exact ⟨by rw [HP.out]; rfl, below_setRow HB4.out (Nat.le_refl _) _⟩
      · have HP := Box.mk (show parseA2 s = none by rw [HP0.out, if_neg (fun h => c2 h.2.2)])
        subst c0
        have C1 := Box.mk c1
        have C2 := Box.mk (show visS r = false by simpa using c2)
        clear c1 c2 HP0
        go_wp2_with fail
        refine (isStatus_any c _).mono ?_
        rintro e w4 ⟨he, rfl⟩
        rw [C1.out] at he
        subst he
        go_wp2_with fail
        refine (isReason_any r _).mono ?_
        rintro e w4 ⟨he, hb4⟩
        rw [C2.out] at he
        subst he
        have HB4 := Box.mk (below_trans HB2.out hb4)
        have HR4 := Box.mk (HR2.out.keep hb4)
        clear hb4 HB2 HR2
        go_wp2_with (refine wpList_store_row rfl 31 _ _ rfl w.heap.size #[.int .i64 0, .string ⟨#[]⟩, .int .i64 0, .slice none 0 0, .slice none 0 0] rfl rfl 31 _ HR4.out sizeA rfl (oneA _ _ _) ?_)
        (try simp only [Exit.inBlock, Exit.then])
        refine bodyPost_ret (results_row_tmpF rfl _ _ w.heap.size _ _ _ _ rfl (setRow_heap _ _ _ _ _ _ HR4.out) Tryz.underlying31 rfl sizeA) rfl ?_
        exact ⟨by rw [HP.out]; rfl, below_setRow HB4.out (Nat.le_refl _) _⟩
    · have HP := Box.mk (show parseA2 s = none by rw [HP0.out, if_neg (fun h => c1 h.2.1)])
      subst c0
      have C1 := Box.mk (show statB c = false by simpa using c1)
      clear c1 HP0
      go_wp2_with fail
      refine (isStatus_any c _).mono ?_
      rintro e w4 ⟨he, rfl⟩
      rw [C1.out] at he
      subst he
      go_wp2_with (refine wpList_store_row rfl 31 _ _ rfl w.heap.size #[.int .i64 0, .string ⟨#[]⟩, .int .i64 0, .slice none 0 0, .slice none 0 0] rfl rfl 31 _ HR2.out sizeA rfl (oneA _ _ _) ?_)
      (try simp only [Exit.inBlock, Exit.then])
      refine bodyPost_ret (results_row_tmpF rfl _ _ w.heap.size _ _ _ _ rfl (setRow_heap _ _ _ _ _ _ HR2.out) Tryz.underlying31 rfl sizeA) rfl ?_
      exact ⟨by rw [HP.out]; rfl, below_setRow HB2.out (Nat.le_refl _) _⟩
  · have HP := Box.mk (show parseA2 s = none by rw [HP0.out, if_neg (fun h => c0 h.1)])
    have e0 : (q2 != 0) = true := by rw [bne_iff_ne]; exact c0
    clear c0 HP0
    go_wp2_with (refine wpList_store_row rfl 31 _ _ rfl w.heap.size #[.int .i64 0, .string ⟨#[]⟩, .int .i64 0, .slice none 0 0, .slice none 0 0] rfl rfl 31 _ HR2.out sizeA rfl (oneA _ _ _) ?_)
    (try simp only [Exit.inBlock, Exit.then])
    refine bodyPost_ret (results_row_tmpF rfl _ _ w.heap.size _ _ _ _ rfl (setRow_heap _ _ _ _ _ _ HR2.out) Tryz.underlying31 rfl sizeA) rfl ?_
    exact ⟨by rw [HP.out]; rfl, below_setRow HB2.out (Nat.le_refl _) _⟩
end Go.Proofs.YtejbkbccljoldaaGreatDoor
namespace Go.Proofs.YtejbkbccljoldaaGreatDoor
open Go.RowKit

theorem versionS_dec {z : Int} (h0 : 0 ≤ z) (h1 : z ≤ 1) : ⟨#[32]⟩ ++ versionS z = http1 ++ fmtS 10 z ∧ versionS z = http0 ++ fmtS 10 z := by
  have : z = 0 ∨ z = 1 := by omega
  rcases this with rfl | rfl
  · decide +kernel
  · decide +kernel
end Go.Proofs.YtejbkbccljoldaaGreatDoor
namespace Go.Proofs.YtejbkbccljoldaaGreatDoor
open Go.RowKit

def crlf2 : List UInt8 := [13, 10, 13, 10]
/-- The place behind the first CR, LF, CR, LF of l, which begins at i; -1: there is none. -/
def endGo : Nat → List UInt8 → Int
  | _, [] => -1
  | i, x :: r => if (x :: r).take 4 = crlf2 then ((i + 4 : Nat) : Int) else endGo (i + 1) r
def endZ (l : List UInt8) : Int := endGo 0 l
theorem endGo_range : ∀ (l : List UInt8) (i : Nat), endGo i l = -1 ∨ ∃ k : Nat, endGo i l = k ∧ i + 4 ≤ k ∧ k ≤ i + l.length
  | [], _ => .inl rfl
  | x :: r, i => by
    unfold endGo
    by_cases h : (x :: r).take 4 = crlf2
    · rw [if_pos h]
      have h2 := congrArg List.length h
      rw [List.length_take] at h2
      simp only [crlf2, List.length_cons, List.length_nil] at h2
      exact .inr ⟨i + 4, rfl, Nat.le_refl _, by rw [List.length_cons]; omega⟩
    · rw [if_neg h]
      rcases endGo_range r (i + 1) with h | ⟨k, h1, h2, h3⟩
      · exact .inl h
      · exact .inr ⟨k, h1, by omega, by rw [List.length_cons]; omega⟩
/-- What End returns. -/
def endS (b : List UInt8) (most : Int) : Int × Int :=
  if 0 ≤ endZ b ∧ endZ b ≤ most then (endZ b, 0) else if most ≤ b.length then (0, 3) else (0, 4)
/-- The lines of l behind the bytes cur of a line; none where CR or LF stand alone. -/
def linesGo : List UInt8 → List UInt8 → Option (List ByteArray)
  | _, [] => some []
  | cur, x :: r =>
    if (x = 13 ∧ ¬ r.head? = some 10) ∨ (x = 10 ∧ ¬ cur.getLast? = some 13) then none
    else if x = 10 then (linesGo [] r).map (⟨cur.dropLast.toArray⟩ :: ·) else linesGo (cur ++ [x]) r
def linesS (b : List UInt8) : Option (List ByteArray) := if endZ b = b.length ∧ 4 ≤ b.length then (linesGo [] b).map List.dropLast else none
/-- The fields of lines; 3: too many, 2: a line is none of a field. -/
def fieldsGo : List ByteArray → Option (List Fld)
  | [] => some []
  | s :: r => match parseF s with
    | some f => (fieldsGo r).map (f :: ·)
    | none => none
def fieldsS (l : List ByteArray) : Int × List Fld := if 64 < l.length then (3, []) else match fieldsGo l with | some x => (0, x) | none => (2, [])
theorem fieldsGo_snoc : ∀ (l : List ByteArray) (s : ByteArray) (x : List Fld), fieldsGo l = some x → fieldsGo (l ++ [s]) = (parseF s).map fun f => x ++ [f]
  | [], s, x, h => by
    cases h
    show (match parseF s with | some f => (fieldsGo []).map (f :: ·) | none => none) = _
    cases parseF s <;> rfl
  | t :: l, s, x, h => by
    rw [List.cons_append]
    unfold fieldsGo at h ⊢
    cases ht : parseF t with
    | none => rw [ht] at h; cases h
    | some f =>
      rw [ht] at h
      simp only at h ⊢
      cases hx : fieldsGo l with
      | none => rw [hx] at h; cases h
      | some y =>
        rw [hx] at h
        simp only [Option.map_some, Option.some.injEq] at h
        subst h
        rw [fieldsGo_snoc l s y hx]
        cases parseF s <;> rfl
theorem fieldsGo_none : ∀ (l r : List ByteArray), fieldsGo l = none → fieldsGo (l ++ r) = none
  | [], _, h => by cases h
  | t :: l, r, h => by
    rw [List.cons_append]
    unfold fieldsGo at h ⊢
    cases ht : parseF t with
    | none => rfl
    | some f =>
      rw [ht] at h
      simp only at h ⊢
      cases hx : fieldsGo l with
      | none => rw [fieldsGo_none l r hx]; rfl
      | some y => rw [hx] at h; cases h
end Go.Proofs.YtejbkbccljoldaaGreatDoor
