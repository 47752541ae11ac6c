/- Contracts of the small functions of package ascii and of its reference: one byte, and loops over the bytes of a string. Contracts of Lower and Fold, of package ascii and of its reference. Plain facts on lists of bytes: trimming from both ends. Slices of strings in memory: one that is read, one that the call appends to, one that is kept beside it. The numbers that the shelf's contracts of Go's library (package strings, package strconv) have in this seat's translation: nothing is claimed here by itself. Contracts of Fold, Value, Trim, of package ascii and of its reference. Plain facts on lists of bytes: cutting at a byte, and the elements of comma-separated lists. Contracts of Same, Split and List, of package ascii and of its reference. Opening arguments: a byte, a slice of bytes. Opening an argument that is a slice of strings. Slices of bytes in memory: one that the call appends to; slices of numbers that are read. A region that draws its order, whose operations all leave the world in a class, but for the last one, which waits for all of them. A region that draws its order, by what each operation leaves: one fact an operation, whatever the order. Appending a slice of bytes that came in to a slice of the call's own; the law HashWrite at open arguments; what the bound on the arguments gives. More of a region's single operations: comparisons, lengths, slices of slices that are built. A region that draws its order and stores once, by what each operation leaves. SHA-256 in plain words, over words of 32 bits; how the arithmetic of the translated code is spelt at them. Fields: Valid of package field and of its reference; a field's line. A set of names in a map: setOf, and whether a field's name is in it. Slices of fields in memory: read, appended to, opened among the arguments. Values, Has and Without, in the reference. Values, Without and Has of package field. Has of package field (a closure), Elements, SameFields. With: appends of whole slices of fields, slices.Grow and slices.Concat. Text, by the library's Builder and in the reference. -/
import Derived.Test.YtcdianojchmgpaaDoorRows
import Derived.WalkKit
import Derived.WalkSpells
import Derived.WalkLawsBesides
import Derived.BigQuiet
import Derived.Deep.QuietTactic
import Derived.Lib.Bytealg
import Derived.Lib.IndexLaws
import Derived.Lib.Hide
import Derived.Laws.IdiomStrings
import Derived.Lib.SlTrimSet
import Derived.Lib.IndexBytes
import Derived.Lib.Split
import Derived.Deep.AppendLies
import Derived.Shelf.Strings.SlTrimAscii
import Derived.Shelf.Strings.SplitShaped
import Derived.Shelf.LaysM
import Derived.Shelf.Strings.BuilderK
import Derived.Shelf.Strconv.Itoa4
import Derived.Shelf.Strings.Prefix
import Derived.Shelf.Bytes.SlIndexWhole
import Derived.Test.YtcdianojchmgpaaDoorProg
import Derived.Lib.SplitLaws
import Derived.WalkSmall
import Derived.ProofKit
import Derived.OpenShut
import Derived.Lib.Strings
import Derived.SliceStrings
import Derived.Deep.Quiet
import Derived.Tactics
import Derived.KernelRfl
import Derived.Below
import Derived.Laws.Bits64
import Derived.Lib.SlBytesConst
import Derived.Maps.AppendAt
import Derived.Laws.AppendOwnNone
import Derived.Great.BuildSlice
import Derived.Laws.Rows
import Derived.Laws.BitsAllLaws
import Derived.Laws.Shifts
import Derived.Maps.OwnOps
import Derived.Maps.OwnSet
import Derived.Deep.SlicePairs
import Derived.Lib.AppendZerosOnto
namespace Go.Proofs.YtcdianojchmgpaaDoor
open Go.RowKit

theorem ret_bool {a b : Bool} (h : a = b) : Ending.returned (.bool a) = .returned (.bool b) := by rw [h]
theorem ret_int {k : IntKind} {a b : Int} (h : a = b) : Ending.returned (.int k a) = .returned (.int k b) := by rw [h]
theorem ret_str {a b : ByteArray} (h : a = b) : Ending.returned (.string a) = .returned (.string b) := by rw [h]

def upB (c : Int) : Bool := decide (65 ≤ c) && decide (c ≤ 90)
def digB (c : Int) : Bool := decide (48 ≤ c) && decide (c ≤ 57)
def loB (c : Int) : Bool := decide (97 ≤ c) && decide (c ≤ 122)
def marks : ByteArray := ⟨#[33, 35, 36, 37, 38, 39, 42, 43, 45, 46, 94, 95, 96, 124, 126]⟩
def hasS (s : ByteArray) (c : UInt8) : Bool := s.data.toList.contains c
def tokB (c : UInt8) : Bool := upB c.toNat || loB c.toNat || digB c.toNat || hasS marks c
def tokS (s : ByteArray) : Bool := s.data.toList.all tokB && !s.data.toList.isEmpty

theorem take_snoc (s : ByteArray) (k : Nat) (h : k < s.size) : s.data.toList.take (k + 1) = s.data.toList.take k ++ [s[k]] := by
  rw [List.take_succ_eq_append_getElem (by simpa using h)]; rfl
theorem take_all (s : ByteArray) (k : Nat) (h : k ≤ s.size) (h2 : ¬ k < s.size) : s.data.toList.take k = s.data.toList := by
  rw [List.take_of_length_le]; simp; omega
theorem mem_at (s : ByteArray) (k : Nat) (h : k < s.size) : s[k] ∈ s.data.toList := by
  show s.data[k] ∈ s.data.toList
  simp

theorem toList_isEmpty (s : ByteArray) : s.toList.isEmpty = s.data.isEmpty := by
  rw [ByteArray.toList_eq s]; simp

set_option maxHeartbeats 400000 in
theorem isUpper_any (c : Int) (w : World) (h0 : 0 ≤ c) (h1 : c ≤ 255) :
    Calls Tryd.prog 54 #[.int .u8 c] w fun e w' => e = .returned (.bool (upB c)) ∧ w = w' := by
  go_enter Tryd.func54, Tryd.ntmps54
  go_wp2
  all_goals go_ret
  all_goals exact ⟨ret_bool (by unfold upB; rw [Bool.eq_iff_iff]; simp; omega), rfl⟩

set_option maxRecDepth 100000 in
set_option maxHeartbeats 400000 in
theorem indexByteLite_any (s : ByteArray) (c : UInt8) (w : World) :
    Calls Tryd.prog 67 #[.string s, .int .u8 c.toNat] w fun e w' => e = .returned (.int .i64 (Lib.indexByte s.data.toList c)) ∧ w = w' := by
  go_enter Tryd.func67, Tryd.ntmps67
  go_wp2
  rw [run_callFunc_extern Tryd.func79 (by kernel_rfl) (by kernel_rfl) (by kernel_rfl) (e := Extern.BytealgIndexByte.indexByte) (by kernel_rfl), Lib.run_indexByteString]
  simp only [Result.andThen]
  rw [Oper.upon_value]
  go_wp2
  go_ret
  exact ⟨ret_int (by simp), rfl⟩

set_option maxHeartbeats 400000 in
theorem indexByte_any (s : ByteArray) (c : UInt8) (w : World) :
    Calls Tryd.prog 55 #[.string s, .int .u8 c.toNat] w fun e w' => e = .returned (.int .i64 (Lib.indexByte s.data.toList c)) ∧ w = w' := by
  go_enter Tryd.func55, Tryd.ntmps55
  go_wp2_with (go_at_call 67; refine (indexByteLite_any _ _ _).mono ?_; rintro e w' ⟨rfl, rfl⟩)
  go_ret
  exact ⟨rfl, rfl⟩

theorem indexByte_has (s : ByteArray) (c : UInt8) : decide (0 ≤ Lib.indexByte s.data.toList c) = hasS s c := by
  have hge := Lib.indexByte_ge s.data.toList c
  unfold hasS
  by_cases h : Lib.indexByte s.data.toList c = -1
  · have := Lib.indexByte_none h
    rw [h, Bool.eq_iff_iff]
    simp only [Int.reduceNeg, decide_eq_true_eq, List.contains_iff_mem]
    constructor
    · intro h; omega
    · intro hm; obtain ⟨k, hk⟩ := List.mem_iff_getElem?.1 hm; exact absurd hk (this k)
  · obtain ⟨o, ho⟩ : ∃ o : Nat, Lib.indexByte s.data.toList c = o := ⟨(Lib.indexByte s.data.toList c).toNat, by omega⟩
    have := (Lib.indexByte_some ho).1
    rw [ho, Bool.eq_iff_iff]
    simp only [decide_eq_true_eq, List.contains_iff_mem]
    exact ⟨fun _ => List.mem_of_getElem? this, fun _ => by omega⟩

set_option maxHeartbeats 400000 in
theorem isTokenByte_any (c : UInt8) (w : World) :
    Calls Tryd.prog 36 #[.int .u8 c.toNat] w fun e w' => e = .returned (.bool (tokB c)) ∧ w = w' := by
  have hi := indexByte_has marks c
  have HI := Lib.hid hi
  clear hi
  have b1 : (c.toNat : Int) ≤ 255 := by have := c.toNat_lt; omega
  go_enter Tryd.func36, Tryd.ntmps36
  go_wp2_with (first | (go_at_call 55; refine (indexByte_any marks _ _).mono ?_; rintro e w' ⟨rfl, rfl⟩) | (go_at_call 54; go_in))
  all_goals go_ret
  all_goals exact ⟨ret_bool (by
    unfold tokB
    rw [← HI.out]
    generalize Lib.indexByte marks.data.toList c = n
    rw [Bool.eq_iff_iff]
    simp [upB, loB, digB]
    omega), rfl⟩

theorem tokS_no {s : ByteArray} {k : Nat} (hlt : k < s.size) (hc : tokB s[k] = false) : false = tokS s := by
  unfold tokS
  have : s.data.toList.all tokB = false := by
    rw [Bool.eq_false_iff]; intro h
    have := List.all_eq_true.1 h _ (mem_at s k hlt); rw [hc] at this; cases this
  rw [this]; rfl

set_option maxHeartbeats 400000 in
theorem token_any (s : ByteArray) (w : World) (hs : s.size ≤ maxLen) :
    Calls Tryd.prog 22 #[.string s] w fun e w' => e = .returned (.bool (tokS s)) ∧ w = w' := by
  unfold maxLen at hs
  go_enter Tryd.func22, Tryd.ntmps22
  go_wp2
  go_loop [6] (fun i => ∃ k : Nat, k ≤ s.size ∧ i = .int .i64 k ∧ Hid ((s.data.toList.take k).all tokB = true)) (fun i => s.size - (intOf i).toNat)
  case atStart => exact ⟨0, Nat.zero_le _, rfl, Lib.hid (by simp)⟩
  case round =>
    obtain ⟨k, hk, rfl, HP⟩ := hrel
    by_cases hlt : k < s.size
    · by_cases hc : tokB s[k] = true
      · go_wp2_with (go_at_call 36; refine (isTokenByte_any _ _).mono ?_; rintro e w' ⟨rfl, rfl⟩)
        go_round
        case rel => exact ⟨k + 1, by omega, by go_num, Lib.hid (by rw [take_snoc s k hlt, List.all_append, HP.out]; simpa using hc)⟩
        case measure => simp [intOf]; omega
      · have hc' : tokB s[k] = false := by simpa using hc
        clear hc
        go_wp2_with (go_at_call 36; refine (isTokenByte_any _ _).mono ?_; rintro e w' ⟨rfl, rfl⟩)
        go_ret
        exact ⟨ret_bool (tokS_no hlt hc'), rfl⟩
    · go_wp2
      go_ret
      exact ⟨ret_bool (by have := HP.out; rw [take_all s k hk hlt] at this; unfold tokS; rw [this]; simp [toList_isEmpty]), rfl⟩

end Go.Proofs.YtcdianojchmgpaaDoor
namespace Go.Proofs.YtcdianojchmgpaaDoor
open Go.RowKit

def lowB (c : UInt8) : UInt8 := if upB c.toNat then c + 32 else c
def lowS (s : ByteArray) : ByteArray := ⟨(s.data.toList.map lowB).toArray⟩
def foldS (a b : ByteArray) : Bool := (lowS a).toList == (lowS b).toList

/-- From block B on, a row of bytes l that may be written. -/
def BytesAt (w : World) (B : Nat) (l : List UInt8) : Prop :=
  ∀ j (hj : j < l.length), w.cell? ⟨B, j, none⟩ = some (.int .u8 (l[j].toNat : Int)) ∧ w.frozen? ⟨B, j, none⟩ = false

theorem BytesAt.set {w : World} {B : Nat} {l : List UInt8} (h : BytesAt w B l) {k : Nat} (hk : k < l.length) (c : UInt8) :
    BytesAt (w.setCell ⟨B, k, none⟩ (.int .u8 (c.toNat : Int))) B (l.set k c) := by
  intro j hj
  have hj' : j < l.length := by simpa using hj
  obtain ⟨h1, h2⟩ := h j hj'
  obtain ⟨k1, _⟩ := h k hk
  constructor
  · by_cases e : k = j
    · subst e
      rw [World.cell?_setCell_same _ _ _ k1]; simp
    · rw [World.cell?_setCell_other _ _ _ _ (by intro hh; apply e; cases hh; rfl)]
      rw [h1, List.getElem_set_ne e]
  · rw [← h2]; exact World.frozen?_setCell ..

theorem bytesAt_new (w : World) (s : ByteArray) (cap : Nat) :
    BytesAt (w.alloc (.cells (bytesRow s cap) 5 ((bytesRow s cap).size, (bytesRow s cap).size + 1))).drew w.heap.size s.data.toList := by
  intro j hj
  have hj' : j < s.data.size := by simpa using hj
  constructor
  · show (w.alloc _).cell? _ = _
    rw [World.cell?_alloc_mark, bytesRow_at s _ j hj']; simp
  · show (w.alloc _).frozen? _ = _
    rw [World.frozen?_alloc_mark]
    have : j < (bytesRow s cap).size := by
      have h := bytesRow_at s cap j hj'
      exact (Array.getElem?_eq_some_iff.1 h).1
    simp; omega

/-- The row after k rounds: the first k bytes lowered. -/
def lowRow (s : ByteArray) (k : Nat) : List UInt8 := (s.data.toList.take k).map lowB ++ s.data.toList.drop k
theorem lowRow_length (s : ByteArray) (k : Nat) : (lowRow s k).length = s.size := by
  unfold lowRow
  have : s.data.toList.length = s.size := by simp
  rw [List.length_append, List.length_map, List.length_take, List.length_drop]; omega
theorem lowRow_at (s : ByteArray) (k : Nat) (h : k < s.size) : (lowRow s k)[k]'(by rw [lowRow_length]; exact h) = s[k] := by
  unfold lowRow
  have hl : ((s.data.toList.take k).map lowB).length = k := by simp; omega
  rw [List.getElem_append_right (by omega), List.getElem_drop]
  have e : k + (k - ((s.data.toList.take k).map lowB).length) = k := by omega
  simp only [e]
  show s.data.toList[k] = s.data[k]
  simp
theorem lowRow_set (s : ByteArray) (k : Nat) (h : k < s.size) : lowRow s (k + 1) = (lowRow s k).set k (lowB s[k]) := by
  unfold lowRow
  have hl : ((s.data.toList.take k).map lowB).length = k := by simp; omega
  have hd : s.data.toList.drop k = s[k] :: s.data.toList.drop (k + 1) := by
    rw [List.drop_eq_getElem_cons (by simpa using h)]; rfl
  rw [hd, List.set_append_right _ _ (by omega), hl, Nat.sub_self, List.set_cons_zero, take_snoc s k h]
  simp
theorem lowRow_same (s : ByteArray) (k : Nat) (h : k < s.size) (hb : upB s[k].toNat = false) : lowRow s (k + 1) = lowRow s k := by
  rw [lowRow_set s k h]
  have : lowB s[k] = (lowRow s k)[k]'(by rw [lowRow_length]; exact h) := by rw [lowRow_at s k h]; unfold lowB; rw [hb]; rfl
  rw [this, List.set_getElem_self]
theorem lowRow_zero (s : ByteArray) : lowRow s 0 = s.data.toList := by simp [lowRow]
theorem lowRow_all (s : ByteArray) (k : Nat) (h : k ≤ s.size) (h2 : ¬ k < s.size) : lowRow s k = (s.data.toList.map lowB) := by
  have e : k = s.size := by omega
  unfold lowRow
  rw [take_all s k h h2, List.drop_of_length_le (by simp; omega)]; simp
theorem lowB_val (c : UInt8) (h : upB c.toNat = true) : ((lowB c).toNat : Int) = (c.toNat : Int) - 65 + 97 := by
  unfold lowB; rw [if_pos h]
  unfold upB at h; simp at h
  rw [UInt8.toNat_add]
  have : (32 : UInt8).toNat = 32 := rfl
  omega
set_option maxHeartbeats 400000 in
theorem lower_any (s : ByteArray) (w : World) (hs : s.size ≤ maxLen) :
    Calls Tryd.prog 51 #[.string s] w fun e w' => e = .returned (.string (lowS s)) ∧ Below w.heap.size w w' := by
  unfold maxLen at hs
  have hcv := fun (w : World) (s : ByteArray) => run_bytes_of_string (P := Tryd.prog) w 9 26 5 s Tryd.underlying9 Tryd.underlying26 Tryd.underlying5
  go_enter Tryd.func51, Tryd.ntmps51
  go_wp2
  generalize grownCap w s.size 0 5 = cap
  have hn := Lib.hid (bytesAt_new w s cap)
  go_loopw [10] (fun i wr => ∃ k : Nat, k ≤ s.size ∧ i = .int .i64 k ∧ Hid (BytesAt wr w.heap.size (lowRow s k)) ∧ Below w.heap.size w wr) (fun i _ => s.size - (intOf i).toNat)
  case atStart => exact ⟨0, Nat.zero_le _, rfl, Lib.hid (by rw [lowRow_zero]; exact hn.out), ((Below.refl _ w).alloc (Nat.le_refl _) _).drew⟩
  case round =>
    obtain ⟨k, hk, rfl, HB, hbel⟩ := hrel
    by_cases hlt : k < s.size
    · obtain ⟨c1, c2⟩ := HB.out k (by rw [lowRow_length]; exact hlt)
      rw [lowRow_at s k hlt] at c1
      have b1 : (s[k].toNat : Int) ≤ 255 := by have := s[k].toNat_lt; omega
      by_cases hu : upB s[k].toNat = true
      · have hl := Lib.hid (lowB_val s[k] hu)
        have b2 : 65 ≤ (s[k].toNat : Int) ∧ (s[k].toNat : Int) ≤ 90 := by unfold upB at hu; simpa using hu
        obtain ⟨b3, b4⟩ := b2
        go_wp2_with (go_at_call 54; refine (isUpper_any _ _ (by omega) (by omega)).mono ?_; rintro e w' ⟨rfl, rfl⟩)
        go_roundw
        case rel => exact ⟨k + 1, by omega, by go_num, Lib.hid (by rw [lowRow_set s k hlt]; have := HB.out.set (by rw [lowRow_length]; exact hlt) (lowB s[k]); rw [hl.out] at this; exact this), hbel.setCell (by simp) _⟩
        case measure => simp [intOf]; omega
      · have hu' : upB s[k].toNat = false := by simpa using hu
        clear hu
        go_wp2_with (go_at_call 54; refine (isUpper_any _ _ (by omega) (by omega)).mono ?_; rintro e w' ⟨rfl, rfl⟩)
        go_roundw
        case rel => exact ⟨k + 1, by omega, by go_num, Lib.hid (by rw [lowRow_same s k hlt hu']; exact HB.out), hbel⟩
        case measure => simp [intOf]; omega
    · have hback := run_convert_bytes_back (P := Tryd.prog) wr 26 9 5 ⟨w.heap.size, 0, none⟩ cap (lowRow s k) Tryd.underlying26 Tryd.underlying5 Tryd.underlying9 (fun j hj => by
        rw [Addr.add_lit, Nat.zero_add]; exact (HB.out j hj).1)
      rw [lowRow_length] at hback
      go_wp2
      go_ret
      exact ⟨ret_str (by rw [lowRow_all s k hk hlt]; rfl), hbel⟩

end Go.Proofs.YtcdianojchmgpaaDoor
namespace Go.Proofs.YtcdianojchmgpaaDoor
open Go

/-- The blanks: 32 and 9. -/
def blanks : List UInt8 := [32, 9]
def blankB (c : UInt8) : Bool := blanks.contains c
def rdrop (p : UInt8 → Bool) (l : List UInt8) : List UInt8 := (l.reverse.dropWhile p).reverse

theorem rdrop_cons (p : UInt8 → Bool) (a : UInt8) (t : List UInt8) : rdrop p (a :: t) = if (rdrop p t).isEmpty then [a].dropWhile p else a :: rdrop p t := by
  unfold rdrop
  rw [List.reverse_cons, List.dropWhile_append]
  have : (t.reverse.dropWhile p).reverse.isEmpty = (t.reverse.dropWhile p).isEmpty := by simp
  rw [this]
  split
  · cases h : p a <;> simp [List.dropWhile, h]
  · simp
theorem rdrop_empty (p : UInt8 → Bool) : ∀ t : List UInt8, (rdrop p t).isEmpty = t.all p
  | [] => rfl
  | a :: t => by
    rw [rdrop_cons, List.all_cons, rdrop_empty p t]
    cases ht : t.all p <;> cases h : p a <;> simp [List.dropWhile, h]
theorem dropWhile_all (p : UInt8 → Bool) : ∀ t : List UInt8, t.all p = true → t.dropWhile p = []
  | [], _ => rfl
  | a :: t, h => by
    rw [List.all_cons, Bool.and_eq_true] at h
    rw [List.dropWhile_cons, if_pos h.1]; exact dropWhile_all p t h.2

theorem trim_comm (p : UInt8 → Bool) : ∀ l : List UInt8, (rdrop p l).dropWhile p = rdrop p (l.dropWhile p)
  | [] => rfl
  | a :: t => by
    cases h : p a
    · have e : (a :: t).dropWhile p = a :: t := by rw [List.dropWhile_cons, if_neg (by simp [h])]
      rw [e, rdrop_cons]
      split
      · simp [List.dropWhile, h]
      · rw [List.dropWhile_cons, if_neg (by simp [h])]
    · have e : (a :: t).dropWhile p = t.dropWhile p := by rw [List.dropWhile_cons, if_pos h]
      rw [e, rdrop_cons, rdrop_empty]
      split
      · rename_i ht
        rw [dropWhile_all p t ht]; simp [List.dropWhile, h, rdrop]
      · rw [List.dropWhile_cons, if_pos h]; exact trim_comm p t

/-- Trim: the blanks of both ends are cut off. -/
def trimL (l : List UInt8) : List UInt8 := (rdrop blankB l).dropWhile blankB
theorem trimL_front (l : List UInt8) (c : UInt8) (h : blankB c = true) : trimL (c :: l) = trimL l := by
  unfold trimL; rw [trim_comm, trim_comm, List.dropWhile_cons, if_pos h]
theorem length_dropWhile (p : UInt8 → Bool) : ∀ l : List UInt8, (l.dropWhile p).length ≤ l.length
  | [] => Nat.le_refl _
  | a :: t => by
    rw [List.dropWhile_cons]; split
    · have := length_dropWhile p t; simp; omega
    · exact Nat.le_refl _
theorem trimL_length (l : List UInt8) : (trimL l).length ≤ l.length := by
  unfold trimL
  have h1 := length_dropWhile blankB (rdrop blankB l)
  have h2 : (rdrop blankB l).length ≤ l.length := by
    unfold rdrop; rw [List.length_reverse]; have := length_dropWhile blankB l.reverse; simpa using this
  omega
def trimBA (s : ByteArray) : ByteArray := ⟨(trimL s.data.toList).toArray⟩
theorem trimBA_list (s : ByteArray) : (trimBA s).data.toList = trimL s.data.toList := by simp [trimBA]
theorem trimBA_size (s : ByteArray) : (trimBA s).size ≤ s.size := by
  have := trimL_length s.data.toList
  have h1 : (trimBA s).size = (trimL s.data.toList).length := by show (trimBA s).data.size = _; simp [trimBA]
  have h2 : s.size = s.data.toList.length := by simp
  omega
theorem ba_ext {a b : ByteArray} (h : a.data.toList = b.data.toList) : a = b := by
  cases a; cases b; simp at h; simp [h]
end Go.Proofs.YtcdianojchmgpaaDoor
namespace Go.Proofs.YtcdianojchmgpaaDoor
open Go.RowKit

theorem lt_cell {w : World} {a : Addr} {v : Value} (h : w.cell? a = some v) : a.block < w.heap.size := by
  rcases Nat.lt_or_ge a.block w.heap.size with h' | h'
  · exact h'
  · simp [World.cell?, Array.getElem?_eq_none h'] at h
theorem below_trans {w w1 w2 : World} (h : Below w.heap.size w w1) (k : Below w1.heap.size w1 w2) : Below w.heap.size w w2 := h.trans (k.mono h.size)
theorem below_cell {w w' : World} (h : Below w.heap.size w w') {a : Addr} {v : Value} (hc : w.cell? a = some v) : w'.cell? a = some v := by
  rw [h.cell (lt_cell hc)]; exact hc

/-- The slice at a holds the strings l. -/
def StrsAt (w : World) (a : Option Addr) (l : List ByteArray) : Prop :=
  ∀ j (hj : j < l.length), ∃ b off, a = some ⟨b, off, none⟩ ∧ w.cell? ⟨b, off + j, none⟩ = some (.string l[j])
theorem StrsAt.keep {w w' : World} {a : Option Addr} {l : List ByteArray} (h : StrsAt w a l) (hb : Below w.heap.size w w') : StrsAt w' a l := fun j hj => by
  obtain ⟨b, off, e, hc⟩ := h j hj
  exact ⟨b, off, e, below_cell hb hc⟩
theorem StrsAt.nil (w : World) (a : Option Addr) : StrsAt w a [] := fun _ hj => absurd hj (Nat.not_lt_zero _)

/-- The call returns a slice of the strings l; what was there is as it was. -/
def RetStrs (w : World) (l : List ByteArray) (e : Ending) (w' : World) : Prop :=
  ∃ a cap, e = .returned (.slice a l.length cap) ∧ StrsAt w' a l ∧ Below w.heap.size w w'
theorem Tryd.info9 : (Tryd.prog.info? 9).map (fun i => (i.zero, i.size, i.bytes)) = some (some (.string ⟨#[]⟩), 1, 16) := by kernel_rfl

/-- v is a slice of the call's own with the strings l; what was there before the call is as it was. -/
def Acc (w0 w : World) (v : Value) (l : List ByteArray) : Prop :=
  w.ownsRow w0.heap.size 9 1 v l.length (l.map Value.string) ∧ Below w0.heap.size w0 w
theorem Acc.start (w : World) : Acc w w (.slice none 0 0) [] := ⟨World.ownsRow_nil _ _ _ _, Below.refl _ _⟩
theorem Acc.size {w0 w : World} {v : Value} {l : List ByteArray} (h : Acc w0 w v l) : w0.heap.size ≤ w.heap.size := h.2.size
theorem ownsRow_keep {w w' : World} {base : Nat} {e : TypeId} {size n : Nat} {v : Value} {xs : List Value} (h : w.ownsRow base e size v n xs) (hb : Below w.heap.size w w') : w'.ownsRow base e size v n xs := by
  obtain ⟨h1, h2⟩ := h
  refine ⟨h1, ?_⟩
  rcases h2 with h2 | ⟨g, cap, cur, hv, hg, hc, r⟩
  · exact .inl h2
  · have hlt : g < w.heap.size := by
      rcases Nat.lt_or_ge g w.heap.size with h' | h'
      · exact h'
      · rw [Array.getElem?_eq_none h'] at hc; cases hc
    exact .inr ⟨g, cap, cur, hv, hg, by rw [hb.block g hlt]; exact hc, r⟩
theorem Acc.keep {w0 w w' : World} {v : Value} {l : List ByteArray} (h : Acc w0 w v l) (hb : Below w.heap.size w w') : Acc w0 w' v l :=
  ⟨ownsRow_keep h.1 hb, h.2.trans (hb.mono h.2.size)⟩
theorem Acc.lt {w0 w : World} {v : Value} {l : List ByteArray} (h : Acc w0 w v l) {k : Nat} (hk : v.ownBlock = some k) : k < w.heap.size := (World.ownsRow.lt h.1 k hk).2
/-- The shape of v. -/
theorem Acc.shape {w0 w : World} {v : Value} {l : List ByteArray} (h : Acc w0 w v l) : ∃ a cap, v = .slice a l.length cap ∧ StrsAt w a l := by
  obtain ⟨⟨h1, h2⟩, _⟩ := h
  rcases h2 with ⟨rfl, h2⟩ | ⟨g, cap, cur, rfl, hg, hc, hcap, hm, hsz, ht⟩
  · have : l = [] := List.eq_nil_of_length_eq_zero h2
    subst this
    exact ⟨none, 0, rfl, StrsAt.nil _ _⟩
  · refine ⟨_, cap, rfl, fun j hj => ⟨g, 0, rfl, ?_⟩⟩
    have e : cur.toList[j]? = some (Value.string l[j]) := by
      have := congrArg (fun x => x[j]?) ht
      simp only [Nat.mul_one] at this
      rw [List.getElem?_take_of_lt hj, List.getElem?_map, List.getElem?_eq_getElem hj] at this
      exact this
    simp only [World.cell?, hc, Nat.zero_add]
    simpa using e

section
variable {ops : Array Oper} {rest : List Oper} {o : Oper} {act : Act} {Q : Exit → Act → World → Prop}
end
end Go.Proofs.YtcdianojchmgpaaDoor
namespace Go.Proofs
open Go.Shelf
def Tryd.lays160_ren : Go.Shelf.Ren := ⟨fun | 160 => 62 | 232 => 72 | 231 => 71 | 227 => 73 | 234 => 75 | 233 => 74 | 236 => 77 | 235 => 76 | 228 => 81 | 271 => 83 | 151 => 82 | 197 => 60 | 120 => 85 | 152 => 84 | 260 => 70 | 137 => 55 | 119 => 86 | 224 => 41 | 225 => 68 | 217 => 67 | 266 => 79 | n => n, fun | 9 => 9 | 4 => 4 | 3 => 3 | 5 => 5 | 117 => 99 | 116 => 98 | 0 => 0 | 124 => 102 | 21 => 21 | 105 => 90 | 46 => 79 | 119 => 104 | 139 => 107 | 138 => 106 | n => n, fun | 3 => 1 | 4 => 2 | n => n⟩
theorem Tryd.lays160 : Go.Proofs.Lays.n160 Tryd.prog Tryd.lays160_ren := {
  mixed := by kernel_rfl
  f119 := Tryd.func86.trans (congrArg some (by kernel_rfl))
  f120 := Tryd.func85.trans (congrArg some (by kernel_rfl))
  f137 := Tryd.func55.trans (congrArg some (by kernel_rfl))
  f151 := Tryd.func82.trans (congrArg some (by kernel_rfl))
  f152 := Tryd.func84.trans (congrArg some (by kernel_rfl))
  f160 := Tryd.func62.trans (congrArg some (by kernel_rfl))
  f197 := Tryd.func60.trans (congrArg some (by kernel_rfl))
  f217 := Tryd.func67.trans (congrArg some (by kernel_rfl))
  f224 := Tryd.func41.trans (congrArg some (by kernel_rfl))
  f225 := Tryd.func68.trans (congrArg some (by kernel_rfl))
  f227 := Tryd.func73.trans (congrArg some (by kernel_rfl))
  f228 := Tryd.func81.trans (congrArg some (by kernel_rfl))
  f231 := Tryd.func71.trans (congrArg some (by kernel_rfl))
  f232 := Tryd.func72.trans (congrArg some (by kernel_rfl))
  f233 := Tryd.func74.trans (congrArg some (by kernel_rfl))
  f234 := Tryd.func75.trans (congrArg some (by kernel_rfl))
  f235 := Tryd.func76.trans (congrArg some (by kernel_rfl))
  f236 := Tryd.func77.trans (congrArg some (by kernel_rfl))
  f260 := Tryd.func70.trans (congrArg some (by kernel_rfl))
  f266 := Tryd.func79.trans (congrArg some (by kernel_rfl))
  f271 := Tryd.func83.trans (congrArg some (by kernel_rfl))
  t0 := Tryd.underlying0
  a0 := Tryd.isAgg0
  z0 := Tryd.sizeOf0
  v0 := Tryd.zeroValue0
  t3 := Tryd.underlying3
  a3 := Tryd.isAgg3
  z3 := Tryd.sizeOf3
  v3 := Tryd.zeroValue3
  t4 := Tryd.underlying4
  a4 := Tryd.isAgg4
  z4 := Tryd.sizeOf4
  v4 := Tryd.zeroValue4
  t5 := Tryd.underlying5
  a5 := Tryd.isAgg5
  z5 := Tryd.sizeOf5
  v5 := Tryd.zeroValue5
  t9 := Tryd.underlying9
  a9 := Tryd.isAgg9
  z9 := Tryd.sizeOf9
  v9 := Tryd.zeroValue9
  t21 := Tryd.underlying21
  a21 := Tryd.isAgg21
  z21 := Tryd.sizeOf21
  v21 := Tryd.zeroValue21
  t46 := Tryd.underlying79
  a46 := Tryd.isAgg79
  z46 := Tryd.sizeOf79
  v46 := Tryd.zeroValue79
  t105 := Tryd.underlying90
  a105 := Tryd.isAgg90
  z105 := Tryd.sizeOf90
  v105 := Tryd.zeroValue90
  t116 := Tryd.underlying98
  a116 := Tryd.isAgg98
  z116 := Tryd.sizeOf98
  t117 := Tryd.underlying99
  a117 := Tryd.isAgg99
  z117 := Tryd.sizeOf99
  v117 := Tryd.zeroValue99
  t119 := Tryd.underlying104
  a119 := Tryd.isAgg104
  z119 := Tryd.sizeOf104
  t124 := Tryd.underlying102
  a124 := Tryd.isAgg102
  z124 := Tryd.sizeOf102
  v124 := Tryd.zeroValue102
  t138 := Tryd.underlying106
  a138 := Tryd.isAgg106
  z138 := Tryd.sizeOf106
  v138 := Tryd.zeroValue106
  t139 := Tryd.underlying107
  a139 := Tryd.isAgg107
  z139 := Tryd.sizeOf107
  v139 := Tryd.zeroValue107
  g3 := by kernel_rfl
  g4 := by kernel_rfl }
def Tryd.lays169_ren : Go.Shelf.Ren := ⟨fun | 169 => 35 | n => n, fun | 70 => 66 | 9 => 9 | 0 => 0 | 72 => 68 | 37 => 26 | 127 => 86 | 3 => 3 | 5 => 5 | n => n, fun | n => n⟩
theorem Tryd.lays169 : Go.Proofs.Lays.n169 Tryd.prog Tryd.lays169_ren := {
  mixed := by kernel_rfl
  f169 := Tryd.func35.trans (congrArg some (by kernel_rfl))
  t0 := Tryd.underlying0
  a0 := Tryd.isAgg0
  z0 := Tryd.sizeOf0
  v0 := Tryd.zeroValue0
  t3 := Tryd.underlying3
  a3 := Tryd.isAgg3
  z3 := Tryd.sizeOf3
  v3 := Tryd.zeroValue3
  t9 := Tryd.underlying9
  a9 := Tryd.isAgg9
  z9 := Tryd.sizeOf9
  v9 := Tryd.zeroValue9
  t37 := Tryd.underlying26
  a37 := Tryd.isAgg26
  z37 := Tryd.sizeOf26
  v37 := Tryd.zeroValue26
  t70 := Tryd.underlying66
  a70 := Tryd.isAgg66
  z70 := Tryd.sizeOf66
  v70 := Tryd.zeroValue66
  t72 := Tryd.underlying68
  a72 := Tryd.isAgg68
  z72 := Tryd.sizeOf68
  v72 := Tryd.zeroValue68
  t127 := Tryd.underlying86
  a127 := Tryd.isAgg86
  z127 := Tryd.sizeOf86
  v127 := Tryd.zeroValue86 }
def Tryd.laysM147_ren : Go.Shelf.Ren := ⟨fun | 147 => 15 | 221 => 26 | 268 => 46 | 138 => 25 | 143 => 45 | 195 => 43 | 197 => 60 | 218 => 44 | 219 => 59 | 260 => 70 | 217 => 67 | 225 => 68 | 224 => 41 | 267 => 69 | 266 => 79 | 314 => 80 | n => n, fun | 9 => 9 | 3 => 3 | 31 => 45 | 4 => 4 | 0 => 0 | 105 => 90 | 21 => 21 | 5 => 5 | 46 => 79 | 119 => 104 | 139 => 107 | 138 => 106 | 146 => 88 | 51 => 87 | n => n, fun | 1 => 0 | 3 => 1 | 4 => 2 | n => n⟩
theorem Tryd.laysM147 : Go.Proofs.LaysM.n147 Tryd.prog Tryd.laysM147_ren := {
  mixed := by kernel_rfl
  f138 := Tryd.func25.trans (congrArg some (by kernel_rfl))
  f143 := Tryd.func45.trans (congrArg some (by kernel_rfl))
  f147 := Tryd.func15.trans (congrArg some (by kernel_rfl))
  f195 := Tryd.func43.trans (congrArg some (by kernel_rfl))
  f197 := Tryd.func60.trans (congrArg some (by kernel_rfl))
  f217 := Tryd.func67.trans (congrArg some (by kernel_rfl))
  f218 := Tryd.func44.trans (congrArg some (by kernel_rfl))
  f219 := Tryd.func59.trans (congrArg some (by kernel_rfl))
  f221 := Tryd.func26.trans (congrArg some (by kernel_rfl))
  f224 := Tryd.func41.trans (congrArg some (by kernel_rfl))
  f225 := Tryd.func68.trans (congrArg some (by kernel_rfl))
  f260 := Tryd.func70.trans (congrArg some (by kernel_rfl))
  f266 := Tryd.func79.trans (congrArg some (by kernel_rfl))
  f267 := Tryd.func69.trans (congrArg some (by kernel_rfl))
  f268 := Tryd.func46.trans (congrArg some (by kernel_rfl))
  f314 := Tryd.func80.trans (congrArg some (by kernel_rfl))
  t0 := Tryd.underlying0
  a0 := Tryd.isAgg0
  z0 := Tryd.sizeOf0
  v0 := Tryd.zeroValue0
  t3 := Tryd.underlying3
  a3 := Tryd.isAgg3
  z3 := Tryd.sizeOf3
  v3 := Tryd.zeroValue3
  t4 := Tryd.underlying4
  a4 := Tryd.isAgg4
  z4 := Tryd.sizeOf4
  v4 := Tryd.zeroValue4
  t5 := Tryd.underlying5
  a5 := Tryd.isAgg5
  z5 := Tryd.sizeOf5
  v5 := Tryd.zeroValue5
  t9 := Tryd.underlying9
  a9 := Tryd.isAgg9
  z9 := Tryd.sizeOf9
  v9 := Tryd.zeroValue9
  t21 := Tryd.underlying21
  a21 := Tryd.isAgg21
  z21 := Tryd.sizeOf21
  v21 := Tryd.zeroValue21
  t31 := Tryd.underlying45
  a31 := Tryd.isAgg45
  z31 := Tryd.sizeOf45
  v31 := Tryd.zeroValue45
  t46 := Tryd.underlying79
  a46 := Tryd.isAgg79
  z46 := Tryd.sizeOf79
  v46 := Tryd.zeroValue79
  t51 := Tryd.underlying87
  a51 := Tryd.isAgg87
  z51 := Tryd.sizeOf87
  v51 := Tryd.zeroValue87
  t105 := Tryd.underlying90
  a105 := Tryd.isAgg90
  z105 := Tryd.sizeOf90
  v105 := Tryd.zeroValue90
  t119 := Tryd.underlying104
  a119 := Tryd.isAgg104
  z119 := Tryd.sizeOf104
  t138 := Tryd.underlying106
  a138 := Tryd.isAgg106
  z138 := Tryd.sizeOf106
  v138 := Tryd.zeroValue106
  t139 := Tryd.underlying107
  a139 := Tryd.isAgg107
  z139 := Tryd.sizeOf107
  v139 := Tryd.zeroValue107
  t146 := Tryd.underlying88
  a146 := Tryd.isAgg88
  z146 := Tryd.sizeOf88
  v146 := Tryd.zeroValue88
  g1 := by kernel_rfl
  g3 := by kernel_rfl
  g4 := by kernel_rfl
  i0 := by kernel_rfl
  i3 := by kernel_rfl
  i4 := by kernel_rfl
  i5 := by kernel_rfl
  i9 := by kernel_rfl
  i21 := by kernel_rfl
  i31 := by kernel_rfl
  i46 := by kernel_rfl
  i51 := by kernel_rfl
  i105 := by kernel_rfl
  i138 := by kernel_rfl
  i139 := by kernel_rfl
  i146 := by kernel_rfl
  m1 := by kernel_rfl
  s1_3 := fun w h => Go.Proofs.cell_of_shapedOpen_int (zero := #[.int .i64 0]) (t := 3) h (of_decide_eq_true (by kernel_rfl)) (by kernel_rfl) rfl (by kernel_rfl) (by kernel_rfl) Tryd.underlying3
  m3 := by kernel_rfl
  m4 := by kernel_rfl }
def Tryd.lays138_ren : Go.Shelf.Ren := ⟨fun | 138 => 25 | 195 => 43 | 218 => 44 | 143 => 45 | 219 => 59 | 217 => 67 | 225 => 68 | 224 => 41 | 267 => 69 | 266 => 79 | 314 => 80 | n => n, fun | 9 => 9 | 3 => 3 | 4 => 4 | 5 => 5 | 0 => 0 | 46 => 79 | 146 => 88 | 51 => 87 | n => n, fun | 1 => 0 | n => n⟩
theorem Tryd.lays138 : Go.Proofs.Lays.n138 Tryd.prog Tryd.lays138_ren := {
  mixed := by kernel_rfl
  f138 := Tryd.func25.trans (congrArg some (by kernel_rfl))
  f143 := Tryd.func45.trans (congrArg some (by kernel_rfl))
  f195 := Tryd.func43.trans (congrArg some (by kernel_rfl))
  f217 := Tryd.func67.trans (congrArg some (by kernel_rfl))
  f218 := Tryd.func44.trans (congrArg some (by kernel_rfl))
  f219 := Tryd.func59.trans (congrArg some (by kernel_rfl))
  f224 := Tryd.func41.trans (congrArg some (by kernel_rfl))
  f225 := Tryd.func68.trans (congrArg some (by kernel_rfl))
  f266 := Tryd.func79.trans (congrArg some (by kernel_rfl))
  f267 := Tryd.func69.trans (congrArg some (by kernel_rfl))
  f314 := Tryd.func80.trans (congrArg some (by kernel_rfl))
  t0 := Tryd.underlying0
  a0 := Tryd.isAgg0
  z0 := Tryd.sizeOf0
  v0 := Tryd.zeroValue0
  t3 := Tryd.underlying3
  a3 := Tryd.isAgg3
  z3 := Tryd.sizeOf3
  v3 := Tryd.zeroValue3
  t4 := Tryd.underlying4
  a4 := Tryd.isAgg4
  z4 := Tryd.sizeOf4
  v4 := Tryd.zeroValue4
  t5 := Tryd.underlying5
  a5 := Tryd.isAgg5
  z5 := Tryd.sizeOf5
  v5 := Tryd.zeroValue5
  t9 := Tryd.underlying9
  a9 := Tryd.isAgg9
  z9 := Tryd.sizeOf9
  v9 := Tryd.zeroValue9
  t46 := Tryd.underlying79
  a46 := Tryd.isAgg79
  z46 := Tryd.sizeOf79
  v46 := Tryd.zeroValue79
  t51 := Tryd.underlying87
  a51 := Tryd.isAgg87
  z51 := Tryd.sizeOf87
  v51 := Tryd.zeroValue87
  t146 := Tryd.underlying88
  a146 := Tryd.isAgg88
  z146 := Tryd.sizeOf88
  v146 := Tryd.zeroValue88
  g1 := by kernel_rfl }
def Tryd.lays102_ren : Go.Shelf.Ren := ⟨fun | 102 => 16 | 209 => 27 | 207 => 47 | n => n, fun | 9 => 9 | 4 => 4 | 3 => 3 | n => n, fun | n => n⟩
theorem Tryd.lays102 : Go.Proofs.Lays.n102 Tryd.prog Tryd.lays102_ren := {
  mixed := by kernel_rfl
  f102 := Tryd.func16.trans (congrArg some (by kernel_rfl))
  f207 := Tryd.func47.trans (congrArg some (by kernel_rfl))
  f209 := Tryd.func27.trans (congrArg some (by kernel_rfl))
  t3 := Tryd.underlying3
  a3 := Tryd.isAgg3
  z3 := Tryd.sizeOf3
  v3 := Tryd.zeroValue3
  t4 := Tryd.underlying4
  a4 := Tryd.isAgg4
  z4 := Tryd.sizeOf4
  v4 := Tryd.zeroValue4
  t9 := Tryd.underlying9
  a9 := Tryd.isAgg9
  z9 := Tryd.sizeOf9
  v9 := Tryd.zeroValue9 }
def Tryd.lays185_ren : Go.Shelf.Ren := ⟨fun | 185 => 24 | 187 => 38 | 115 => 39 | 253 => 40 | 224 => 41 | 254 => 42 | 255 => 57 | 291 => 58 | n => n, fun | 37 => 26 | 3 => 3 | 4 => 4 | 0 => 0 | 5 => 5 | 46 => 79 | 9 => 9 | 146 => 88 | 51 => 87 | n => n, fun | 1 => 0 | n => n⟩
theorem Tryd.lays185 : Go.Proofs.Lays.n185 Tryd.prog Tryd.lays185_ren := {
  mixed := by kernel_rfl
  f115 := Tryd.func39.trans (congrArg some (by kernel_rfl))
  f185 := Tryd.func24.trans (congrArg some (by kernel_rfl))
  f187 := Tryd.func38.trans (congrArg some (by kernel_rfl))
  f224 := Tryd.func41.trans (congrArg some (by kernel_rfl))
  f253 := Tryd.func40.trans (congrArg some (by kernel_rfl))
  f254 := Tryd.func42.trans (congrArg some (by kernel_rfl))
  f255 := Tryd.func57.trans (congrArg some (by kernel_rfl))
  f291 := Tryd.func58.trans (congrArg some (by kernel_rfl))
  t0 := Tryd.underlying0
  a0 := Tryd.isAgg0
  z0 := Tryd.sizeOf0
  v0 := Tryd.zeroValue0
  t3 := Tryd.underlying3
  a3 := Tryd.isAgg3
  z3 := Tryd.sizeOf3
  v3 := Tryd.zeroValue3
  t4 := Tryd.underlying4
  a4 := Tryd.isAgg4
  z4 := Tryd.sizeOf4
  v4 := Tryd.zeroValue4
  t5 := Tryd.underlying5
  a5 := Tryd.isAgg5
  z5 := Tryd.sizeOf5
  v5 := Tryd.zeroValue5
  t9 := Tryd.underlying9
  a9 := Tryd.isAgg9
  z9 := Tryd.sizeOf9
  v9 := Tryd.zeroValue9
  t37 := Tryd.underlying26
  a37 := Tryd.isAgg26
  z37 := Tryd.sizeOf26
  v37 := Tryd.zeroValue26
  t46 := Tryd.underlying79
  a46 := Tryd.isAgg79
  z46 := Tryd.sizeOf79
  v46 := Tryd.zeroValue79
  t51 := Tryd.underlying87
  a51 := Tryd.isAgg87
  z51 := Tryd.sizeOf87
  v51 := Tryd.zeroValue87
  t146 := Tryd.underlying88
  a146 := Tryd.isAgg88
  z146 := Tryd.sizeOf88
  v146 := Tryd.zeroValue88
  g1 := by kernel_rfl }
end Go.Proofs
namespace Go.Proofs.YtcdianojchmgpaaDoor
open Go.RowKit

theorem trimLib_any (s : ByteArray) (w : World) (hs : s.size ≤ maxLen) :
    Calls Tryd.prog 62 #[.string s, .string ⟨#[32, 9]⟩] w fun e w' => e = .returned (.string (trimBA s)) ∧ Below w.heap.size w w' :=
  (Any.strings_Trim_laid Tryd.lays160 (by kernel_rfl) s ⟨#[32, 9]⟩ w hs (by decide) (ascii_of_all (by decide))).mono fun _ _ ⟨he, hw⟩ => ⟨he, hw⟩

set_option maxHeartbeats 400000 in
theorem trim_any (s : ByteArray) (w : World) (hs : s.size ≤ maxLen) :
    Calls Tryd.prog 49 #[.string s] w fun e w' => e = .returned (.string (trimBA s)) ∧ Below w.heap.size w w' := by
  go_enter Tryd.func49, Tryd.ntmps49
  go_wp2_with fail
  refine (trimLib_any s _ hs).mono ?_
  rintro e w1 ⟨rfl, hb1⟩
  go_wp2_with fail
  go_ret
  exact ⟨rfl, hb1⟩

def valB (c : UInt8) : Bool := decide ((c.toNat : Int) = 9) || (decide (32 ≤ (c.toNat : Int)) && !decide ((c.toNat : Int) = 127))
def visS (s : ByteArray) : Bool := s.data.toList.all valB
def valS (s : ByteArray) : Bool := visS s && ((trimBA s).toList == s.toList)

set_option maxHeartbeats 400000 in
theorem isValueByte_any (c : UInt8) (w : World) :
    Calls Tryd.prog 65 #[.int .u8 c.toNat] w fun e w' => e = .returned (.bool (valB c)) ∧ w = w' := by
  go_enter Tryd.func65, Tryd.ntmps65
  go_wp2
  all_goals go_ret
  all_goals exact ⟨ret_bool (by unfold valB; rw [Bool.eq_iff_iff]; simp; omega), rfl⟩

theorem visS_no {s : ByteArray} {k : Nat} (hlt : k < s.size) (hc : valB s[k] = false) : visS s = false := by
  unfold visS
  rw [Bool.eq_false_iff]; intro h
  have := List.all_eq_true.1 h _ (mem_at s k hlt); rw [hc] at this; cases this
theorem visS_yes {s : ByteArray} {k : Nat} (hk : k ≤ s.size) (hlt : ¬ k < s.size) (h : (s.data.toList.take k).all valB = true) : visS s = true := by
  rw [take_all s k hk hlt] at h; exact h

set_option maxHeartbeats 400000 in
theorem value_any (s : ByteArray) (w : World) (hs0 : s.size ≤ maxLen) :
    Calls Tryd.prog 52 #[.string s] w fun e w' => e = .returned (.bool (valS s)) ∧ Below w.heap.size w w' := by
  have hs := hs0
  unfold maxLen at hs
  have HS0 := Lib.hid hs0
  clear hs0
  go_enter Tryd.func52, Tryd.ntmps52
  go_wp2
  go_loop [6] (fun i => ∃ k : Nat, k ≤ s.size ∧ i = .int .i64 k ∧ Hid ((s.data.toList.take k).all valB = true)) (fun i => s.size - (intOf i).toNat)
  case atStart => exact ⟨0, Nat.zero_le _, rfl, Lib.hid (by simp)⟩
  case round =>
    obtain ⟨k, hk, rfl, HP⟩ := hrel
    by_cases hlt : k < s.size
    · by_cases hc : valB s[k] = true
      · go_wp2_with (go_at_call 65; refine (isValueByte_any _ _).mono ?_; rintro e w' ⟨rfl, rfl⟩)
        go_round
        case rel => exact ⟨k + 1, by omega, by go_num, Lib.hid (by rw [take_snoc s k hlt, List.all_append, HP.out]; simpa using hc)⟩
        case measure => simp [intOf]; omega
      · have hc' : valB s[k] = false := by simpa using hc
        clear hc
        go_wp2_with (go_at_call 65; refine (isValueByte_any _ _).mono ?_; rintro e w' ⟨rfl, rfl⟩)
        go_ret
        exact ⟨ret_bool (by unfold valS; rw [visS_no hlt hc']; rfl), Below.refl _ _⟩
    · go_wp2_with fail
      refine (trim_any s _ HS0.out).mono ?_
      rintro e w1 ⟨rfl, hb1⟩
      go_wp2_with fail
      go_ret
      exact ⟨ret_bool (by unfold valS; rw [visS_yes hk hlt HP.out, Bool.true_and, Bool.beq_comm]), hb1⟩

end Go.Proofs.YtcdianojchmgpaaDoor
namespace Go.Proofs.YtcdianojchmgpaaDoor
open Go

/-- Puts bytes before the first piece. -/
def front (p : List UInt8) : List (List UInt8) → List (List UInt8)
  | [] => [p]
  | h :: r => (p ++ h) :: r
/-- The pieces between the bytes c. -/
def splitL (c : UInt8) : List UInt8 → List (List UInt8)
  | [] => [[]]
  | b :: t => if b = c then [] :: splitL c t else front [b] (splitL c t)

theorem splitL_ne (c : UInt8) : ∀ l, splitL c l ≠ []
  | [] => by simp [splitL]
  | b :: t => by
    unfold splitL; split
    · simp
    · cases splitL c t <;> simp [front]
theorem index_cons_ne (b c : UInt8) (l : List UInt8) (h : b ≠ c) : Lib.index (b :: l) [c] = if Lib.index l [c] == -1 then -1 else Lib.index l [c] + 1 := by
  rw [Lib.index]
  have : (List.isPrefixOf [c] (b :: l)) = false := by simp [List.isPrefixOf]; exact fun e => h e.symm
  rw [this]; rfl
theorem index_cons_eq (c : UInt8) (l : List UInt8) : Lib.index (c :: l) [c] = 0 := by
  rw [Lib.index]
  have : (List.isPrefixOf [c] (c :: l)) = true := by simp [List.isPrefixOf]
  rw [this]; rfl

theorem splitK_eq (c : UInt8) : ∀ l : List UInt8, Lib.splitK [c] 0 (Lib.count l [c]) l = splitL c l
  | [] => rfl
  | b :: t => by
    have ih := splitK_eq c t
    by_cases h : b = c
    · subst h
      rw [Lib.count_cons_eq, Nat.add_comm, Lib.splitK, index_cons_eq, splitL, if_pos rfl]
      rw [if_neg (by decide)]
      simp only [Int.toNat_zero, List.take_zero, Nat.add_zero, List.length_cons, List.length_nil, Nat.zero_add]
      rw [List.drop_succ_cons, List.drop_zero, ih]
    · rw [Lib.count_cons_ne b c t h, splitL, if_neg h, ← ih]
      cases hk : Lib.count t [c] with
      | zero => rfl
      | succ k =>
        have hm : ¬ Lib.index t [c] = -1 := fun e => by rw [Lib.count_miss e] at hk; cases hk
        have hge := Lib.index_ge t [c]
        rw [Lib.splitK, Lib.splitK, index_cons_ne b c t h]
        have hA : (Lib.index t [c] == -1) = false := by simpa using hm
        have hB : (Lib.index t [c] + 1 == -1) = false := by rw [beq_eq_false_iff_ne]; omega
        simp only [hA, hB, Bool.false_eq_true, if_false]
        obtain ⟨i, hi⟩ : ∃ i : Nat, Lib.index t [c] = i := ⟨(Lib.index t [c]).toNat, by omega⟩
        rw [hi]
        have e1 : ((i : Int) + 1).toNat = i + 1 := by omega
        have e2 : (i : Int).toNat = i := by omega
        rw [e1, e2]
        simp [front]

def ofL (l : List UInt8) : ByteArray := ⟨l.toArray⟩
theorem ofL_list (l : List UInt8) : (ofL l).data.toList = l := by simp [ofL]
theorem ofL_of (s : ByteArray) : ofL s.data.toList = s := ba_ext (ofL_list _)
def splitS (c : UInt8) (s : ByteArray) : List ByteArray := (splitL c s.data.toList).map ofL
theorem splitB_eq (c : UInt8) (s : ByteArray) : Lib.splitB ⟨#[c]⟩ 0 (Lib.countB s ⟨#[c]⟩) s = splitS c s := by
  have h := Lib.splitB_data ⟨#[c]⟩ 0 (Lib.countB s ⟨#[c]⟩) s
  have e : Lib.splitK (ByteArray.mk #[c]).data.toList 0 (Lib.countB s ⟨#[c]⟩) s.data.toList = splitL c s.data.toList := splitK_eq c s.data.toList
  rw [e] at h
  unfold splitS
  rw [← h, List.map_map]
  have : ∀ L : List ByteArray, L = L.map (ofL ∘ fun x => x.data.toList) := fun L => by
    induction L with
    | nil => rfl
    | cons a t ih => rw [List.map_cons, ← ih]; simp [ofL_of]
  exact this _

theorem splitL_append (c : UInt8) : ∀ a b : List UInt8, splitL c (a ++ c :: b) = splitL c a ++ splitL c b
  | [], b => by simp [splitL]
  | x :: a, b => by
    rw [List.cons_append, splitL, splitL]
    by_cases h : x = c
    · rw [if_pos h, if_pos h, splitL_append c a b]; rfl
    · rw [if_neg h, if_neg h, splitL_append c a b]
      cases hs : splitL c a with
      | nil => exact absurd hs (splitL_ne c a)
      | cons p r => rfl
end Go.Proofs.YtcdianojchmgpaaDoor
namespace Go.Proofs.YtcdianojchmgpaaDoor
open Go.RowKit

theorem toList_eq {a b : ByteArray} : (a.toList == b.toList) = decide (a = b) := by
  rw [Bool.eq_iff_iff, beq_iff_eq, decide_eq_true_eq, ByteArray.toList_eq, ByteArray.toList_eq]
  exact ⟨ba_ext, fun h => by rw [h]⟩

theorem splitL_small (c : UInt8) : ∀ (l p : List UInt8), p ∈ splitL c l → p.length ≤ l.length
  | [], p, h => by simp [splitL] at h; simp [h]
  | b :: t, p, h => by
    have ih := splitL_small c t
    rw [splitL] at h
    split at h
    · rcases List.mem_cons.1 h with rfl | h
      · simp
      · have := ih p h; simp; omega
    · cases hs : splitL c t with
      | nil => exact absurd hs (splitL_ne c t)
      | cons q r =>
        rw [hs] at h ih
        simp only [front, List.mem_cons] at h
        rcases h with rfl | h
        · have := ih q (by simp); simp; omega
        · have := ih p (by simp [h]); simp; omega
theorem splitS_small (c : UInt8) (s x : ByteArray) (h : x ∈ splitS c s) : x.size ≤ s.size := by
  unfold splitS at h
  obtain ⟨p, hp, rfl⟩ := List.mem_map.1 h
  have := splitL_small c _ p hp
  have e : (ofL p).size = p.length := by show (ofL p).data.size = _; simp [ofL]
  have e2 : s.data.toList.length = s.size := by simp
  omega

theorem extract_ofL (s : ByteArray) (a b : Nat) : s.extract a b = ofL ((s.data.toList.drop a).take (b - a)) := ba_ext (by rw [ofL_list, Lib.extract_data])
end Go.Proofs.YtcdianojchmgpaaDoor
namespace Go.Proofs.YtcdianojchmgpaaDoor
open Go.ChangeShapes Go.WideShapes Go.ChangeAt Go.RowKit

/-- The slice at a reads as the bytes l. -/
def IsBytes (w : World) (a : Option Addr) (l : List UInt8) (cap : Nat) : Prop :=
  (a = none ∧ l = [] ∧ cap = 0) ∨ ∃ x, a = some x ∧ l.length ≤ cap ∧ cap ≤ maxLen ∧ ∀ j (hj : j < l.length), w.cell? (x.add j) = some (.int .u8 (l[j].toNat : Int))

/-- string(b) of a slice of bytes that came in. -/
theorem conv_bytes {W : World} {a : Option Addr} {l : List UInt8} {cap : Nat} (h : IsBytes W a l cap) :
    (convert 26 9 (.slice a l.length cap)).run Tryd.prog W = .ok (.string ⟨l.toArray⟩) W := by
  rcases h with ⟨rfl, rfl, rfl⟩ | ⟨x, rfl, _, _, hc⟩
  · simp [convert, run_underlying Tryd.underlying26, run_underlying Tryd.underlying9, run_underlying Tryd.underlying5, Conv.bytesToString]
    rfl
  · exact run_convert_bytes_back (P := Tryd.prog) W 26 9 5 x cap l Tryd.underlying26 Tryd.underlying5 Tryd.underlying9 hc
end Go.Proofs.YtcdianojchmgpaaDoor
namespace Go.Proofs.YtcdianojchmgpaaDoor
open Go.ChangeShapes Go.WideShapes Go.ChangeAt Go.RowKit

/-- The slice at a reads as the strings l. -/
def StrsIn (w : World) (a : Option Addr) (l : List ByteArray) : Prop :=
  ∀ j (hj : j < l.length), ∃ x, a = some x ∧ w.cell? (x.add j) = some (.string l[j])
theorem StrsIn.keep {w w' : World} {a : Option Addr} {l : List ByteArray} (h : StrsIn w a l) (hb : Below w.heap.size w w') : StrsIn w' a l := fun j hj => by
  obtain ⟨x, e, hc⟩ := h j hj
  exact ⟨x, e, below_cell hb hc⟩
theorem StrsIn.nil (w : World) (a : Option Addr) : StrsIn w a [] := fun _ hj => absurd hj (Nat.not_lt_zero _)
theorem StrsIn.take {w : World} {a : Option Addr} {l : List ByteArray} (h : StrsIn w a l) (k : Nat) : StrsIn w a (l.take k) := fun j hj => by
  have hj' : j < l.length := by rw [List.length_take] at hj; omega
  obtain ⟨x, e, hc⟩ := h j hj'
  exact ⟨x, e, by rw [List.getElem_take]; exact hc⟩
end Go.Proofs.YtcdianojchmgpaaDoor
namespace Go.Proofs.YtcdianojchmgpaaDoor
open Go.RowKit

theorem Tryd.info5 : (Tryd.prog.info? 5).map (fun i => (i.zero, i.size, i.bytes)) = some (some (.int .u8 0), 1, 1) := by kernel_rfl
def bytesV (l : List UInt8) : List Value := l.map fun c => .int .u8 (c.toNat : Int)
theorem bytesV_len (l : List UInt8) : (bytesV l).length = l.length := by simp [bytesV]

section
variable {ops : Array Oper} {rest : List Oper} {o : Oper} {act : Act} {Q : Exit → Act → World → Prop}
end
end Go.Proofs.YtcdianojchmgpaaDoor
namespace Go.Proofs.YtcdianojchmgpaaDoor

section
variable {P : Program} {md : Region.Mode} {C : World → Prop} {l : List Oper} {o : Oper}

end

section
variable {P : Program} {md : Region.Mode} {ops : Array Oper} {Q : Exit → Act → World → Prop}
theorem count_set : ∀ (l : List Bool) (i : Nat), i < l.length → l.getD i true = false → (l.set i true).countP (!·) + 1 = l.countP (!·)
  | b :: l, 0, _, h => by
    have : b = false := h
    subst this
    simp
  | b :: l, i + 1, hi, h => by
    have := count_set l i (by simpa using hi) (by simpa using h)
    rw [List.set_cons_succ, List.countP_cons, List.countP_cons]
    omega
/-- AN INVARIANT OVER THE MARKS: whatever may come up keeps it; where nothing may come up it gives what is asked. -/
theorem wpAny_inv (J : Array Bool → Act → World → Prop) (hstep : ∀ m a w, m.size = ops.size → J m a w → ∀ i, i ∈ Region.ready md ops m → wpOp P ops Q i (J (m.setIfInBounds i true)) a w)
    (hdone : ∀ m a w, m.size = ops.size → J m a w → Region.ready md ops m = [] → Q .normal a w) :
    ∀ (f : Nat) (m : Array Bool) (a : Act) (w : World), m.size = ops.size → m.toList.countP (!·) ≤ f → J m a w → wpAny P md ops Q f m a w
  | 0, m, a, w, hs, hc, hJ => by
    have hr : Region.ready md ops m = [] := by
      rw [List.eq_nil_iff_forall_not_mem]
      intro i hi
      obtain ⟨h1, x, hx, _⟩ := mem_ready.1 hi
      have hlt : i < m.size := by rw [hs]; exact (Array.getElem?_eq_some_iff.1 hx).1
      have h2 : m.toList.getD i true = false := by simpa [List.getD_eq_getElem?_getD, hlt] using h1
      have := count_set m.toList i (by simpa using hlt) h2
      omega
    exact ⟨hr, hdone m a w hs hJ hr⟩
  | f + 1, m, a, w, hs, hc, hJ => by
    refine ⟨fun hr => hdone m a w hs hJ hr, fun i hi => ?_⟩
    refine wpOp_mono (fun a' w' hJ' => wpAny_inv J hstep hdone f _ a' w' (by simpa using hs) ?_ hJ') (hstep m a w hs hJ i hi)
    obtain ⟨h1, x, hx, _⟩ := mem_ready.1 hi
    have hlt : i < m.size := by rw [hs]; exact (Array.getElem?_eq_some_iff.1 hx).1
    have h2 : m.toList.getD i true = false := by simpa [List.getD_eq_getElem?_getD, hlt] using h1
    have := count_set m.toList i (by simpa using hlt) h2
    rw [Array.toList_setIfInBounds]
    omega
theorem wp_region_inv {id : Nat} {a : Act} {w : World} (hm : P.follows .mixedOrders = true) (J : Array Bool → Act → World → Prop)
    (hstep : ∀ m a w, m.size = ops.size → J m a w → ∀ i, i ∈ Region.ready .any ops m → wpOp P ops Q i (J (m.setIfInBounds i true)) a w)
    (hdone : ∀ m a w, m.size = ops.size → J m a w → Region.ready .any ops m = [] → Q .normal a w) (h0 : J (Array.replicate ops.size false) a { w with drawn := w.drawn + 1 }) : (Code.region id ops true).wp P Q a w := by
  refine wp_region_any hm (wpAny_inv J hstep hdone _ _ _ _ (by simp) ?_ h0)
  have := List.countP_le_length (p := (!·)) (l := (Array.replicate ops.size false).toList)
  simpa using this
end
end Go.Proofs.YtcdianojchmgpaaDoor
namespace Go.Proofs.YtcdianojchmgpaaDoor
open Go.RowKit

/-- What an operation leaves in its slot; whatever comes later keeps it. -/
structure Spec where
  p : Value → World → Prop
  mono : ∀ v w w', p v w → Below w.heap.size w w' → p v w'
def Spec.val (v : Value) : Spec := ⟨fun x _ => x = v, fun _ _ _ h _ => h⟩
def Spec.any : Spec := ⟨fun _ _ => True, fun _ _ _ h _ => h⟩

def Holds (ops : Array Oper) (S : List Spec) (a : Act) (w : World) (j : Nat) : Prop :=
  match ops[j]?, S[j]? with
  | some o, some s => (match o.dst with | some d => s.p (a.eval (.tmp d)) w | none => True)
  | _, _ => True
def isDst (ops : Array Oper) (k : Nat) : Bool := ops.toList.any fun o => o.dst == some k
def waitsFor (o : Oper) (j : Nat) : Bool := o.after.toList.any fun e => Region.binds .any e && e.on == j
/-- The slots are different ones, and within the frame. -/
def dstsOk (ops : Array Oper) (n : Nat) : Bool :=
  (List.range ops.size).all fun i => match (ops[i]?).bind (·.dst) with
    | some d => decide (d < n) && (List.range ops.size).all fun j => decide (i = j) || !((ops[j]?).bind (·.dst) == some d)
    | none => true
/-- The frame on the way: but for the operations' own slots it is the one before. -/
structure Fr (ops : Array Oper) (a0 a : Act) : Prop where
  defers : a.defers = a0.defers
  size : a.tmps.size = a0.tmps.size
  base : ∀ k, isDst ops k = false → a.eval (.tmp k) = a0.eval (.tmp k)
/-- One operation by itself. -/
def StepOK (P : Program) (Q : Exit → Act → World → Prop) (ops : Array Oper) (S : List Spec) (a0 : Act) (w0 : World) (o : Oper) (s : Spec) : Prop :=
  ∀ a w, Below w0.heap.size w0 w → Fr ops a0 a → (∀ j, waitsFor o j = true → Holds ops S a w j) →
    Region.wanted o (yielded ops a.tmps) = true ∧ o.wp P a w (fun a' w' => ∃ v, a' = a.put o.dst v ∧ Below w.heap.size w w' ∧ s.p v w') Q
def StepsOK (P : Program) (Q : Exit → Act → World → Prop) (ops : Array Oper) (S : List Spec) (a0 : Act) (w0 : World) : List Oper → List Spec → Prop
  | o :: os, s :: ss => StepOK P Q ops S a0 w0 o s ∧ StepsOK P Q ops S a0 w0 os ss
  | [], [] => True
  | _, _ => False

section
variable {P : Program} {Q : Exit → Act → World → Prop} {ops : Array Oper} {S : List Spec} {a0 : Act} {w0 : World}
theorem stepsOK_at : ∀ {os : List Oper} {ss : List Spec}, StepsOK P Q ops S a0 w0 os ss → ∀ (i : Nat) (o : Oper), os[i]? = some o → ∃ s, ss[i]? = some s ∧ StepOK P Q ops S a0 w0 o s
  | o :: os, s :: ss, h, 0, _, rfl => ⟨s, rfl, h.1⟩
  | o :: os, s :: ss, h, i + 1, o', ho => stepsOK_at h.2 i o' ho
  | [], _, _, i, _, ho => by simp at ho
theorem eval_put_same {a : Act} {d : Nat} {v : Value} (h : d < a.tmps.size) : (a.put (some d) v).eval (.tmp d) = v := by
  simp [Act.put, Act.eval, h]
theorem eval_put_other {a : Act} {d : Option Tmp} {k : Nat} {v : Value} (h : d ≠ some k) : (a.put d v).eval (.tmp k) = a.eval (.tmp k) := by
  cases d with
  | none => rfl
  | some d =>
    have hne : d ≠ k := fun e => h (by rw [e])
    simp [Act.put, Act.eval, Array.getElem?_setIfInBounds_ne hne]
theorem dsts_lt {n : Nat} (h : dstsOk ops n = true) {i : Nat} {o : Oper} {d : Nat} (ho : ops[i]? = some o) (hd : o.dst = some d) : d < n ∧ ∀ j o', ops[j]? = some o' → j ≠ i → o'.dst ≠ some d := by
  have hi : i < ops.size := (Array.getElem?_eq_some_iff.1 ho).1
  have h1 := List.all_eq_true.1 h i (List.mem_range.2 hi)
  rw [ho] at h1
  simp only [Option.bind_some, hd, Bool.and_eq_true, decide_eq_true_eq] at h1
  refine ⟨h1.1, fun j o' ho' hji hd' => ?_⟩
  have hj : j < ops.size := (Array.getElem?_eq_some_iff.1 ho').1
  have h2 := List.all_eq_true.1 h1.2 j (List.mem_range.2 hj)
  rw [ho'] at h2
  simp [hd'] at h2
  exact hji h2.symm
theorem holds_mono {a : Act} {w w' : World} {j : Nat} (h : Holds ops S a w j) (hb : Below w.heap.size w w') : Holds ops S a w' j := by
  unfold Holds at *
  split
  · rename_i o s ho hs
    rw [ho, hs] at h
    cases hd : o.dst with
    | none => trivial
    | some d => simp only [hd] at h; exact s.mono _ _ _ h hb
  · trivial
theorem wp_region_local {id : Nat} (S : List Spec) (hm : P.follows .mixedOrders = true) (hB : (List.range ops.size).all (fun i => match ops[i]? with | some x => x.after.all (fun e => decide (e.on < i)) | none => true) = true)
    (hd : dstsOk ops a0.tmps.size = true) (h : StepsOK P Q ops S a0 w0 ops.toList S)
    (hQ : ∀ a w, Below w0.heap.size w0 w → Fr ops a0 a → (∀ j, j < ops.size → Holds ops S a w j) → Q .normal a w) : (Code.region id ops true).wp P Q a0 w0 := by
  refine wp_region_inv hm (fun m a w => Below w0.heap.size w0 w ∧ Fr ops a0 a ∧ ∀ j, m.getD j false = true → Holds ops S a w j) ?_ ?_ ?_
  · rintro m a w hs ⟨hb, hf, hh⟩ i hi
    obtain ⟨h1, o, ho, hall⟩ := mem_ready.1 hi
    have hil : i < ops.size := (Array.getElem?_eq_some_iff.1 ho).1
    obtain ⟨s, hsi, hstep⟩ := stepsOK_at h i o (by simpa using ho)
    obtain ⟨hw, hwp⟩ := hstep a w hb hf fun j hj => by
      obtain ⟨e, he, h2⟩ := List.any_eq_true.1 hj
      simp only [Bool.and_eq_true, beq_iff_eq] at h2
      obtain ⟨h3, rfl⟩ := h2
      exact hh _ (hall e (Array.mem_toList_iff.1 he) h3)
    unfold wpOp
    simp only [ho]
    rw [if_pos hw]
    refine .inl (Oper.wp_mono ?_ hwp)
    rintro a' w' ⟨v, rfl, hb', hsp⟩
    refine ⟨hb.trans (hb'.mono hb.size), ⟨?_, ?_, fun k hk => ?_⟩, fun j hj => ?_⟩
    · have := hf.defers
      cases o.dst <;> simpa [Act.put] using this
    · have := hf.size
      cases o.dst <;> simpa [Act.put] using this
    · rw [eval_put_other, hf.base k hk]
      intro hk2
      have : isDst ops k = true := by
        unfold isDst
        exact List.any_eq_true.2 ⟨o, Array.mem_toList_iff.2 (Array.mem_of_getElem? ho), by rw [hk2]; simp⟩
      rw [hk] at this; cases this
    · by_cases hji : j = i
      · subst hji
        unfold Holds
        simp only [ho, hsi]
        cases hdo : o.dst with
        | none => trivial
        | some d =>
          show s.p ((a.put (some d) v).eval (.tmp d)) w'
          rw [eval_put_same]
          · exact hsp
          · rw [hf.size]; exact (dsts_lt hd ho hdo).1
      · have hj' : m.getD j false = true := by rw [getD_set_ne false (fun e => hji e.symm)] at hj; exact hj
        have h5 := holds_mono (hh j hj') hb'
        unfold Holds at *
        cases hoj : ops[j]? with
        | none => simp
        | some o' =>
          cases hsj : S[j]? with
          | none => simp
          | some s' =>
            simp only [hoj, hsj] at h5 ⊢
            cases hdo : o'.dst with
            | none => trivial
            | some d =>
              simp only [hdo] at h5 ⊢
              show s'.p ((a.put o.dst v).eval (.tmp d)) w'
              rw [eval_put_other]
              · exact h5
              · intro e
                exact (dsts_lt hd ho e).2 j o' hoj hji hdo
  · rintro m a w hs ⟨hb, hf, hh⟩ hr
    refine hQ a w hb hf fun j hj => hh j ?_
    induction j using Nat.strongRecOn with
    | _ j ih =>
      cases hmj : m.getD j false with
      | true => rfl
      | false =>
        exfalso
        have hoj : ops[j]? = some ops[j] := Array.getElem?_eq_getElem hj
        have hbk := List.all_eq_true.1 hB j (List.mem_range.2 hj)
        rw [hoj] at hbk
        simp only [Array.all_eq_true_iff_forall_mem, decide_eq_true_eq] at hbk
        have : j ∈ Region.ready .any ops m := mem_ready.2 ⟨by
          have hs' : j < m.size := by rw [hs]; exact hj
          simp [hs'] at hmj ⊢; exact hmj, ops[j], hoj, fun e he _ => ih _ (hbk e he) (by have := hbk e he; omega)⟩
        rw [hr] at this; cases this
  · refine ⟨(Below.refl _ _).drew, ⟨rfl, rfl, fun _ _ => rfl⟩, fun j hj => ?_⟩
    exfalso
    simp only [Array.getD_eq_getD_getElem?, Array.getElem?_replicate] at hj
    split at hj <;> simp at hj
end

section
variable {P : Program} {Q : Exit → Act → World → Prop} {ops : Array Oper} {S : List Spec} {a : Act} {w : World} {o : Oper} {s : Spec}
theorem wanted_none (h : o.guard = none) : Region.wanted o (yielded ops a.tmps) = true := by unfold Region.wanted; rw [h]
theorem wanted_true {j d : Nat} (h : o.guard = some (j, true)) (hd : (ops[j]?).bind (·.dst) = some d) (hv : a.eval (.tmp d) = .bool true) : Region.wanted o (yielded ops a.tmps) = true := by
  have e : a.tmps[d]? = some (.bool true) := by
    unfold Act.eval at hv
    simp only [Array.getD_eq_getD_getElem?] at hv
    cases hq : a.tmps[d]? with
    | none => rw [hq] at hv; cases hv
    | some x => rw [hq] at hv; simp at hv; rw [hv]
  unfold Region.wanted yielded
  rw [h]
  simp [hd, e]
theorem loc_run {v : Value} {w' : World} (h : (execOp a.eval o).run P w = .ok (.value v) w') (hb : Below w.heap.size w w') (hs : s.p v w') : o.wp P a w (fun a' w' => ∃ v, a' = a.put o.dst v ∧ Below w.heap.size w w' ∧ s.p v w') Q := by
  unfold Oper.wp
  rw [h]
  exact ⟨v, rfl, hb, hs⟩
theorem loc_move {x : Operand} (ho : o.op = .move x) (hs : s.p (a.eval x) w) : o.wp P a w (fun a' w' => ∃ v, a' = a.put o.dst v ∧ Below w.heap.size w w' ∧ s.p v w') Q :=
  loc_run (by unfold execOp; rw [ho]; rfl) (Below.refl _ _) hs
theorem loc_assign {x : Operand} (ho : o.op = .assign x) (hs : s.p (a.eval x) w) : o.wp P a w (fun a' w' => ∃ v, a' = a.put o.dst v ∧ Below w.heap.size w w' ∧ s.p v w') Q :=
  loc_run (by unfold execOp; rw [ho]; rfl) (Below.refl _ _) hs
theorem loc_pick {c x y : Operand} (ho : o.op = .pick c x y) (hc : a.eval c = .bool true) (hs : s.p (a.eval x) w) : o.wp P a w (fun a' w' => ∃ v, a' = a.put o.dst v ∧ Below w.heap.size w w' ∧ s.p v w') Q :=
  loc_run (by unfold execOp; rw [ho]; simp only [hc]; rfl) (Below.refl _ _) hs
theorem loc_convert {x : Operand} {t1 t2 : TypeId} (ho : o.op = .convert t1 t2 x) {v : Value} (h : (convert t1 t2 (a.eval x)).run P w = .ok v w) (hs : s.p v w) : o.wp P a w (fun a' w' => ∃ v, a' = a.put o.dst v ∧ Below w.heap.size w w' ∧ s.p v w') Q :=
  loc_run (v := v) (by unfold execOp; rw [ho]; simp only [Sem.run_bind, h, Result.andThen_ok, Sem.run_pure]) (Below.refl _ _) hs
theorem loc_load {x : Operand} {t : TypeId} (ho : o.op = .load t x) {v : Value} (h : (Instr.loadAt t (a.eval x)).run P w = .ok v w) (hs : s.p v w) : o.wp P a w (fun a' w' => ∃ v, a' = a.put o.dst v ∧ Below w.heap.size w w' ∧ s.p v w') Q :=
  loc_run (v := v) (by unfold execOp; rw [ho]; simp only [Sem.run_bind, h, Result.andThen_ok, Sem.run_pure]) (Below.refl _ _) hs
theorem loc_call {f : FuncId} {args : List Operand} {ts : Array TypeId} (ho : o.op = .call { callee := .value (.func f), args := args.toArray, argTypes := ts })
    (hf : (P.funcs[f]?).map (fun fn => fn.name != "runtime.NumGoroutine" && fn.body.isSome) = some true) (h : Calls P f (args.map a.eval).toArray w fun e w' => ∃ v, e = .returned v ∧ Below w.heap.size w w' ∧ s.p v w') : o.wp P a w (fun a' w' => ∃ v, a' = a.put o.dst v ∧ Below w.heap.size w w' ∧ s.p v w') Q := by
  have hrun : (execOp a.eval o).run P w = .ok (.enter f (args.map a.eval).toArray) w := by
    unfold execOp; rw [ho]
    cases hfn : P.funcs[f]? with
    | none => rw [hfn] at hf; cases hf
    | some fn =>
      rw [hfn] at hf
      simp only [Option.map_some, Option.some.injEq, Bool.and_eq_true, bne_iff_ne, ne_eq] at hf
      have hb : fn.body ≠ none := fun e => by rw [e] at hf; exact absurd hf.2 (by simp)
      simp [resolve, Deferred.ofValue, invoke, callFunc, show a.eval (.func f) = .func (.func f) #[] #[] from rfl, hfn, hf.1, hb]
  unfold Oper.wp
  rw [hrun, Oper.upon_enter]
  refine h.mono ?_
  rintro e w' ⟨v, rfl, hb, hs⟩
  exact ⟨v, rfl, hb, hs⟩
end
section
variable {P : Program} {ops : Array Oper} {Q : Exit → Act → World → Prop} {a : Act} {w : World} {rest : List Oper}
theorem local_ret {fn : Func} {R : Ending → World → Prop} {t : Tmp} {v : Value} (h : fn.results = #[.tmp t]) (hd : a.defers = []) (hv : a.eval (.tmp t) = v) (hR : R (.returned v) w) : bodyPost P fn R .ret a w :=
  bodyPost_ret (results_tmp h _ _ _) hd (by rw [show a.tmps.getD t undef = v from hv]; exact hR)
end
end Go.Proofs.YtcdianojchmgpaaDoor
namespace Go.Proofs.YtcdianojchmgpaaDoor
open Go.ChangeShapes Go.WideShapes Go.ChangeAt Go.RowKit

theorem IsBytes.keep {w w' : World} {a : Option Addr} {l : List UInt8} {cap : Nat} (h : IsBytes w a l cap) (hb : Below w.heap.size w w') : IsBytes w' a l cap := by
  rcases h with h | ⟨x, h1, h2, h3, h4⟩
  · exact .inl h
  · exact .inr ⟨x, h1, h2, h3, fun j hj => below_cell hb (h4 j hj)⟩

section
variable {ops : Array Oper} {rest : List Oper} {o : Oper} {act : Act} {Q : Exit → Act → World → Prop}
end

end Go.Proofs.YtcdianojchmgpaaDoor
namespace Go.Proofs.YtcdianojchmgpaaDoor
open Go.RowKit

def BytesV (w : World) (v : Value) (l : List UInt8) : Prop := ∃ a c, v = .slice a l.length c ∧ IsBytes w a l c
theorem BytesV.keep {w w' : World} {v : Value} {l : List UInt8} (h : BytesV w v l) (hb : Below w.heap.size w w') : BytesV w' v l := by
  obtain ⟨a, c, h1, h2⟩ := h
  exact ⟨a, c, h1, h2.keep hb⟩
def Spec.bytes (l : List UInt8) : Spec := ⟨fun v w => BytesV w v l, fun _ _ _ h hb => h.keep hb⟩

section
variable {Q : Exit → Act → World → Prop} {a : Act} {w : World} {o : Oper} {s : Spec}
theorem loc_eql_str {x y : Operand} {t : TypeId} (ho : o.op = .binOp .eql 9 x y t) {b : ByteArray} (hx : a.eval x = .string b) (hy : a.eval y = .string b) (hs : s.p (.bool true) w) :
    o.wp Tryd.prog a w (fun a' w' => ∃ v, a' = a.put o.dst v ∧ Below w.heap.size w w' ∧ s.p v w') Q :=
  loc_run (v := .bool true) (by
    unfold execOp
    simp [ho, hx, hy, eqGuard, binOp, Op.stringOp]) (Below.refl _ _) hs
theorem loc_eql_int {x y : Operand} {t : TypeId} (ho : o.op = .binOp .eql 3 x y t) {n : Int} (hx : a.eval x = .int .i64 n) (hy : a.eval y = .int .i64 n) (hs : s.p (.bool true) w) :
    o.wp Tryd.prog a w (fun a' w' => ∃ v, a' = a.put o.dst v ∧ Below w.heap.size w w' ∧ s.p v w') Q :=
  loc_run (v := .bool true) (by
    unfold execOp
    simp [ho, hx, hy, eqGuard, binOp, Op.intCmp]) (Below.refl _ _) hs
theorem loc_string {x : Operand} (ho : o.op = .convert 26 9 x) {l : List UInt8} (h : BytesV w (a.eval x) l) (hs : s.p (.string ⟨l.toArray⟩) w) :
    o.wp Tryd.prog a w (fun a' w' => ∃ v, a' = a.put o.dst v ∧ Below w.heap.size w w' ∧ s.p v w') Q := by
  obtain ⟨ad, c, h1, h2⟩ := h
  refine loc_convert ho ?_ hs
  rw [h1]
  exact conv_bytes h2
end
end Go.Proofs.YtcdianojchmgpaaDoor
namespace Go.Proofs.YtcdianojchmgpaaDoor
open Go.RowKit

/-- .. with what stays known of the value alone. -/
structure SpecQ extends Spec where
  q : Value → Prop
  weak : ∀ v w, p v w → q v
def SpecQ.val (v : Value) : SpecQ := ⟨.val v, fun x => x = v, fun _ _ h => h⟩
def SpecQ.of (s : Spec) : SpecQ := ⟨s, fun _ => True, fun _ _ _ => trivial⟩

def specAt (S : List (Option SpecQ)) : List Spec := S.map fun | some s => s.toSpec | none => .any
def HoldsW (ops : Array Oper) (S : List (Option SpecQ)) (a : Act) (j : Nat) : Prop :=
  match ops[j]?, S[j]? with
  | some o, some (some s) => (match o.dst with | some d => s.q (a.eval (.tmp d)) | none => True)
  | _, _ => True
/-- One operation that may come behind the store: it sees values alone. -/
def StepW (P : Program) (Q : Exit → Act → World → Prop) (ops : Array Oper) (S : List (Option SpecQ)) (a0 : Act) (o : Oper) (s : SpecQ) : Prop :=
  ∀ a w, Fr ops a0 a → (∀ j, waitsFor o j = true → HoldsW ops S a j) →
    Region.wanted o (yielded ops a.tmps) = true ∧ o.wp P a w (fun a' w' => w' = w ∧ ∃ v, a' = a.put o.dst v ∧ s.q v) Q
def StepsS (P : Program) (Q : Exit → Act → World → Prop) (ops : Array Oper) (S : List (Option SpecQ)) (a0 : Act) (w0 : World) : List Oper → List (Option SpecQ) → Prop
  | o :: os, some s :: ss => StepOK P Q ops (specAt S) a0 w0 o s.toSpec ∧ StepsS P Q ops S a0 w0 os ss
  | _ :: os, none :: ss => StepsS P Q ops S a0 w0 os ss
  | [], [] => True
  | _, _ => False
def LateOK (P : Program) (Q : Exit → Act → World → Prop) (ops : Array Oper) (S : List (Option SpecQ)) (a0 : Act) : List Nat → Prop
  | i :: r => (match ops[i]?, S[i]? with | some o, some (some s) => StepW P Q ops S a0 o s | _, _ => True) ∧ LateOK P Q ops S a0 r
  | [] => True
/-- Whatever is not among the late ones is waited for by the store. -/
def lateB (ops : Array Oper) (st : Nat) (late : List Nat) : Bool :=
  (List.range ops.size).all fun i => decide (i = st) || late.contains i || (match ops[st]? with | some o => waitsFor o i | none => false)
def StoreOK (P : Program) (Q : Exit → Act → World → Prop) (ops : Array Oper) (S : List (Option SpecQ)) (a0 : Act) (w0 : World) (st : Nat) (Post : World → Prop) : Prop :=
  match ops[st]? with
  | some o => o.dst = none ∧ ∀ a w, Below w0.heap.size w0 w → Fr ops a0 a → (∀ j, waitsFor o j = true → Holds ops (specAt S) a w j) → Region.wanted o (yielded ops a.tmps) = true ∧ o.wp P a w (fun a' w' => a' = a ∧ Post w') Q
  | none => False

section
variable {P : Program} {Q : Exit → Act → World → Prop} {ops : Array Oper} {S : List (Option SpecQ)} {a0 : Act} {w0 : World}
theorem stepsS_at : ∀ {os : List Oper} {ss : List (Option SpecQ)}, StepsS P Q ops S a0 w0 os ss → ∀ (i : Nat) (o : Oper), os[i]? = some o → ∃ s, ss[i]? = some s ∧ ∀ s', s = some s' → StepOK P Q ops (specAt S) a0 w0 o s'.toSpec
  | o :: os, some s :: ss, h, 0, _, rfl => ⟨some s, rfl, fun s' e => by obtain rfl := Option.some.inj e; exact h.1⟩
  | o :: os, some s :: ss, h, i + 1, o', ho => stepsS_at (os := os) (ss := ss) h.2 i o' ho
  | o :: os, none :: ss, h, 0, _, rfl => ⟨none, rfl, fun s' e => by cases e⟩
  | o :: os, none :: ss, h, i + 1, o', ho => stepsS_at (os := os) (ss := ss) h i o' ho
  | [], _, _, i, _, ho => by simp at ho
theorem lateOK_at : ∀ {late : List Nat}, LateOK P Q ops S a0 late → ∀ i, i ∈ late → ∀ o s, ops[i]? = some o → S[i]? = some (some s) → StepW P Q ops S a0 o s
  | k :: r, h, i, hi, o, s, ho, hs => by
    rcases List.mem_cons.1 hi with rfl | hi
    · have := h.1; simp only [ho, hs] at this; exact this
    · exact lateOK_at h.2 i hi o s ho hs
theorem specAt_get {j : Nat} {s : SpecQ} (h : S[j]? = some (some s)) : (specAt S)[j]? = some s.toSpec := by unfold specAt; rw [List.getElem?_map, h]; rfl
theorem holds_weak {a : Act} {w : World} {j : Nat} (h : Holds ops (specAt S) a w j) : HoldsW ops S a j := by
  unfold HoldsW
  split
  · rename_i o s ho hs
    unfold Holds at h
    rw [ho, specAt_get hs] at h
    cases hd : o.dst with
    | none => trivial
    | some d => simp only [hd] at h; exact s.weak _ _ h
  · trivial
theorem fr_put {a : Act} {o : Oper} {i : Nat} (ho : ops[i]? = some o) (hf : Fr ops a0 a) (v : Value) : Fr ops a0 (a.put o.dst v) := by
  refine ⟨?_, ?_, fun k hk => ?_⟩
  · have := hf.defers
    cases o.dst <;> simpa [Act.put] using this
  · have := hf.size
    cases o.dst <;> simpa [Act.put] using this
  · rw [eval_put_other, hf.base k hk]
    intro hk2
    have : isDst ops k = true := by
      unfold isDst
      exact List.any_eq_true.2 ⟨o, Array.mem_toList_iff.2 (Array.mem_of_getElem? ho), by rw [hk2]; simp⟩
    rw [hk] at this; cases this
theorem holds_put {a : Act} {o : Oper} {i j : Nat} {w : World} {T : List Spec} (hd : dstsOk ops a0.tmps.size = true) (ho : ops[i]? = some o) (hji : j ≠ i) {v : Value} (h : Holds ops T a w j) : Holds ops T (a.put o.dst v) w j := by
  unfold Holds at *
  cases hoj : ops[j]? with
  | none => simp
  | some o' =>
    cases hsj : T[j]? with
    | none => simp
    | some s' =>
      simp only [hoj, hsj] at h ⊢
      cases hdo : o'.dst with
      | none => trivial
      | some d =>
        simp only [hdo] at h ⊢
        show s'.p ((a.put o.dst v).eval (.tmp d)) w
        rw [eval_put_other]
        · exact h
        · intro e
          exact (dsts_lt hd ho e).2 j o' hoj hji hdo
theorem holdsW_put {a : Act} {o : Oper} {i j : Nat} (hd : dstsOk ops a0.tmps.size = true) (ho : ops[i]? = some o) (hji : j ≠ i) {v : Value} (h : HoldsW ops S a j) : HoldsW ops S (a.put o.dst v) j := by
  unfold HoldsW at *
  cases hoj : ops[j]? with
  | none => simp
  | some o' =>
    cases hsj : S[j]? with
    | none => simp
    | some s' =>
      cases s' with
      | none => simp
      | some s' =>
        simp only [hoj, hsj] at h ⊢
        cases hdo : o'.dst with
        | none => trivial
        | some d =>
          simp only [hdo] at h ⊢
          show s'.q ((a.put o.dst v).eval (.tmp d))
          rw [eval_put_other]
          · exact h
          · intro e
            exact (dsts_lt hd ho e).2 j o' hoj hji hdo
theorem wp_region_store {id : Nat} (S : List (Option SpecQ)) (st : Nat) (late : List Nat) (Post : World → Prop) (hm : P.follows .mixedOrders = true)
    (hB : (List.range ops.size).all (fun i => match ops[i]? with | some x => x.after.all (fun e => !Region.binds .any e || decide (e.on < i)) | none => true) = true)
    (hd : dstsOk ops a0.tmps.size = true) (hl : lateB ops st late = true) (hst : S[st]? = some none) (hlen : S.length = ops.size) (hone : (List.range S.length).all (fun i => decide (i = st) || (match S[i]? with | some (some _) => true | _ => false)) = true)
    (h : StepsS P Q ops S a0 w0 ops.toList S) (hL : LateOK P Q ops S a0 late) (hS : StoreOK P Q ops S a0 w0 st Post)
    (hQ : ∀ a w, Post w → Fr ops a0 a → (∀ j, j < ops.size → HoldsW ops S a j) → Q .normal a w) : (Code.region id ops true).wp P Q a0 w0 := by
  have hstlt : st < ops.size := by rw [← hlen]; exact (List.getElem?_eq_some_iff.1 hst).1
  have hosto : ops[st]? = some ops[st] := Array.getElem?_eq_getElem hstlt
  unfold StoreOK at hS
  rw [hosto] at hS
  simp only at hS
  refine wp_region_inv hm (fun m a w => Fr ops a0 a ∧ ((m.getD st false = false ∧ Below w0.heap.size w0 w ∧ ∀ j, m.getD j false = true → Holds ops (specAt S) a w j) ∨
    (m.getD st false = true ∧ Post w ∧ (∀ j, m.getD j false = true → HoldsW ops S a j) ∧ ∀ j, waitsFor ops[st] j = true → m.getD j false = true))) ?_ ?_ ?_
  · rintro m a w hs ⟨hf, hh⟩ i hi
    obtain ⟨h1, o, ho, hall⟩ := mem_ready.1 hi
    have hil : i < ops.size := (Array.getElem?_eq_some_iff.1 ho).1
    have hmi : m.getD i false = false := by
      have hs' : i < m.size := by rw [hs]; exact hil
      simp [hs'] at h1 ⊢; exact h1
    have hdeps : ∀ j, waitsFor o j = true → m.getD j false = true := fun j hj => by
      obtain ⟨e, he, h2⟩ := List.any_eq_true.1 hj
      simp only [Bool.and_eq_true, beq_iff_eq] at h2
      obtain ⟨h3, rfl⟩ := h2
      exact hall e (Array.mem_toList_iff.1 he) h3
    unfold wpOp
    simp only [ho]
    by_cases hist : i = st
    · subst hist
      have hoe : o = ops[i] := Option.some.inj (ho.symm.trans hosto)
      subst hoe
      rcases hh with ⟨_, hb, hh⟩ | ⟨h2, _⟩
      · obtain ⟨hdn, hS⟩ := hS
        obtain ⟨hw, hwp⟩ := hS a w hb hf fun j hj => hh j (hdeps j hj)
        rw [if_pos hw]
        refine .inl (Oper.wp_mono ?_ hwp)
        rintro a' w' ⟨rfl, hp⟩
        have hsz : i < m.size := by rw [hs]; exact hil
        refine ⟨hf, .inr ⟨by simp [hsz], hp, fun j hj => ?_, fun j hj => getD_set_true (hdeps j hj)⟩⟩
        by_cases hji : j = i
        · subst hji
          unfold HoldsW
          rw [hosto, hst]; trivial
        · rw [getD_set_ne false (fun e => hji e.symm)] at hj
          exact holds_weak (hh j hj)
      · rw [hmi] at h2; cases h2
    · have hsi : ∃ s, S[i]? = some (some s) := by
        have := List.all_eq_true.1 hone i (List.mem_range.2 (by rw [hlen]; exact hil))
        cases hq : S[i]? with
        | none => rw [hq] at this; simp [hist] at this
        | some x =>
          cases x with
          | none => rw [hq] at this; simp [hist] at this
          | some s => exact ⟨s, rfl⟩
      obtain ⟨s, hsi⟩ := hsi
      rcases hh with ⟨h2, hb, hh⟩ | ⟨h2, hp, hh, hall2⟩
      · obtain ⟨s', hs', hstep⟩ := stepsS_at h i o (by simpa using ho)
        obtain rfl : s' = some s := Option.some.inj (hs'.symm.trans hsi)
        obtain ⟨hw, hwp⟩ := hstep s rfl a w hb hf fun j hj => hh j (hdeps j hj)
        rw [if_pos hw]
        refine .inl (Oper.wp_mono ?_ hwp)
        rintro a' w' ⟨v, rfl, hb', hsp⟩
        refine ⟨fr_put ho hf v, .inl ⟨by rw [getD_set_ne false hist]; exact h2, hb.trans (hb'.mono hb.size), fun j hj => ?_⟩⟩
        by_cases hji : j = i
        · subst hji
          unfold Holds
          simp only [ho, specAt_get hsi]
          cases hdo : o.dst with
          | none => trivial
          | some d =>
            show s.p ((a.put (some d) v).eval (.tmp d)) w'
            rw [eval_put_same]
            · exact hsp
            · rw [hf.size]; exact (dsts_lt hd ho hdo).1
        · have hj' : m.getD j false = true := by rw [getD_set_ne false (fun e => hji e.symm)] at hj; exact hj
          exact holds_put hd ho hji (holds_mono (hh j hj') hb')
      · have hlate : i ∈ late := by
          have := List.all_eq_true.1 hl i (List.mem_range.2 hil)
          rw [hosto] at this
          simp only [Bool.or_eq_true, decide_eq_true_eq, List.contains_iff_mem] at this
          rcases this with (h3 | h3) | h3
          · exact absurd h3 hist
          · exact h3
          · have := hall2 i h3; rw [hmi] at this; cases this
        obtain ⟨hw, hwp⟩ := lateOK_at hL i hlate o s ho hsi a w hf fun j hj => hh j (hdeps j hj)
        rw [if_pos hw]
        refine .inl (Oper.wp_mono ?_ hwp)
        rintro a' w' ⟨rfl, v, rfl, hq⟩
        refine ⟨fr_put ho hf v, .inr ⟨getD_set_true h2, hp, fun j hj => ?_, fun j hj => getD_set_true (hall2 j hj)⟩⟩
        by_cases hji : j = i
        · subst hji
          unfold HoldsW
          simp only [ho, hsi]
          cases hdo : o.dst with
          | none => trivial
          | some d =>
            show s.q ((a.put (some d) v).eval (.tmp d))
            rw [eval_put_same]
            · exact hq
            · rw [hf.size]; exact (dsts_lt hd ho hdo).1
        · have hj' : m.getD j false = true := by rw [getD_set_ne false (fun e => hji e.symm)] at hj; exact hj
          exact holdsW_put hd ho hji (hh j hj')
  · rintro m a w hs ⟨hf, hh⟩ hr
    have hmarked : ∀ j, j < ops.size → m.getD j false = true := fun j => by
      induction j using Nat.strongRecOn with
      | _ j ih =>
        intro hj
        cases hmj : m.getD j false with
        | true => rfl
        | false =>
          exfalso
          have hoj : ops[j]? = some ops[j] := Array.getElem?_eq_getElem hj
          have hbk := List.all_eq_true.1 hB j (List.mem_range.2 hj)
          rw [hoj] at hbk
          simp only [Array.all_eq_true_iff_forall_mem, Bool.or_eq_true, Bool.not_eq_true', decide_eq_true_eq] at hbk
          have hlt : ∀ e ∈ ops[j].after, Region.binds .any e = true → e.on < j := fun e he hbd => by
            rcases hbk e he with h | h
            · rw [hbd] at h; cases h
            · exact h
          have : j ∈ Region.ready .any ops m := mem_ready.2 ⟨by
            have hs' : j < m.size := by rw [hs]; exact hj
            simp [hs'] at hmj ⊢; exact hmj, ops[j], hoj, fun e he hbd => ih _ (hlt e he hbd) (by have := hlt e he hbd; omega)⟩
          rw [hr] at this; cases this
    rcases hh with ⟨h2, _⟩ | ⟨_, hp, hh, _⟩
    · rw [hmarked st hstlt] at h2; cases h2
    · exact hQ a w hp hf fun j hj => hh j (hmarked j hj)
  · refine ⟨⟨rfl, rfl, fun _ _ => rfl⟩, .inl ⟨?_, (Below.refl _ _).drew, fun j hj => ?_⟩⟩
    · simp only [Array.getD_eq_getD_getElem?, Array.getElem?_replicate]; split <;> rfl
    · exfalso
      simp only [Array.getD_eq_getD_getElem?, Array.getElem?_replicate] at hj
      split at hj <;> simp at hj
end

section
variable {P : Program} {Q : Exit → Act → World → Prop} {ops : Array Oper} {a : Act} {w : World} {o : Oper} {s : SpecQ}
theorem late_run {v : Value} (h : (execOp a.eval o).run P w = .ok (.value v) w) (hs : s.q v) : o.wp P a w (fun a' w' => w' = w ∧ ∃ v, a' = a.put o.dst v ∧ s.q v) Q := by
  unfold Oper.wp
  rw [h]
  exact ⟨rfl, v, rfl, hs⟩
theorem late_assign {x : Operand} (ho : o.op = .assign x) (hs : s.q (a.eval x)) : o.wp P a w (fun a' w' => w' = w ∧ ∃ v, a' = a.put o.dst v ∧ s.q v) Q :=
  late_run (by unfold execOp; rw [ho]; rfl) hs
end
end Go.Proofs.YtcdianojchmgpaaDoor
namespace Go.Proofs.YtcdianojchmgpaaDoor

/-- A fact that no tactic looks into (Hid is a definition, which some unfold). -/
structure Box (p : Prop) : Prop where
  out : p
/-- Four bytes as a word, the first one the greatest. -/
def w4 (l : List UInt8) : UInt32 := l.foldl (fun x c => (x <<< 8) ||| c.toUInt32) 0
end Go.Proofs.YtcdianojchmgpaaDoor
namespace Go.Proofs.YtcdianojchmgpaaDoor
open Go.RowKit

theorem below_oneF (w : World) (o : Obj) : Below w.heap.size w (w.alloc o) := (Below.refl _ _).alloc (Nat.le_refl _) _
/-- Whether a field is valid. -/
def fldB (n v : ByteArray) : Bool := tokS n && valS v
theorem fldB_tok {n v : ByteArray} (h : tokS n = false) : fldB n v = false := by unfold fldB; rw [h]; rfl
theorem fldB_val {n v : ByteArray} (h : tokS n = true) : fldB n v = valS v := by unfold fldB; rw [h]; rfl

set_option maxHeartbeats 1000000 in
theorem hdrValid_any (n v : ByteArray) (w : World) (hn : n.size ≤ maxLen) (hv : v.size ≤ maxLen) :
    Calls Tryd.prog 32 #[.agg #[.string n, .string v]] w fun e w' => e = .returned (.bool (fldB n v)) ∧ Below w.heap.size w w' := by
  go_enter Tryd.func32, Tryd.ntmps32
  by_cases ht : tokS n = true
  · have HT := Box.mk ht
    go_wp2_with fail
    refine (token_any n _ hn).mono ?_
    rintro e w1 ⟨rfl, rfl⟩
    go_wp2_with fail
    refine (value_any v _ hv).mono ?_
    rintro e w1 ⟨rfl, hb⟩
    clear ht
    go_wp2_with fail
    go_ret
    exact ⟨ret_bool (fldB_val HT.out).symm, below_trans (below_oneF _ _) hb⟩
  · have ht' : tokS n = false := by simpa using ht
    have HT := Box.mk ht'
    clear ht
    go_wp2_with fail
    refine (token_any n _ hn).mono ?_
    rintro e w1 ⟨rfl, rfl⟩
    go_wp2_with fail
    go_ret
    exact ⟨ret_bool (fldB_tok HT.out).symm, below_oneF _ _⟩

set_option maxHeartbeats 1000000 in
theorem hdrLine_any (n v : ByteArray) (w : World) (hn : n.size ≤ 1000000000) (hv : v.size ≤ 1000000000) :
    Calls Tryd.prog 34 #[.agg #[.string n, .string v]] w fun e w' => e = .returned (.string (n ++ ⟨#[58, 32]⟩ ++ v ++ ⟨#[13, 10]⟩)) ∧ Below w.heap.size w w' := by
  have h1 : (n ++ ⟨#[58, 32]⟩).size = n.size + 2 := by rw [ByteArray.size_append]; rfl
  have h2 : (n ++ ⟨#[58, 32]⟩ ++ v).size = n.size + 2 + v.size := by rw [ByteArray.size_append, h1]
  go_enter Tryd.func34, Tryd.ntmps34
  go_wp2_with fail
  go_ret
  exact ⟨rfl, below_oneF _ _⟩
end Go.Proofs.YtcdianojchmgpaaDoor
namespace Go.Proofs.YtcdianojchmgpaaDoor
open Go.RowKit
open Go.Maps (Keyed string_keyed)

theorem keyedF : Keyed Tryd.prog 9 := string_keyed Tryd.underlying9
theorem zeroBF (w : World) : (zeroValue 4).run Tryd.prog w = .ok (.bool false) w := by kernel_rfl
/-- Whether a string is among these. -/
def inS (s : ByteArray) (S : List ByteArray) : Bool := S.any fun x => x.toList == s.toList
/-- Block b is a map of at most n entries, which has just the strings S, all with true. -/
def SetIn (w : World) (b n : Nat) (S : List ByteArray) : Prop :=
  ∃ D : DataW Unit, w.ownsMap Tryd.prog 9 (plainElem Tryd.prog 4) b n D ∧ ∀ s : ByteArray, D.atKey (.string s.data.toList) (.lit (.bool false)) = .lit (.bool (inS s S))
theorem SetIn.keep {w w' : World} {b n : Nat} {S : List ByteArray} (h : SetIn w b n S) (hb : Below w.heap.size w w') : SetIn w' b n S := by
  obtain ⟨D, h1, h2⟩ := h
  have hlt := h1.lt
  obtain ⟨es, clock, hbk, F, hs, hD⟩ := h1
  exact ⟨D, ⟨es, clock, by rw [hb.block b hlt]; exact hbk, F, hs, hD⟩, h2⟩
theorem SetIn.lt {w : World} {b n : Nat} {S : List ByteArray} (h : SetIn w b n S) : b < w.heap.size := by
  obtain ⟨D, h1, _⟩ := h; exact h1.lt
theorem SetIn.made (w : World) : SetIn (w.alloc (.map #[] 0)) w.heap.size 0 [] :=
  ⟨.map [], World.ownsMap_made _ _ _ _, fun s => by simp [DataW.atKey, inS]⟩

section
variable {ops : Array Oper} {rest : List Oper} {o : Oper} {act : Act} {Q : Exit → Act → World → Prop}
set_option maxRecDepth 100000 in
theorem SetIn.run {w : World} {b n : Nat} {S : List ByteArray} (h : SetIn w b n S) (s : ByteArray) (hs : s.size ≤ maxLen) :
    (Instr.lookup 61 (.map (some b)) (.string s) false).run Tryd.prog w = .ok (.bool (inS s S)) w := by
  obtain ⟨D, h1, h2⟩ := h
  obtain ⟨v, ps, hrun, hv⟩ := h1.lookup (t := 61) (e := 4) keyedF Tryd.underlying61 (zeroBF w) (plainElem_bool Tryd.underlying4 false) (key := .string s) (kl := .string s.data.toList) (WideMaps.keyOf_string_mk Tryd.underlying9 hs)
  rw [h2 s] at hv
  have : v = .bool (inS s S) := by
    unfold plainElem at hv
    rw [Tryd.underlying4] at hv
    generalize inS s S = r at *
    cases v <;> simp at hv
    rw [hv.1]
  rw [hrun, this]
theorem wpList_update_set (w : World) (hg : o.guard = none) (m x : Operand) (hop : o.op = Op.mapUpdate 61 m x (.const (.bool true))) {b n : Nat} {S : List ByteArray} {s : ByteArray}
    (hm : act.eval m = .map (some b)) (hS : SetIn w b n S) (hn : n < maxLen) (hx : act.eval x = .string s) (hs : s.size ≤ maxLen)
    (hK : ∀ w', SetIn w' b (n + 1) (S ++ [s]) → w.grownBy w' (some b) → wpList Tryd.prog ops Q rest (act.put o.dst undef) w') : wpList Tryd.prog ops Q (o :: rest) act w := by
  obtain ⟨D, h1, h2⟩ := hS
  refine wpList_mapUpdate_own w hg m x (.const (.bool true)) 61 hop 9 4 keyedF Tryd.underlying61 _ b n D hm h1 hn (.string s) (.bool true) (.string s.data.toList) hx rfl (WideMaps.keyOf_string_mk Tryd.underlying9 hs)
    (.lit (.bool true)) [] (plainElem_bool Tryd.underlying4 true) ?_
  intro w' h3 h4
  refine hK w' ⟨_, h3, fun s' => ?_⟩ h4
  by_cases he : s' = s
  · subst he
    rw [Maps.atKey_put_same (h1.isMap) (show WideAt.IsKeyLit (.string s'.data.toList) from trivial)]
    simp [inS]
  · rw [Maps.atKey_put_other (fun e => he (ba_ext (by injection e)))]
    rw [h2 s']
    have : (s.toList == s'.toList) = false := by rw [toList_eq]; simp; exact fun e => he e.symm
    simp [inS, this]
end

theorem lowS_sizeF (s : ByteArray) : (lowS s).size = s.size := by
  show (lowS s).data.size = s.data.size
  simp [lowS]
def RetSet (w : World) (S : List ByteArray) (e : Ending) (w' : World) : Prop :=
  ∃ b n, e = .returned (.map (some b)) ∧ SetIn w' b n S ∧ Below w.heap.size w w'

set_option maxRecDepth 100000 in
set_option maxHeartbeats 1000000 in
theorem setOf_any (l : List ByteArray) (a : Option Addr) (cap : Nat) (w : World) (h : StrsIn w a l) (hz : ∀ s ∈ l, s.size ≤ maxLen) (hl : l.length ≤ 140737488355328) :
    Calls Tryd.prog 30 #[.slice a l.length cap] w (RetSet w (l.map lowS)) := by
  have H0 := Box.mk h
  have HZ := Box.mk hz
  clear h hz
  have hmm := @run_makeMap Tryd.prog
  go_enter Tryd.func30, Tryd.ntmps30
  go_wp2_with fail
  obtain ⟨W, hW⟩ : ∃ W, W = w.alloc (.map #[] 0) := ⟨_, rfl⟩
  have HS := Box.mk (SetIn.made w)
  have HB := Box.mk (below_oneF w (.map #[] 0))
  rw [← hW] at HS HB ⊢
  clear hW
  generalize hb : w.heap.size = b at HS ⊢
  have HBS := Box.mk hb
  clear hb
  go_loopw [9] (fun iv wr => ∃ k : Nat, k ≤ l.length ∧ iv = .int .i64 k ∧ Box (SetIn wr b k ((l.take k).map lowS) ∧ Below w.heap.size w wr)) (fun iv _ => l.length - (intOf iv).toNat)
  case atStart => exact ⟨0, Nat.zero_le _, rfl, ⟨by simpa using HS.out, HB.out⟩⟩
  case round =>
    clear HS HB
    obtain ⟨k, hk, rfl, HM⟩ := hrel
    by_cases hlt : k < l.length
    · obtain ⟨x, rfl, hx⟩ := (H0.out.keep HM.out.2) k hlt
      have HT := Box.mk (show (l.take (k + 1)).map lowS = (l.take k).map lowS ++ [lowS l[k]] by rw [List.take_succ_eq_append_getElem hlt, List.map_append]; rfl)
      have HSZ := Box.mk (HZ.out _ (List.getElem_mem hlt))
      generalize l[k] = s at *
      go_wp2_with fail
      refine (lower_any s _ HSZ.out).mono ?_
      rintro e w1 ⟨rfl, hb1⟩
      have HS1 := Box.mk (HM.out.1.keep hb1)
      have HB1 := Box.mk (below_trans HM.out.2 hb1)
      have HLZ := Box.mk (show (lowS s).size ≤ maxLen by rw [lowS_sizeF]; exact HSZ.out)
      clear hb1
      go_wp2_with (at_mapUpdate; refine wpList_update_set _ rfl _ _ rfl rfl HS1.out (by unfold maxLen; omega) rfl HLZ.out ?c1)
      case c1 =>
        intro w2 hs2 hg2
        have HM2 := Box.mk (show SetIn w2 b (k + 1) ((l.take (k + 1)).map lowS) ∧ Below w.heap.size w w2 from ⟨by rw [HT.out, List.map_take]; exact hs2, HB1.out.grown hg2 HB1.out.size (fun j hj => by injection hj with hj; have := HBS.out; omega)⟩)
        clear hs2 hg2 HS1 HB1 HT
        go_wp2_with fail
        go_roundw
        case rel => exact ⟨k + 1, by omega, by go_num, HM2⟩
        case measure => simp [intOf]; omega
    · have HE := Box.mk (show SetIn wr b k (l.map lowS) by have := HM.out.1; rw [List.take_of_length_le (by omega)] at this; exact this)
      go_wp2_with fail
      go_ret
      exact ⟨b, k, rfl, HE.out, HM.out.2⟩

set_option maxHeartbeats 1000000 in
theorem hdrIn_any (n v : ByteArray) (b m : Nat) (S : List ByteArray) (w : World) (h : SetIn w b m S) (hn : n.size ≤ maxLen) :
    Calls Tryd.prog 31 #[.agg #[.string n, .string v], .map (some b)] w fun e w' => e = .returned (.bool (inS (lowS n) S)) ∧ Below w.heap.size w w' := by
  have H0 := Box.mk (h.keep (below_oneF w (.cells #[.string n, .string v] 64)))
  clear h
  go_enter Tryd.func31, Tryd.ntmps31
  go_wp2_with fail
  refine (lower_any n _ hn).mono ?_
  rintro e w1 ⟨rfl, hb⟩
  have hrun := (H0.out.keep hb).run (lowS n) (by rw [lowS_sizeF]; exact hn)
  have HB := Box.mk (below_trans (below_oneF w (.cells #[.string n, .string v] 64)) hb)
  clear hb
  generalize hr : inS (lowS n) S = r at *
  have HR := Box.mk hr
  clear hr
  go_wp2_with fail
  go_ret
  exact ⟨ret_bool HR.out.symm, HB.out⟩
end Go.Proofs.YtcdianojchmgpaaDoor
namespace Go.Proofs.YtcdianojchmgpaaDoor
open Go.ChangeShapes Go.WideShapes Go.ChangeAt Go.RowKit

abbrev Fld := ByteArray × ByteArray
/-- The cells of fields. -/
def cellsF (l : List Fld) : List Value := l.flatMap fun f => [.string f.1, .string f.2]
theorem cellsF_len (l : List Fld) : (cellsF l).length = l.length * 2 := by
  induction l with
  | nil => rfl
  | cons a t ih =>
    have : cellsF (a :: t) = .string a.1 :: .string a.2 :: cellsF t := rfl
    rw [this]; simp only [List.length_cons, ih]; omega
theorem cellsF_app (a b : List Fld) : cellsF (a ++ b) = cellsF a ++ cellsF b := by unfold cellsF; rw [List.flatMap_append]
theorem cellsF_get : ∀ (l : List Fld) (j : Nat) (hj : j < l.length), (cellsF l)[j * 2]? = some (.string l[j].1) ∧ (cellsF l)[j * 2 + 1]? = some (.string l[j].2)
  | a :: t, 0, _ => ⟨rfl, rfl⟩
  | a :: t, j + 1, hj => by
    have ih := cellsF_get t j (by simpa using hj)
    have e : cellsF (a :: t) = .string a.1 :: .string a.2 :: cellsF t := rfl
    rw [e, show (j + 1) * 2 = j * 2 + 1 + 1 by omega, show j * 2 + 1 + 1 + 1 = (j * 2 + 1) + 1 + 1 by omega]
    simpa using ih
theorem cell_next {w : World} {x : Addr} {i : Nat} {v : Value} (h : w.cell? (x.add (i + 1)) = some v) : w.cell? ⟨(x.add i).block, (x.add i).off + 1, none⟩ = some v := by
  rw [← Go.Deep.add_add] at h
  rw [← h]; rfl
/-- The slice at a holds the fields l. -/
def FldsIn (w : World) (a : Option Addr) (l : List Fld) : Prop :=
  ∀ j (hj : j < l.length), ∃ x, a = some x ∧ w.cell? (x.add (j * 2)) = some (.string l[j].1) ∧ w.cell? (x.add (j * 2 + 1)) = some (.string l[j].2)
theorem FldsIn.keep {w w' : World} {a : Option Addr} {l : List Fld} (h : FldsIn w a l) (hb : Below w.heap.size w w') : FldsIn w' a l := fun j hj => by
  obtain ⟨x, e, h1, h2⟩ := h j hj
  exact ⟨x, e, below_cell hb h1, below_cell hb h2⟩
theorem FldsIn.nil (w : World) (a : Option Addr) : FldsIn w a [] := fun _ hj => absurd hj (Nat.not_lt_zero _)
theorem FldsIn.take {w : World} {a : Option Addr} {l : List Fld} (h : FldsIn w a l) (k : Nat) : FldsIn w a (l.take k) := fun j hj => by
  have hj' : j < l.length := by rw [List.length_take] at hj; omega
  obtain ⟨x, e, h1, h2⟩ := h j hj'
  exact ⟨x, e, by rw [List.getElem_take]; exact h1, by rw [List.getElem_take]; exact h2⟩
theorem FldsIn.cells {w : World} {x : Addr} {l : List Fld} (h : FldsIn w (some x) l) : ∀ j u, (cellsF l)[j]? = some u → w.cell? (x.add j) = some u := fun j u hj => by
  have hlt : j < l.length * 2 := by rw [← cellsF_len]; exact (List.getElem?_eq_some_iff.1 hj).1
  have hk : j / 2 < l.length := by omega
  obtain ⟨y, e, h1, h2⟩ := h (j / 2) hk
  obtain rfl := Option.some.inj e
  obtain ⟨g1, g2⟩ := cellsF_get l (j / 2) hk
  rcases Nat.mod_two_eq_zero_or_one j with hm | hm
  · have : j / 2 * 2 = j := by omega
    rw [this] at h1 g1
    rw [hj] at g1; rw [h1, ← g1]
  · have : j / 2 * 2 + 1 = j := by omega
    rw [this] at h2 g2
    rw [hj] at g2; rw [h2, ← g2]
theorem FldsIn.of_cells {w : World} {x : Addr} {l : List Fld} (h : ∀ j u, (cellsF l)[j]? = some u → w.cell? (x.add j) = some u) : FldsIn w (some x) l := fun j hj =>
  ⟨x, rfl, h _ _ (cellsF_get l j hj).1, h _ _ (cellsF_get l j hj).2⟩

theorem run_loadF (w : World) (p : Addr) (n v : ByteArray) (h0 : w.cell? p = some (.string n)) (h1 : w.cell? (p.add 1) = some (.string v)) :
    (Instr.loadAt 24 (.pointer (some p))).run Tryd.prog w = .ok (.agg #[.string n, .string v]) w := by
  have hl : (loadCells p 2).run Tryd.prog w = .ok #[.string n, .string v] w :=
    run_loadCells_list (P := Tryd.prog) w p [.string n, .string v] (fun j u hj => by
      match j, hj with
      | 0, hj => simp at hj; subst hj; rw [show p.add 0 = p by unfold Addr.add; split <;> simp_all]; exact h0
      | 1, hj => simp at hj; subst hj; exact h1
      | j + 2, hj => simp at hj)
  have hagg : (isAgg 24).run Tryd.prog w = .ok true w := by
    unfold isAgg
    rw [Sem.run_bind, run_underlying Tryd.underlying24 w]; rfl
  have hs : ((Tryd.prog.info? 24).map (·.size)) = some 2 := by kernel_rfl
  cases hq : Tryd.prog.info? 24 with
  | none => rw [hq] at hs; cases hs
  | some i =>
    have hs' : i.size = 2 := by rw [hq] at hs; simpa using hs
    simp [Instr.loadAt, Instr.sureAddr, loadVar, Sem.run_bind, hagg, sizeOf, typeInfo, hq, hs', hl]
theorem FldsIn.load {w : World} {x : Addr} {l : List Fld} (h : FldsIn w (some x) l) {j : Nat} (hj : j < l.length) :
    (Instr.loadAt 24 (.pointer (some (x.add (j * 2))))).run Tryd.prog w = .ok (.agg #[.string l[j].1, .string l[j].2]) w := by
  obtain ⟨y, e, h1, h2⟩ := h j hj
  obtain rfl := Option.some.inj e
  exact run_loadF w _ _ _ h1 (by rw [Go.Deep.add_add]; exact h2)

theorem Tryd.info24 : (Tryd.prog.info? 24).map (fun i => (i.zero, i.size, i.bytes)) = some (some (.agg #[.string ⟨#[]⟩, .string ⟨#[]⟩]), 2, 32) := by kernel_rfl
/-- v is a slice of the call's own with the fields l; what was there before the call is as it was. -/
def AccF (w0 w : World) (v : Value) (l : List Fld) : Prop :=
  w.ownsRow w0.heap.size 24 2 v l.length (cellsF l) ∧ Below w0.heap.size w0 w
theorem AccF.start (w : World) : AccF w w (.slice none 0 0) [] := ⟨World.ownsRow_nil _ _ _ _, Below.refl _ _⟩
theorem AccF.size {w0 w : World} {v : Value} {l : List Fld} (h : AccF w0 w v l) : w0.heap.size ≤ w.heap.size := h.2.size
theorem AccF.keep {w0 w w' : World} {v : Value} {l : List Fld} (h : AccF w0 w v l) (hb : Below w.heap.size w w') : AccF w0 w' v l :=
  ⟨ownsRow_keep h.1 hb, h.2.trans (hb.mono h.2.size)⟩
theorem AccF.shape {w0 w : World} {v : Value} {l : List Fld} (h : AccF w0 w v l) : ∃ a cap, v = .slice a l.length cap ∧ FldsIn w a l := by
  obtain ⟨⟨h1, h2⟩, _⟩ := h
  rcases h2 with ⟨rfl, h2⟩ | ⟨g, cap, cur, rfl, hg, hc, hcap, hm, hsz, ht⟩
  · have : l = [] := List.eq_nil_of_length_eq_zero h2
    subst this
    exact ⟨none, 0, rfl, FldsIn.nil _ _⟩
  · refine ⟨_, cap, rfl, FldsIn.of_cells fun j u hj => ?_⟩
    have e := congrArg (fun x => x[j]?) ht
    have hlt : j < l.length * 2 := by rw [← cellsF_len]; exact (List.getElem?_eq_some_iff.1 hj).1
    rw [hj, List.getElem?_take_of_lt hlt] at e
    rw [Addr.add_lit]
    simp only [World.cell?, hc, Nat.zero_add]
    simpa using e

section
variable {ops : Array Oper} {rest : List Oper} {o : Oper} {act : Act} {Q : Exit → Act → World → Prop}
/-- APPEND of one field to a slice of the call's own. -/
theorem wpList_append_accf (w : World) (hgd : o.guard = none) (s x : Operand) (ho : o.op = .call { callee := .builtin .append, args := #[s, x], argTypes := #[25, 25] })
    {w0 : World} {v : Value} {l : List Fld} (hs : act.eval s = v) (h : AccF w0 w v l) {b c : Nat} (hx : act.eval x = .slice (some ⟨b, 0, none⟩) 1 c) {y : Fld} (hy : w.cell? ⟨b, 0, none⟩ = some (.string y.1)) (hy2 : w.cell? ⟨b, 1, none⟩ = some (.string y.2))
    (hn : l.length + 1 ≤ 4398046511104)
    (K : ∀ g cap w', AccF w0 w' (.slice (some ⟨g, 0, none⟩) (l.length + 1) cap) (l ++ [y]) →
      wpList Tryd.prog ops Q rest (act.put o.dst (.slice (some ⟨g, 0, none⟩) (l.length + 1) cap)) w') : wpList Tryd.prog ops Q (o :: rest) act w := by
  obtain ⟨i0, hi, hz0, hz1, hz2⟩ := info_parts Tryd.info24
  refine wpList_append_lies w hgd s x 25 ho w0.heap.size 24 i0 _ 2 32 Tryd.underlying25 hi hz0 hz1 hz2 rfl (by decide) v l.length (cellsF l) hs h.1 ⟨b, 0, none⟩ 1 c [.string y.1, .string y.2] hx rfl ?_ ?_ (by decide) (by unfold maxLen; omega) (by omega) h.2.size w.heap.size rfl ?_
  · intro j u hj
    match j, hj with
    | 0, hj => simp at hj; subst hj; rw [Addr.add_lit]; exact hy
    | 1, hj => simp at hj; subst hj; rw [Addr.add_lit]; exact hy2
    | j + 2, hj => simp at hj
  · intro u hu; simp at hu; rcases hu with rfl | rfl <;> rfl
  · intro g cap w' hown hgrow hg hlt
    refine K g cap w' ⟨?_, h.2.grown hgrow h.2.size fun k hk => ?_⟩
    · rw [List.length_append, cellsF_app]; exact hown
    · exact (World.ownsRow.lt h.1 k hk).1
end

/-- Strings that a program may hold. -/
def ShortF (l : List Fld) : Prop := ∀ f ∈ l, f.1.size ≤ maxLen ∧ f.2.size ≤ maxLen
theorem ShortF.take {l : List Fld} (h : ShortF l) (k : Nat) : ShortF (l.take k) := fun f hf => h f (List.mem_of_mem_take hf)
end Go.Proofs.YtcdianojchmgpaaDoor
namespace Go.Proofs.YtcdianojchmgpaaDoor
open Go.RowKit

def valuesL (l : List Fld) (n : ByteArray) : List ByteArray := (l.filter fun f => foldS f.1 n).map (·.2)
theorem valuesL_yes (l : List Fld) (n : ByteArray) (k : Nat) (h : k < l.length) (hf : foldS l[k].1 n = true) : valuesL (l.take (k + 1)) n = valuesL (l.take k) n ++ [l[k].2] := by
  unfold valuesL
  rw [List.take_succ_eq_append_getElem h, List.filter_append, List.map_append]; simp [hf]
theorem valuesL_no (l : List Fld) (n : ByteArray) (k : Nat) (h : k < l.length) (hf : foldS l[k].1 n = false) : valuesL (l.take (k + 1)) n = valuesL (l.take k) n := by
  unfold valuesL
  rw [List.take_succ_eq_append_getElem h, List.filter_append, List.map_append]; simp [hf]
theorem valuesL_len (l : List Fld) (n : ByteArray) : (valuesL l n).length ≤ l.length := by
  unfold valuesL; rw [List.length_map]; exact List.length_filter_le _ _
def inFoldL (l : List ByteArray) (s : ByteArray) : Bool := l.any fun x => foldS x s
end Go.Proofs.YtcdianojchmgpaaDoor
namespace Go.Proofs.YtcdianojchmgpaaDoor
open Go.RowKit

theorem inS_map (s : ByteArray) (ns : List ByteArray) : inS (lowS s) (ns.map lowS) = inFoldL ns s := by
  unfold inS inFoldL foldS
  rw [List.any_map]; rfl
theorem inS_one (s n : ByteArray) : inS (lowS s) ([n].map lowS) = foldS s n := by
  rw [inS_map]
  unfold inFoldL foldS
  simp only [List.any_cons, List.any_nil, Bool.or_false]
  exact Bool.beq_comm
theorem new_cellF (w : World) (cs : Array Value) (t : TypeId) (j : Nat) : (w.alloc (.cells cs t (0, 0))).cell? ⟨w.heap.size, j, none⟩ = cs[j]? :=
  cell_of_row _ _ _ _ _ _ (heap_alloc_new w (.cells cs t (0, 0)))
theorem strsIn_one (w : World) (n : ByteArray) (t : TypeId) : StrsIn (w.alloc (.cells #[.string n] t)) (some ⟨w.heap.size, 0, none⟩) [n] := fun j hj => by
  obtain rfl : j = 0 := by simpa using hj
  exact ⟨_, rfl, by rw [Addr.add_lit, new_cellF]; rfl⟩
theorem below_twoF {w w1 : World} (h : Below w.heap.size w w1) (o : Obj) : Below w.heap.size w (w1.alloc o) := below_trans h (below_oneF w1 o)

theorem SetIn.grown {w w' : World} {b n : Nat} {S : List ByteArray} {row : Option Nat} (h : SetIn w b n S) (hg : w.grownBy w' row) (hne : row ≠ some b) : SetIn w' b n S := by
  obtain ⟨D, h1, h2⟩ := h
  exact ⟨D, h1.kept hg (fun e => hne e.symm), h2⟩
section
variable {ops : Array Oper} {rest : List Oper} {o : Oper} {act : Act} {Q : Exit → Act → World → Prop}
/-- APPEND of one string beside a set. -/
theorem wpList_append_accset (w : World) (hgd : o.guard = none) (s x : Operand) (ho : o.op = .call { callee := .builtin .append, args := #[s, x], argTypes := #[45, 45] })
    {w0 : World} {v : Value} {l : List ByteArray} (hs : act.eval s = v) (h : Acc w0 w v l) {b c : Nat} (hx : act.eval x = .slice (some ⟨b, 0, none⟩) 1 c) {y : ByteArray} (hy : w.cell? ⟨b, 0, none⟩ = some (.string y))
    {q m : Nat} {S : List ByteArray} (hS : SetIn w q m S) (hne : v.ownBlock ≠ some q) (hn : l.length + 1 ≤ 8796093022208)
    (K : ∀ v' w', Acc w0 w' v' (l ++ [y]) → SetIn w' q m S → v'.ownBlock ≠ some q → wpList Tryd.prog ops Q rest (act.put o.dst v') w') : wpList Tryd.prog ops Q (o :: rest) act w := by
  obtain ⟨i0, hi, hz0, hz1, hz2⟩ := info_parts Tryd.info9
  refine wpList_append_lies w hgd s x 45 ho w0.heap.size 9 i0 (.string ⟨#[]⟩) 1 16 Tryd.underlying45 hi hz0 hz1 hz2 rfl (by decide) v l.length (l.map Value.string) hs h.1 ⟨b, 0, none⟩ 1 c [.string y] hx rfl ?_ ?_ (by decide) (by unfold maxLen; omega) (by omega) h.2.size w.heap.size rfl ?_
  · intro j u hj
    match j, hj with
    | 0, hj => simp at hj; subst hj; rw [Addr.add_lit]; exact hy
    | j + 1, hj => simp at hj
  · intro u hu; simp at hu; subst hu; rfl
  · intro g cap w' hown hgrow hg hlt
    refine K _ w' ⟨by simpa using hown, h.2.grown hgrow h.2.size fun k hk => (World.ownsRow.lt h.1 k hk).1⟩ (hS.grown hgrow hne) (fun e => ?_)
    have : g = q := by simpa [Value.ownBlock] using e
    subst this
    rcases hg with hg | hg
    · exact hne hg
    · have := hS.lt; omega
end
theorem one_short (n : ByteArray) : ([n] : List ByteArray).length ≤ 140737488355328 := by show 1 ≤ 140737488355328; decide

set_option maxRecDepth 100000 in
set_option maxHeartbeats 2000000 in
theorem fValues_any (l : List Fld) (n : ByteArray) (a : Option Addr) (cap : Nat) (w : World) (h : FldsIn w a l) (hz : ShortF l) (hn : n.size ≤ maxLen) (hl : l.length ≤ 1000000) :
    Calls Tryd.prog 19 #[.slice a l.length cap, .string n] w (RetStrs w (valuesL l n)) := by
  have H0 := Box.mk h
  have HZ := Box.mk hz
  clear h hz
  go_enter Tryd.func19, Tryd.ntmps19
  go_wp2_with fail
  refine (setOf_any [n] _ _ _ (strsIn_one w n _) (by simpa using hn) (one_short n)).mono ?_
  rintro e w1 ⟨b, m, rfl, hS, hb⟩
  have HS := Box.mk hS
  have HB := Box.mk (below_trans (below_oneF w (.cells #[.string n] 9)) hb)
  clear hS hb
  have HA0 := Box.mk (show Acc w w1 (.slice none 0 0) (valuesL (l.take 0) n) from ⟨World.ownsRow_nil _ _ _ _, HB.out⟩)
  go_wp2_with fail
  go_loopw [5, 14] (fun v iv wr => ∃ k : Nat, k ≤ l.length ∧ iv = .int .i64 k ∧ Box (Acc w wr v (valuesL (l.take k) n) ∧ SetIn wr b m ([n].map lowS) ∧ v.ownBlock ≠ some b)) (fun _ iv _ => l.length - (intOf iv).toNat)
  case atStart => exact ⟨0, Nat.zero_le _, rfl, ⟨HA0.out, HS.out, by simp [Value.ownBlock]⟩⟩
  case round =>
    clear HS HB HA0
    obtain ⟨k, hk, rfl, HM⟩ := hrel
    by_cases hlt : k < l.length
    · obtain ⟨x, rfl, hx1, hx2⟩ := (H0.out.keep HM.out.1.2) k hlt
      have hx2 := cell_next hx2
      have HSZ := Box.mk (HZ.out _ (List.getElem_mem hlt))
      have hVL := valuesL_len (l.take k) n
      have hVL2 : (l.take k).length ≤ k := List.length_take_le _ _
      by_cases hf : foldS l[k].1 n = true
      · have HT := Box.mk (valuesL_yes l n k hlt hf)
        have HIN := Box.mk (show inS (lowS l[k].1) ([n].map lowS) = true by rw [inS_one]; exact hf)
        clear hf
        generalize l[k] = f at *
        go_wp2_with fail
        refine (hdrIn_any f.1 f.2 b m _ _ (HM.out.2.1.keep (below_oneF wr (.cells #[.string f.1, .string f.2] 24))) HSZ.out.1).mono ?_
        rintro e w2 ⟨he, hb1⟩
        rw [HIN.out] at he
        subst he
        have hc2 : w2.cell? ⟨wr.heap.size, 1, none⟩ = some (.string f.2) := below_cell hb1 (by rw [new_cellF]; rfl)
        have HB2 := Box.mk (below_trans (below_oneF wr (.cells #[.string f.1, .string f.2] 24)) hb1)
        have HA2 := Box.mk (HM.out.1.keep HB2.out)
        have HS2 := Box.mk (HM.out.2.1.keep HB2.out)
        clear hb1 HIN
        go_wp2_with (at_builtin; refine wpList_append_accset _ rfl _ _ rfl rfl (HA2.out.keep ((Below.refl _ _).alloc (Nat.le_refl _) _)) rfl (y := f.2) ?c1 (HS2.out.keep ((Below.refl _ _).alloc (Nat.le_refl _) _)) HM.out.2.2 ?c2 ?c3)
        case c1 => simp
        case c2 => omega
        case c3 =>
          intro v' w' hacc hs' hne
          have HACC := Box.mk (show Acc w w' v' (valuesL (l.take (k + 1)) n) ∧ SetIn w' b m ([n].map lowS) ∧ v'.ownBlock ≠ some b by rw [HT.out]; exact ⟨hacc, hs', hne⟩)
          clear hacc hs' hne HT HA2 HS2 HB2 HM
          go_wp2_with fail
          go_roundw
          case rel => exact ⟨k + 1, by omega, by go_num, HACC⟩
          case measure => simp [intOf]; omega
      · have hf' : foldS l[k].1 n = false := by simpa using hf
        have HT := Box.mk (valuesL_no l n k hlt hf')
        have HIN := Box.mk (show inS (lowS l[k].1) ([n].map lowS) = false by rw [inS_one]; exact hf')
        clear hf hf'
        generalize l[k] = f at *
        go_wp2_with fail
        refine (hdrIn_any f.1 f.2 b m _ _ (HM.out.2.1.keep (below_oneF wr (.cells #[.string f.1, .string f.2] 24))) HSZ.out.1).mono ?_
        rintro e w2 ⟨he, hb1⟩
        rw [HIN.out] at he
        subst he
        have HB2 := Box.mk (below_trans (below_oneF wr (.cells #[.string f.1, .string f.2] 24)) hb1)
        have HM2 := Box.mk (show Acc w w2 _ (valuesL (l.take (k + 1)) n) ∧ SetIn w2 b m ([n].map lowS) ∧ _ by rw [HT.out]; exact ⟨HM.out.1.keep HB2.out, HM.out.2.1.keep HB2.out, HM.out.2.2⟩)
        clear hb1 HIN HT HB2
        go_wp2_with fail
        go_roundw
        case rel => exact ⟨k + 1, by omega, by go_num, HM2⟩
        case measure => simp [intOf]; omega
    · have HE := Box.mk (show Acc w wr _ (valuesL l n) by have := HM.out.1; rw [List.take_of_length_le (by omega)] at this; exact this)
      go_wp2_with fail
      obtain ⟨a', cap', rfl, hs⟩ := HE.out.shape
      go_ret
      exact ⟨a', cap', rfl, hs, HE.out.2⟩

end Go.Proofs.YtcdianojchmgpaaDoor
namespace Go.Proofs.YtcdianojchmgpaaDoor
open Go.RowKit

theorem StrsIn.at {w : World} {b off : Nat} {l : List ByteArray} (h : StrsIn w (some ⟨b, off, none⟩) l) : StrsAt w (some ⟨b, off, none⟩) l := fun j hj => by
  obtain ⟨x, e, hc⟩ := h j hj
  obtain rfl := Option.some.inj e
  exact ⟨b, off, rfl, by rw [← hc, show (⟨b, off, none⟩ : Addr).add j = ⟨b, off + j, none⟩ by unfold Addr.add; split <;> simp_all]⟩

section
variable (w : World) (m : Int)
end
end Go.Proofs.YtcdianojchmgpaaDoor
namespace Go.Proofs.YtcdianojchmgpaaDoor
open Go.RowKit

/-- The slice with its capacity: where it is nil, it is nil altogether. -/
def FldsC (w : World) (a : Option Addr) (l : List Fld) (c : Nat) : Prop := FldsIn w a l ∧ (a = none → l = [] ∧ c = 0)
theorem FldsC.keep {w w' : World} {a : Option Addr} {l : List Fld} {c : Nat} (h : FldsC w a l c) (hb : Below w.heap.size w w') : FldsC w' a l c := ⟨h.1.keep hb, h.2⟩
section
variable {ops : Array Oper} {rest : List Oper} {o : Oper} {act : Act} {Q : Exit → Act → World → Prop}
end

end Go.Proofs.YtcdianojchmgpaaDoor
namespace Go.Proofs.YtcdianojchmgpaaDoor
open Go.RowKit

/-- A Builder of the call's own, in block b, that holds the bytes l. -/
def Bld (w0 w : World) (b : Nat) (l : List UInt8) : Prop := Lib.IsBuilder 68 5 w0.heap.size b (bytesV l) w ∧ Below w0.heap.size w0 w

theorem bld_info : (Tryd.prog.info? 68).isSome = true := by kernel_rfl
theorem bld_conv (w : World) (b : Nat) (hsh : w.shape? b = some (68, 2)) :
    (convert 66 94 (.pointer (some ⟨b, 0, none⟩))).run Tryd.prog w = .ok (.pointer (some ⟨b, 0, none⟩)) w := by
  obtain ⟨j, hj⟩ := Option.isSome_iff_exists.1 bld_info
  refine Lib.run_to_unsafe w ⟨b, 0, none⟩ Tryd.underlying66 Tryd.underlying94 hj ?_ hsh (show 0 < 2 by decide)
  have : (Tryd.prog.info? 68).map (·.size) = some 2 := by kernel_rfl
  rw [hj] at this; simp at this; omega
theorem bld_back (w : World) (b : Nat) (hsh : w.shape? b = some (68, 2)) :
    (convert 94 66 (.pointer (some ⟨b, 0, none⟩))).run Tryd.prog w = .ok (.pointer (some ⟨b, 0, none⟩)) w := by
  obtain ⟨j, hj⟩ := Option.isSome_iff_exists.1 bld_info
  exact Lib.run_from_unsafe w ⟨b, 0, none⟩ Tryd.underlying94 Tryd.underlying66 hj hsh (by kernel_rfl)
theorem bld_same (w : World) (b : Nat) : (binOp .neq 66 (.pointer (some ⟨b, 0, none⟩)) (.pointer (some ⟨b, 0, none⟩))).run Tryd.prog w = .ok (.bool false) w := by
  obtain ⟨j, hj⟩ := Option.isSome_iff_exists.1 bld_info
  exact Lib.run_neq_ptr_same w ⟨b, 0, none⟩ Tryd.underlying66 hj

set_option maxRecDepth 100000 in
set_option maxHeartbeats 1000000 in
theorem copyCheck_any (w0 w : World) (b : Nat) (l : List UInt8) (h : Bld w0 w b l) :
    Calls Tryd.prog 53 #[.pointer (some ⟨b, 0, none⟩)] w fun e w' => e = .returned (.tuple #[]) ∧ Lib.BuilderAt 68 5 w0.heap.size b (.pointer (some ⟨b, 0, none⟩)) (bytesV l) w' ∧ Below w0.heap.size w0 w' := by
  obtain ⟨h1, hB⟩ := h
  rcases h1 with h1 | h1
  · have hc := h1.cell0
    have hf := h1.frozen0
    have HU := Box.mk (h1.used (.pointer (some ⟨b, 0, none⟩)))
    have HB := Box.mk (hB.setCell (p := ⟨b, 0, none⟩) h1.1 (.pointer (some ⟨b, 0, none⟩)))
    have hsh := h1.shape
    clear h1 hB
    go_enter Tryd.func53, Tryd.ntmps53
    have hcv := bld_conv w b hsh
    have hbk := bld_back w b hsh
    have hsm := fun W => bld_same W b
    go_wp2_with fail
    rw [run_callFunc_extern Tryd.func66 (by kernel_rfl) (by kernel_rfl) (by kernel_rfl) (e := Extern.AbiNoEscape.same) (by kernel_rfl), Lib.run_noEscape]
    simp only [Result.andThen]
    rw [Oper.upon_value]
    go_wp2_with fail
    go_end0
    exact ⟨rfl, HU.out, HB.out⟩
  · have hc := h1.cell0
    have hsm := fun W => bld_same W b
    have HU := Box.mk h1
    have HB := Box.mk hB
    clear h1 hB
    go_enter Tryd.func53, Tryd.ntmps53
    go_wp2_with fail
    go_end0
    exact ⟨rfl, HU.out, HB.out⟩

section
variable {ops : Array Oper} {rest : List Oper} {o : Oper} {act : Act} {Q : Exit → Act → World → Prop}
end

theorem bldX : Builder.Extra Tryd.prog Tryd.lays169_ren where -- 35
  sizeBuilder := by kernel_rfl
  liesBuilder := by kernel_rfl
  t5 := Tryd.underlying5
  a5 := Tryd.isAgg5
  z5 := Tryd.sizeOf5
  v5 := Tryd.zeroValue5
  infoByte := Tryd.info5
  cellsByte := by kernel_rfl
  sizeByte := by kernel_rfl
  neB5 := by decide
theorem bld_string (w0 w : World) (b : Nat) (l : List UInt8) (h : Bld w0 w b l) :
    Calls Tryd.prog 35 #[.pointer (some ⟨b, 0, none⟩)] w fun e w' => e = .returned (.string ⟨l.toArray⟩) ∧ Below w0.heap.size w0 w' := by
  refine (Any.Builder_String_any_k Tryd.lays169 bldX w0.heap.size b l w (Lib.IsBuilderF.of h.1) h.2.size).mono ?_
  rintro e w' ⟨he, _, hb, _⟩
  exact ⟨he, h.2.trans hb⟩

end Go.Proofs.YtcdianojchmgpaaDoor
