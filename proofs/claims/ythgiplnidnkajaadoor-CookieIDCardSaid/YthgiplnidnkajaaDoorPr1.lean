/- Contracts of the small functions of package ascii and of its reference: one byte, and loops over the bytes of a string. Contracts of Lower and Fold, of package ascii and of its reference. Plain facts on lists of bytes: trimming from both ends. Slices of strings in memory: one that is read, one that the call appends to, one that is kept beside it. The numbers that the shelf's contracts of Go's library (package strings, package strconv) have in this seat's translation: nothing is claimed here by itself. Contracts of Fold, Value, Trim, of package ascii and of its reference. Plain facts on lists of bytes: cutting at a byte, and the elements of comma-separated lists. Contracts of Same, Split and List, of package ascii and of its reference. Opening arguments: a byte, a slice of bytes. Opening an argument that is a slice of strings. Slices of bytes in memory: one that the call appends to; slices of numbers that are read. A region that draws its order, whose operations all leave the world in a class, but for the last one, which waits for all of them. A region that draws its order, by what each operation leaves: one fact an operation, whatever the order. Appending a slice of bytes that came in to a slice of the call's own; the law HashWrite at open arguments; what the bound on the arguments gives. More of a region's single operations: comparisons, lengths, slices of slices that are built. A region that draws its order and stores once, by what each operation leaves. SHA-256 in plain words, over words of 32 bits; how the arithmetic of the translated code is spelt at them. Fields: Valid of package field and of its reference; a field's line. A set of names in a map: setOf, and whether a field's name is in it. Slices of fields in memory: read, appended to, opened among the arguments. Values, Has and Without, in the reference. Values, Without and Has of package field. Parse of package field: the index of a colon, strings.Cut. The source of numbers of the laws: Within, Next, Of. Split at the question mark, the version of a line, spoil; in the reference and the laws. Words of a line, rune by rune and byte by byte: plain mathematics. Cookies: what Pairs and Find answer (mathematics). strings.Cut at any byte, strings.HasPrefix, strings.CutPrefix; Split and the versions, of package startline. Slices of cookies of the call's own; parse, of package cookie. Pairs of package cookie. fields, name and awake of the laws; Short. The IDs and the field Set-Cookie, of package cookie and of the reference. What the laws' lists of fields are while they are made. -/
import Derived.Test.YthgiplnidnkajaaDoorRows
import Derived.WalkKit
import Derived.WalkSpells
import Derived.WalkLawsBesides
import Derived.BigQuiet
import Derived.Deep.QuietTactic
import Derived.Lib.Bytealg
import Derived.Lib.IndexLaws
import Derived.Lib.Hide
import Derived.Laws.IdiomStrings
import Derived.Lib.SlTrimSet
import Derived.Lib.IndexBytes
import Derived.Lib.Split
import Derived.Deep.AppendLies
import Derived.Shelf.Strings.SlTrimAscii
import Derived.Shelf.Strings.SplitShaped
import Derived.Shelf.LaysM
import Derived.Shelf.Strings.BuilderK
import Derived.Shelf.Strconv.Itoa4
import Derived.Shelf.Strings.Builder2
import Derived.Test.YthgiplnidnkajaaDoorProg
import Derived.Lib.SplitLaws
import Derived.WalkSmall
import Derived.ProofKit
import Derived.OpenShut
import Derived.Lib.Strings
import Derived.SliceStrings
import Derived.Deep.Quiet
import Derived.Tactics
import Derived.KernelRfl
import Derived.Below
import Derived.Laws.Bits64
import Derived.Lib.SlBytesConst
import Derived.Maps.AppendAt
import Derived.Laws.AppendOwnNone
import Derived.Great.BuildSlice
import Derived.Laws.Rows
import Derived.Laws.BitsAllLaws
import Derived.Laws.Shifts
import Derived.Maps.OwnOps
import Derived.Maps.OwnSet
import Derived.Deep.SlicePairs
import Derived.Lib.AppendZerosOnto
import Derived.Lib.AppendStr
import Derived.Laws.CopyOwn
import Derived.OwnWalk
import Derived.Laws.Strings3
import Derived.Laws.Concat
import Derived.Lib.ItoaMem
import Derived.IntWalk
import Derived.Laws.RangeAny
import Derived.Sort.Grow
import Derived.Lib.LaidTab
import Derived.LaidSub
import Derived.Laws.Bits64b
namespace Go.Proofs.YthgiplnidnkajaaDoor
open Go.RowKit
theorem ret_bool {a b : Bool} (h : a = b) : Ending.returned (.bool a) = .returned (.bool b) := by rw [h]
theorem ret_int {k : IntKind} {a b : Int} (h : a = b) : Ending.returned (.int k a) = .returned (.int k b) := by rw [h]
theorem ret_str {a b : ByteArray} (h : a = b) : Ending.returned (.string a) = .returned (.string b) := by rw [h]
def upB (c : Int) : Bool := decide (65 ≤ c) && decide (c ≤ 90)
def digB (c : Int) : Bool := decide (48 ≤ c) && decide (c ≤ 57)
def loB (c : Int) : Bool := decide (97 ≤ c) && decide (c ≤ 122)
def marks : ByteArray := ⟨#[33, 35, 36, 37, 38, 39, 42, 43, 45, 46, 94, 95, 96, 124, 126]⟩
def hasS (s : ByteArray) (c : UInt8) : Bool := s.data.toList.contains c
def tokB (c : UInt8) : Bool := upB c.toNat || loB c.toNat || digB c.toNat || hasS marks c
def tokS (s : ByteArray) : Bool := s.data.toList.all tokB && !s.data.toList.isEmpty
theorem take_snoc (s : ByteArray) (k : Nat) (h : k < s.size) : s.data.toList.take (k + 1) = s.data.toList.take k ++ [s[k]] := by
 rw [List.take_succ_eq_append_getElem (by simpa using h)]; rfl
theorem take_all (s : ByteArray) (k : Nat) (h : k ≤ s.size) (h2 : ¬ k < s.size) : s.data.toList.take k = s.data.toList := by
 rw [List.take_of_length_le]; simp; omega
theorem mem_at (s : ByteArray) (k : Nat) (h : k < s.size) : s[k] ∈ s.data.toList := by
 show s.data[k] ∈ s.data.toList
 simp
theorem toList_isEmpty (s : ByteArray) : s.toList.isEmpty = s.data.isEmpty := by
 rw [ByteArray.toList_eq s]; simp
set_option maxHeartbeats 400000 in
theorem isUpper_any (c : Int) (w : World) (h0 : 0 ≤ c) (h1 : c ≤ 255) :
  Calls Tryd.prog 68 #[.int .u8 c] w fun e w' => e = .returned (.bool (upB c)) ∧ w = w' := by
 go_enter Tryd.func68, Tryd.ntmps68
 go_wp2
 all_goals go_ret
 all_goals exact ⟨ret_bool (by unfold upB; rw [Bool.eq_iff_iff]; simp; omega), rfl⟩
set_option maxHeartbeats 400000 in
theorem digit_any (c : Int) (w : World) (h0 : 0 ≤ c) (h1 : c ≤ 255) :
  Calls Tryd.prog 35 #[.int .u8 c] w fun e w' => e = .returned (.bool (digB c)) ∧ w = w' := by
 go_enter Tryd.func35, Tryd.ntmps35
 go_wp2
 all_goals go_ret
 all_goals exact ⟨ret_bool (by unfold digB; rw [Bool.eq_iff_iff]; simp; omega), rfl⟩
set_option maxRecDepth 100000 in
set_option maxHeartbeats 400000 in
theorem indexByteLite_any (s : ByteArray) (c : UInt8) (w : World) :
  Calls Tryd.prog 49 #[.string s, .int .u8 c.toNat] w fun e w' => e = .returned (.int .i64 (Lib.indexByte s.data.toList c)) ∧ w = w' := by
 go_enter Tryd.func49, Tryd.ntmps49
 go_wp2
 rw [run_callFunc_extern Tryd.func67 (by kernel_rfl) (by kernel_rfl) (by kernel_rfl) (e := Extern.BytealgIndexByte.indexByte) (by kernel_rfl), Lib.run_indexByteString]
 simp only [Result.andThen]
 rw [Oper.upon_value]
 go_wp2
 go_ret
 exact ⟨ret_int (by simp), rfl⟩
set_option maxHeartbeats 400000 in
theorem indexByte_any (s : ByteArray) (c : UInt8) (w : World) :
  Calls Tryd.prog 34 #[.string s, .int .u8 c.toNat] w fun e w' => e = .returned (.int .i64 (Lib.indexByte s.data.toList c)) ∧ w = w' := by
 go_enter Tryd.func34, Tryd.ntmps34
 go_wp2_with (go_at_call 49; refine (indexByteLite_any _ _ _).mono ?_; rintro e w' ⟨rfl, rfl⟩)
 go_ret
 exact ⟨rfl, rfl⟩
theorem indexByte_has (s : ByteArray) (c : UInt8) : decide (0 ≤ Lib.indexByte s.data.toList c) = hasS s c := by
 have hge := Lib.indexByte_ge s.data.toList c
 unfold hasS
 by_cases h : Lib.indexByte s.data.toList c = -1
 · have := Lib.indexByte_none h
   rw [h, Bool.eq_iff_iff]
   simp only [Int.reduceNeg, decide_eq_true_eq, List.contains_iff_mem]
   constructor
   · intro h; omega
   · intro hm; obtain ⟨k, hk⟩ := List.mem_iff_getElem?.1 hm; exact absurd hk (this k)
 · obtain ⟨o, ho⟩ : ∃ o : Nat, Lib.indexByte s.data.toList c = o := ⟨(Lib.indexByte s.data.toList c).toNat, by omega⟩
   have := (Lib.indexByte_some ho).1
   rw [ho, Bool.eq_iff_iff]
   simp only [decide_eq_true_eq, List.contains_iff_mem]
   exact ⟨fun _ => List.mem_of_getElem? this, fun _ => by omega⟩
set_option maxHeartbeats 400000 in
theorem isTokenByte_any (c : UInt8) (w : World) :
  Calls Tryd.prog 58 #[.int .u8 c.toNat] w fun e w' => e = .returned (.bool (tokB c)) ∧ w = w' := by
 have hi := indexByte_has marks c
 have HI := Lib.hid hi
 clear hi
 have b1 : (c.toNat : Int) ≤ 255 := by have := c.toNat_lt; omega
 go_enter Tryd.func58, Tryd.ntmps58
 go_wp2_with (first | (go_at_call 34; refine (indexByte_any marks _ _).mono ?_; rintro e w' ⟨rfl, rfl⟩) | (go_at_call 68; go_in))
 all_goals go_ret
 all_goals exact ⟨ret_bool (by
  unfold tokB
  rw [← HI.out]
  generalize Lib.indexByte marks.data.toList c = n
  rw [Bool.eq_iff_iff]
  simp [upB, loB, digB]
  omega), rfl⟩
theorem tokS_no {s : ByteArray} {k : Nat} (hlt : k < s.size) (hc : tokB s[k] = false) : false = tokS s := by
 unfold tokS
 have : s.data.toList.all tokB = false := by
  rw [Bool.eq_false_iff]; intro h
  have := List.all_eq_true.1 h _ (mem_at s k hlt); rw [hc] at this; cases this
 rw [this]; rfl
set_option maxHeartbeats 400000 in
theorem token_any (s : ByteArray) (w : World) (hs : s.size ≤ maxLen) :
  Calls Tryd.prog 45 #[.string s] w fun e w' => e = .returned (.bool (tokS s)) ∧ w = w' := by
 unfold maxLen at hs
 go_enter Tryd.func45, Tryd.ntmps45
 go_wp2
 go_loop [6] (fun i => ∃ k : Nat, k ≤ s.size ∧ i = .int .i64 k ∧ Hid ((s.data.toList.take k).all tokB = true)) (fun i => s.size - (intOf i).toNat)
 case atStart => exact ⟨0, Nat.zero_le _, rfl, Lib.hid (by simp)⟩
 case round =>
  obtain ⟨k, hk, rfl, HP⟩ := hrel
  by_cases hlt : k < s.size
  · by_cases hc : tokB s[k] = true
    · go_wp2_with (go_at_call 58; refine (isTokenByte_any _ _).mono ?_; rintro e w' ⟨rfl, rfl⟩)
      go_round
      case rel => exact ⟨k + 1, by omega, by go_num, Lib.hid (by rw [take_snoc s k hlt, List.all_append, HP.out]; simpa using hc)⟩
      case measure => simp [intOf]; omega
    · have hc' : tokB s[k] = false := by simpa using hc
      clear hc
      go_wp2_with (go_at_call 58; refine (isTokenByte_any _ _).mono ?_; rintro e w' ⟨rfl, rfl⟩)
      go_ret
      exact ⟨ret_bool (tokS_no hlt hc'), rfl⟩
  · go_wp2
    go_ret
    exact ⟨ret_bool (by have := HP.out; rw [take_all s k hk hlt] at this; unfold tokS; rw [this]; simp [toList_isEmpty]), rfl⟩
def lowB (c : UInt8) : UInt8 := if upB c.toNat then c + 32 else c
def lowS (s : ByteArray) : ByteArray := ⟨(s.data.toList.map lowB).toArray⟩
def foldS (a b : ByteArray) : Bool := (lowS a).toList == (lowS b).toList
def BytesAt (w : World) (B : Nat) (l : List UInt8) : Prop :=
 ∀ j (hj : j < l.length), w.cell? ⟨B, j, none⟩ = some (.int .u8 (l[j].toNat : Int)) ∧ w.frozen? ⟨B, j, none⟩ = false
theorem BytesAt.set {w : World} {B : Nat} {l : List UInt8} (h : BytesAt w B l) {k : Nat} (hk : k < l.length) (c : UInt8) :
  BytesAt (w.setCell ⟨B, k, none⟩ (.int .u8 (c.toNat : Int))) B (l.set k c) := by
 intro j hj
 have hj' : j < l.length := by simpa using hj
 obtain ⟨h1, h2⟩ := h j hj'
 obtain ⟨k1, _⟩ := h k hk
 constructor
 · by_cases e : k = j
   · subst e
     rw [World.cell?_setCell_same _ _ _ k1]; simp
   · rw [World.cell?_setCell_other _ _ _ _ (by intro hh; apply e; cases hh; rfl)]
     rw [h1, List.getElem_set_ne e]
 · rw [← h2]; exact World.frozen?_setCell ..
theorem bytesAt_new (w : World) (s : ByteArray) (cap : Nat) :
  BytesAt (w.alloc (.cells (bytesRow s cap) 5 ((bytesRow s cap).size, (bytesRow s cap).size + 1))).drew w.heap.size s.data.toList := by
 intro j hj
 have hj' : j < s.data.size := by simpa using hj
 constructor
 · show (w.alloc _).cell? _ = _
   rw [World.cell?_alloc_mark, bytesRow_at s _ j hj']; simp
 · show (w.alloc _).frozen? _ = _
   rw [World.frozen?_alloc_mark]
   have : j < (bytesRow s cap).size := by
    have h := bytesRow_at s cap j hj'
    exact (Array.getElem?_eq_some_iff.1 h).1
   simp; omega
def lowRow (s : ByteArray) (k : Nat) : List UInt8 := (s.data.toList.take k).map lowB ++ s.data.toList.drop k
theorem lowRow_length (s : ByteArray) (k : Nat) : (lowRow s k).length = s.size := by
 unfold lowRow
 have : s.data.toList.length = s.size := by simp
 rw [List.length_append, List.length_map, List.length_take, List.length_drop]; omega
theorem lowRow_at (s : ByteArray) (k : Nat) (h : k < s.size) : (lowRow s k)[k]'(by rw [lowRow_length]; exact h) = s[k] := by
 unfold lowRow
 have hl : ((s.data.toList.take k).map lowB).length = k := by simp; omega
 rw [List.getElem_append_right (by omega), List.getElem_drop]
 have e : k + (k - ((s.data.toList.take k).map lowB).length) = k := by omega
 simp only [e]
 show s.data.toList[k] = s.data[k]
 simp
theorem lowRow_set (s : ByteArray) (k : Nat) (h : k < s.size) : lowRow s (k + 1) = (lowRow s k).set k (lowB s[k]) := by
 unfold lowRow
 have hl : ((s.data.toList.take k).map lowB).length = k := by simp; omega
 have hd : s.data.toList.drop k = s[k] :: s.data.toList.drop (k + 1) := by
  rw [List.drop_eq_getElem_cons (by simpa using h)]; rfl
 rw [hd, List.set_append_right _ _ (by omega), hl, Nat.sub_self, List.set_cons_zero, take_snoc s k h]
 simp
theorem lowRow_same (s : ByteArray) (k : Nat) (h : k < s.size) (hb : upB s[k].toNat = false) : lowRow s (k + 1) = lowRow s k := by
 rw [lowRow_set s k h]
 have : lowB s[k] = (lowRow s k)[k]'(by rw [lowRow_length]; exact h) := by rw [lowRow_at s k h]; unfold lowB; rw [hb]; rfl
 rw [this, List.set_getElem_self]
theorem lowRow_zero (s : ByteArray) : lowRow s 0 = s.data.toList := by simp [lowRow]
theorem lowRow_all (s : ByteArray) (k : Nat) (h : k ≤ s.size) (h2 : ¬ k < s.size) : lowRow s k = (s.data.toList.map lowB) := by
 have e : k = s.size := by omega
 unfold lowRow
 rw [take_all s k h h2, List.drop_of_length_le (by simp; omega)]; simp
theorem lowB_val (c : UInt8) (h : upB c.toNat = true) : ((lowB c).toNat : Int) = (c.toNat : Int) - 65 + 97 := by
 unfold lowB; rw [if_pos h]
 unfold upB at h; simp at h
 rw [UInt8.toNat_add]
 have : (32 : UInt8).toNat = 32 := rfl
 omega
set_option maxHeartbeats 400000 in
theorem lower_any (s : ByteArray) (w : World) (hs : s.size ≤ maxLen) :
  Calls Tryd.prog 53 #[.string s] w fun e w' => e = .returned (.string (lowS s)) ∧ Below w.heap.size w w' := by
 unfold maxLen at hs
 have hcv := fun (w : World) (s : ByteArray) => run_bytes_of_string (P := Tryd.prog) w 9 33 5 s Tryd.underlying9 Tryd.underlying33 Tryd.underlying5
 go_enter Tryd.func53, Tryd.ntmps53
 go_wp2
 generalize grownCap w s.size 0 5 = cap
 have hn := Lib.hid (bytesAt_new w s cap)
 go_loopw [10] (fun i wr => ∃ k : Nat, k ≤ s.size ∧ i = .int .i64 k ∧ Hid (BytesAt wr w.heap.size (lowRow s k)) ∧ Below w.heap.size w wr) (fun i _ => s.size - (intOf i).toNat)
 case atStart => exact ⟨0, Nat.zero_le _, rfl, Lib.hid (by rw [lowRow_zero]; exact hn.out), ((Below.refl _ w).alloc (Nat.le_refl _) _).drew⟩
 case round =>
  obtain ⟨k, hk, rfl, HB, hbel⟩ := hrel
  by_cases hlt : k < s.size
  · obtain ⟨c1, c2⟩ := HB.out k (by rw [lowRow_length]; exact hlt)
    rw [lowRow_at s k hlt] at c1
    have b1 : (s[k].toNat : Int) ≤ 255 := by have := s[k].toNat_lt; omega
    by_cases hu : upB s[k].toNat = true
    · have hl := Lib.hid (lowB_val s[k] hu)
      have b2 : 65 ≤ (s[k].toNat : Int) ∧ (s[k].toNat : Int) ≤ 90 := by unfold upB at hu; simpa using hu
      obtain ⟨b3, b4⟩ := b2
      go_wp2_with (go_at_call 68; refine (isUpper_any _ _ (by omega) (by omega)).mono ?_; rintro e w' ⟨rfl, rfl⟩)
      go_roundw
      case rel => exact ⟨k + 1, by omega, by go_num, Lib.hid (by rw [lowRow_set s k hlt]; have := HB.out.set (by rw [lowRow_length]; exact hlt) (lowB s[k]); rw [hl.out] at this; exact this), hbel.setCell (by simp) _⟩
      case measure => simp [intOf]; omega
    · have hu' : upB s[k].toNat = false := by simpa using hu
      clear hu
      go_wp2_with (go_at_call 68; refine (isUpper_any _ _ (by omega) (by omega)).mono ?_; rintro e w' ⟨rfl, rfl⟩)
      go_roundw
      case rel => exact ⟨k + 1, by omega, by go_num, Lib.hid (by rw [lowRow_same s k hlt hu']; exact HB.out), hbel⟩
      case measure => simp [intOf]; omega
  · have hback := run_convert_bytes_back (P := Tryd.prog) wr 33 9 5 ⟨w.heap.size, 0, none⟩ cap (lowRow s k) Tryd.underlying33 Tryd.underlying5 Tryd.underlying9 (fun j hj => by
     rw [Addr.add_lit, Nat.zero_add]; exact (HB.out j hj).1)
    rw [lowRow_length] at hback
    go_wp2
    go_ret
    exact ⟨ret_str (by rw [lowRow_all s k hk hlt]; rfl), hbel⟩
end Go.Proofs.YthgiplnidnkajaaDoor
namespace Go.Proofs.YthgiplnidnkajaaDoor
open Go
def blanks : List UInt8 := [32, 9]
def blankB (c : UInt8) : Bool := blanks.contains c
def rdrop (p : UInt8 → Bool) (l : List UInt8) : List UInt8 := (l.reverse.dropWhile p).reverse
def trimL (l : List UInt8) : List UInt8 := (rdrop blankB l).dropWhile blankB
theorem length_dropWhile (p : UInt8 → Bool) : ∀ l : List UInt8, (l.dropWhile p).length ≤ l.length
 | [] => Nat.le_refl _
 | a :: t => by
  rw [List.dropWhile_cons]; split
  · have := length_dropWhile p t; simp; omega
  · exact Nat.le_refl _
theorem trimL_length (l : List UInt8) : (trimL l).length ≤ l.length := by
 unfold trimL
 have h1 := length_dropWhile blankB (rdrop blankB l)
 have h2 : (rdrop blankB l).length ≤ l.length := by
  unfold rdrop; rw [List.length_reverse]; have := length_dropWhile blankB l.reverse; simpa using this
 omega
def trimBA (s : ByteArray) : ByteArray := ⟨(trimL s.data.toList).toArray⟩
theorem trimBA_size (s : ByteArray) : (trimBA s).size ≤ s.size := by
 have := trimL_length s.data.toList
 have h1 : (trimBA s).size = (trimL s.data.toList).length := by show (trimBA s).data.size = _; simp [trimBA]
 have h2 : s.size = s.data.toList.length := by simp
 omega
theorem ba_ext {a b : ByteArray} (h : a.data.toList = b.data.toList) : a = b := by
 cases a; cases b; simp at h; simp [h]
end Go.Proofs.YthgiplnidnkajaaDoor
namespace Go.Proofs.YthgiplnidnkajaaDoor
open Go.RowKit
theorem lt_cell {w : World} {a : Addr} {v : Value} (h : w.cell? a = some v) : a.block < w.heap.size := by
 rcases Nat.lt_or_ge a.block w.heap.size with h' | h'
 · exact h'
 · simp [World.cell?, Array.getElem?_eq_none h'] at h
theorem below_trans {w w1 w2 : World} (h : Below w.heap.size w w1) (k : Below w1.heap.size w1 w2) : Below w.heap.size w w2 := h.trans (k.mono h.size)
theorem below_cell {w w' : World} (h : Below w.heap.size w w') {a : Addr} {v : Value} (hc : w.cell? a = some v) : w'.cell? a = some v := by
 rw [h.cell (lt_cell hc)]; exact hc
def StrsAt (w : World) (a : Option Addr) (l : List ByteArray) : Prop :=
 ∀ j (hj : j < l.length), ∃ b off, a = some ⟨b, off, none⟩ ∧ w.cell? ⟨b, off + j, none⟩ = some (.string l[j])
theorem StrsAt.keep {w w' : World} {a : Option Addr} {l : List ByteArray} (h : StrsAt w a l) (hb : Below w.heap.size w w') : StrsAt w' a l := fun j hj => by
 obtain ⟨b, off, e, hc⟩ := h j hj
 exact ⟨b, off, e, below_cell hb hc⟩
theorem StrsAt.nil (w : World) (a : Option Addr) : StrsAt w a [] := fun _ hj => absurd hj (Nat.not_lt_zero _)
def RetStrs (w : World) (l : List ByteArray) (e : Ending) (w' : World) : Prop :=
 ∃ a cap, e = .returned (.slice a l.length cap) ∧ StrsAt w' a l ∧ Below w.heap.size w w'
def RetFresh (w : World) (l : List ByteArray) (e : Ending) (w' : World) : Prop :=
 ∃ g cap, e = .returned (.slice (some ⟨g, 0, none⟩) l.length cap) ∧ w.heap.size ≤ g ∧ g < w'.heap.size ∧ StrsAt w' (some ⟨g, 0, none⟩) l ∧ Below w.heap.size w w'
theorem Tryd.info9 : (Tryd.prog.info? 9).map (fun i => (i.zero, i.size, i.bytes)) = some (some (.string ⟨#[]⟩), 1, 16) := by kernel_rfl
def Acc (w0 w : World) (v : Value) (l : List ByteArray) : Prop :=
 w.ownsRow w0.heap.size 9 1 v l.length (l.map Value.string) ∧ Below w0.heap.size w0 w
theorem ownsRow_keep {w w' : World} {base : Nat} {e : TypeId} {size n : Nat} {v : Value} {xs : List Value} (h : w.ownsRow base e size v n xs) (hb : Below w.heap.size w w') : w'.ownsRow base e size v n xs := by
 obtain ⟨h1, h2⟩ := h
 refine ⟨h1, ?_⟩
 rcases h2 with h2 | ⟨g, cap, cur, hv, hg, hc, r⟩
 · exact .inl h2
 · have hlt : g < w.heap.size := by
    rcases Nat.lt_or_ge g w.heap.size with h' | h'
    · exact h'
    · rw [Array.getElem?_eq_none h'] at hc; cases hc
   exact .inr ⟨g, cap, cur, hv, hg, by rw [hb.block g hlt]; exact hc, r⟩
theorem Acc.keep {w0 w w' : World} {v : Value} {l : List ByteArray} (h : Acc w0 w v l) (hb : Below w.heap.size w w') : Acc w0 w' v l :=
 ⟨ownsRow_keep h.1 hb, h.2.trans (hb.mono h.2.size)⟩
theorem Acc.shape {w0 w : World} {v : Value} {l : List ByteArray} (h : Acc w0 w v l) : ∃ a cap, v = .slice a l.length cap ∧ StrsAt w a l := by
 obtain ⟨⟨h1, h2⟩, _⟩ := h
 rcases h2 with ⟨rfl, h2⟩ | ⟨g, cap, cur, rfl, hg, hc, hcap, hm, hsz, ht⟩
 · have : l = [] := List.eq_nil_of_length_eq_zero h2
   subst this
   exact ⟨none, 0, rfl, StrsAt.nil _ _⟩
 · refine ⟨_, cap, rfl, fun j hj => ⟨g, 0, rfl, ?_⟩⟩
   have e : cur.toList[j]? = some (Value.string l[j]) := by
    have := congrArg (fun x => x[j]?) ht
    simp only [Nat.mul_one] at this
    rw [List.getElem?_take_of_lt hj, List.getElem?_map, List.getElem?_eq_getElem hj] at this
    exact this
   simp only [World.cell?, hc, Nat.zero_add]
   simpa using e
section
variable {ops : Array Oper} {rest : List Oper} {o : Oper} {act : Act} {Q : Exit → Act → World → Prop}
end
end Go.Proofs.YthgiplnidnkajaaDoor
namespace Go.Proofs
open Go.Shelf
def Tryd.lays160_ren : Go.Shelf.Ren := ⟨fun | 160 => 46 | 232 => 60 | 231 => 59 | 227 => 61 | 234 => 63 | 233 => 62 | 236 => 65 | 235 => 64 | 228 => 73 | 271 => 75 | 151 => 74 | 197 => 70 | 120 => 81 | 152 => 80 | 260 => 76 | 137 => 34 | 119 => 83 | 224 => 78 | 225 => 77 | 217 => 49 | 266 => 67 | n => n, fun | 9 => 9 | 4 => 4 | 3 => 3 | 5 => 5 | 117 => 84 | 116 => 83 | 0 => 0 | 124 => 87 | 21 => 21 | 105 => 89 | 46 => 92 | 119 => 94 | 139 => 97 | 138 => 96 | n => n, fun | 3 => 1 | 4 => 2 | n => n⟩
theorem Tryd.lays160 : Go.Proofs.Lays.n160 Tryd.prog Tryd.lays160_ren := {
 mixed := by kernel_rfl
 f119 := Tryd.func83.trans (congrArg some (by kernel_rfl))
 f120 := Tryd.func81.trans (congrArg some (by kernel_rfl))
 f137 := Tryd.func34.trans (congrArg some (by kernel_rfl))
 f151 := Tryd.func74.trans (congrArg some (by kernel_rfl))
 f152 := Tryd.func80.trans (congrArg some (by kernel_rfl))
 f160 := Tryd.func46.trans (congrArg some (by kernel_rfl))
 f197 := Tryd.func70.trans (congrArg some (by kernel_rfl))
 f217 := Tryd.func49.trans (congrArg some (by kernel_rfl))
 f224 := Tryd.func78.trans (congrArg some (by kernel_rfl))
 f225 := Tryd.func77.trans (congrArg some (by kernel_rfl))
 f227 := Tryd.func61.trans (congrArg some (by kernel_rfl))
 f228 := Tryd.func73.trans (congrArg some (by kernel_rfl))
 f231 := Tryd.func59.trans (congrArg some (by kernel_rfl))
 f232 := Tryd.func60.trans (congrArg some (by kernel_rfl))
 f233 := Tryd.func62.trans (congrArg some (by kernel_rfl))
 f234 := Tryd.func63.trans (congrArg some (by kernel_rfl))
 f235 := Tryd.func64.trans (congrArg some (by kernel_rfl))
 f236 := Tryd.func65.trans (congrArg some (by kernel_rfl))
 f260 := Tryd.func76.trans (congrArg some (by kernel_rfl))
 f266 := Tryd.func67.trans (congrArg some (by kernel_rfl))
 f271 := Tryd.func75.trans (congrArg some (by kernel_rfl))
 t0 := Tryd.underlying0
 a0 := Tryd.isAgg0
 z0 := Tryd.sizeOf0
 v0 := Tryd.zeroValue0
 t3 := Tryd.underlying3
 a3 := Tryd.isAgg3
 z3 := Tryd.sizeOf3
 v3 := Tryd.zeroValue3
 t4 := Tryd.underlying4
 a4 := Tryd.isAgg4
 z4 := Tryd.sizeOf4
 v4 := Tryd.zeroValue4
 t5 := Tryd.underlying5
 a5 := Tryd.isAgg5
 z5 := Tryd.sizeOf5
 v5 := Tryd.zeroValue5
 t9 := Tryd.underlying9
 a9 := Tryd.isAgg9
 z9 := Tryd.sizeOf9
 v9 := Tryd.zeroValue9
 t21 := Tryd.underlying21
 a21 := Tryd.isAgg21
 z21 := Tryd.sizeOf21
 v21 := Tryd.zeroValue21
 t46 := Tryd.underlying92
 a46 := Tryd.isAgg92
 z46 := Tryd.sizeOf92
 v46 := Tryd.zeroValue92
 t105 := Tryd.underlying89
 a105 := Tryd.isAgg89
 z105 := Tryd.sizeOf89
 v105 := Tryd.zeroValue89
 t116 := Tryd.underlying83
 a116 := Tryd.isAgg83
 z116 := Tryd.sizeOf83
 t117 := Tryd.underlying84
 a117 := Tryd.isAgg84
 z117 := Tryd.sizeOf84
 v117 := Tryd.zeroValue84
 t119 := Tryd.underlying94
 a119 := Tryd.isAgg94
 z119 := Tryd.sizeOf94
 t124 := Tryd.underlying87
 a124 := Tryd.isAgg87
 z124 := Tryd.sizeOf87
 v124 := Tryd.zeroValue87
 t138 := Tryd.underlying96
 a138 := Tryd.isAgg96
 z138 := Tryd.sizeOf96
 v138 := Tryd.zeroValue96
 t139 := Tryd.underlying97
 a139 := Tryd.isAgg97
 z139 := Tryd.sizeOf97
 v139 := Tryd.zeroValue97
 g3 := by kernel_rfl
 g4 := by kernel_rfl }
def Tryd.lays146_ren : Go.Shelf.Ren := ⟨fun | 146 => 26 | 221 => 43 | 268 => 54 | 138 => 55 | 143 => 56 | 195 => 69 | 197 => 70 | 218 => 71 | 219 => 72 | 260 => 76 | 217 => 49 | 225 => 77 | 224 => 78 | 267 => 79 | 266 => 67 | 314 => 82 | n => n, fun | 9 => 9 | 31 => 50 | 3 => 3 | 4 => 4 | 0 => 0 | 105 => 89 | 21 => 21 | 5 => 5 | 46 => 92 | 119 => 94 | 139 => 97 | 138 => 96 | 146 => 99 | 51 => 98 | n => n, fun | 1 => 0 | 3 => 1 | 4 => 2 | n => n⟩
theorem Tryd.lays146 : Go.Proofs.Lays.n146 Tryd.prog Tryd.lays146_ren := {
 mixed := by kernel_rfl
 f138 := Tryd.func55.trans (congrArg some (by kernel_rfl))
 f143 := Tryd.func56.trans (congrArg some (by kernel_rfl))
 f146 := Tryd.func26.trans (congrArg some (by kernel_rfl))
 f195 := Tryd.func69.trans (congrArg some (by kernel_rfl))
 f197 := Tryd.func70.trans (congrArg some (by kernel_rfl))
 f217 := Tryd.func49.trans (congrArg some (by kernel_rfl))
 f218 := Tryd.func71.trans (congrArg some (by kernel_rfl))
 f219 := Tryd.func72.trans (congrArg some (by kernel_rfl))
 f221 := Tryd.func43.trans (congrArg some (by kernel_rfl))
 f224 := Tryd.func78.trans (congrArg some (by kernel_rfl))
 f225 := Tryd.func77.trans (congrArg some (by kernel_rfl))
 f260 := Tryd.func76.trans (congrArg some (by kernel_rfl))
 f266 := Tryd.func67.trans (congrArg some (by kernel_rfl))
 f267 := Tryd.func79.trans (congrArg some (by kernel_rfl))
 f268 := Tryd.func54.trans (congrArg some (by kernel_rfl))
 f314 := Tryd.func82.trans (congrArg some (by kernel_rfl))
 t0 := Tryd.underlying0
 a0 := Tryd.isAgg0
 z0 := Tryd.sizeOf0
 v0 := Tryd.zeroValue0
 t3 := Tryd.underlying3
 a3 := Tryd.isAgg3
 z3 := Tryd.sizeOf3
 v3 := Tryd.zeroValue3
 t4 := Tryd.underlying4
 a4 := Tryd.isAgg4
 z4 := Tryd.sizeOf4
 v4 := Tryd.zeroValue4
 t5 := Tryd.underlying5
 a5 := Tryd.isAgg5
 z5 := Tryd.sizeOf5
 v5 := Tryd.zeroValue5
 t9 := Tryd.underlying9
 a9 := Tryd.isAgg9
 z9 := Tryd.sizeOf9
 v9 := Tryd.zeroValue9
 t21 := Tryd.underlying21
 a21 := Tryd.isAgg21
 z21 := Tryd.sizeOf21
 v21 := Tryd.zeroValue21
 t31 := Tryd.underlying50
 a31 := Tryd.isAgg50
 z31 := Tryd.sizeOf50
 v31 := Tryd.zeroValue50
 t46 := Tryd.underlying92
 a46 := Tryd.isAgg92
 z46 := Tryd.sizeOf92
 v46 := Tryd.zeroValue92
 t51 := Tryd.underlying98
 a51 := Tryd.isAgg98
 z51 := Tryd.sizeOf98
 v51 := Tryd.zeroValue98
 t105 := Tryd.underlying89
 a105 := Tryd.isAgg89
 z105 := Tryd.sizeOf89
 v105 := Tryd.zeroValue89
 t119 := Tryd.underlying94
 a119 := Tryd.isAgg94
 z119 := Tryd.sizeOf94
 t138 := Tryd.underlying96
 a138 := Tryd.isAgg96
 z138 := Tryd.sizeOf96
 v138 := Tryd.zeroValue96
 t139 := Tryd.underlying97
 a139 := Tryd.isAgg97
 z139 := Tryd.sizeOf97
 v139 := Tryd.zeroValue97
 t146 := Tryd.underlying99
 a146 := Tryd.isAgg99
 z146 := Tryd.sizeOf99
 v146 := Tryd.zeroValue99
 g1 := by kernel_rfl
 g3 := by kernel_rfl
 g4 := by kernel_rfl }
def Tryd.laysM146_ren : Go.Shelf.Ren := ⟨fun | 146 => 26 | 221 => 43 | 268 => 54 | 138 => 55 | 143 => 56 | 195 => 69 | 197 => 70 | 218 => 71 | 219 => 72 | 260 => 76 | 217 => 49 | 225 => 77 | 224 => 78 | 267 => 79 | 266 => 67 | 314 => 82 | n => n, fun | 9 => 9 | 31 => 50 | 3 => 3 | 4 => 4 | 0 => 0 | 105 => 89 | 21 => 21 | 5 => 5 | 46 => 92 | 119 => 94 | 139 => 97 | 138 => 96 | 146 => 99 | 51 => 98 | n => n, fun | 1 => 0 | 3 => 1 | 4 => 2 | n => n⟩
theorem Tryd.laysM146 : Go.Proofs.LaysM.n146 Tryd.prog Tryd.laysM146_ren := {
 mixed := by kernel_rfl
 f138 := Tryd.func55.trans (congrArg some (by kernel_rfl))
 f143 := Tryd.func56.trans (congrArg some (by kernel_rfl))
 f146 := Tryd.func26.trans (congrArg some (by kernel_rfl))
 f195 := Tryd.func69.trans (congrArg some (by kernel_rfl))
 f197 := Tryd.func70.trans (congrArg some (by kernel_rfl))
 f217 := Tryd.func49.trans (congrArg some (by kernel_rfl))
 f218 := Tryd.func71.trans (congrArg some (by kernel_rfl))
 f219 := Tryd.func72.trans (congrArg some (by kernel_rfl))
 f221 := Tryd.func43.trans (congrArg some (by kernel_rfl))
 f224 := Tryd.func78.trans (congrArg some (by kernel_rfl))
 f225 := Tryd.func77.trans (congrArg some (by kernel_rfl))
 f260 := Tryd.func76.trans (congrArg some (by kernel_rfl))
 f266 := Tryd.func67.trans (congrArg some (by kernel_rfl))
 f267 := Tryd.func79.trans (congrArg some (by kernel_rfl))
 f268 := Tryd.func54.trans (congrArg some (by kernel_rfl))
 f314 := Tryd.func82.trans (congrArg some (by kernel_rfl))
 t0 := Tryd.underlying0
 a0 := Tryd.isAgg0
 z0 := Tryd.sizeOf0
 v0 := Tryd.zeroValue0
 t3 := Tryd.underlying3
 a3 := Tryd.isAgg3
 z3 := Tryd.sizeOf3
 v3 := Tryd.zeroValue3
 t4 := Tryd.underlying4
 a4 := Tryd.isAgg4
 z4 := Tryd.sizeOf4
 v4 := Tryd.zeroValue4
 t5 := Tryd.underlying5
 a5 := Tryd.isAgg5
 z5 := Tryd.sizeOf5
 v5 := Tryd.zeroValue5
 t9 := Tryd.underlying9
 a9 := Tryd.isAgg9
 z9 := Tryd.sizeOf9
 v9 := Tryd.zeroValue9
 t21 := Tryd.underlying21
 a21 := Tryd.isAgg21
 z21 := Tryd.sizeOf21
 v21 := Tryd.zeroValue21
 t31 := Tryd.underlying50
 a31 := Tryd.isAgg50
 z31 := Tryd.sizeOf50
 v31 := Tryd.zeroValue50
 t46 := Tryd.underlying92
 a46 := Tryd.isAgg92
 z46 := Tryd.sizeOf92
 v46 := Tryd.zeroValue92
 t51 := Tryd.underlying98
 a51 := Tryd.isAgg98
 z51 := Tryd.sizeOf98
 v51 := Tryd.zeroValue98
 t105 := Tryd.underlying89
 a105 := Tryd.isAgg89
 z105 := Tryd.sizeOf89
 v105 := Tryd.zeroValue89
 t119 := Tryd.underlying94
 a119 := Tryd.isAgg94
 z119 := Tryd.sizeOf94
 t138 := Tryd.underlying96
 a138 := Tryd.isAgg96
 z138 := Tryd.sizeOf96
 v138 := Tryd.zeroValue96
 t139 := Tryd.underlying97
 a139 := Tryd.isAgg97
 z139 := Tryd.sizeOf97
 v139 := Tryd.zeroValue97
 t146 := Tryd.underlying99
 a146 := Tryd.isAgg99
 z146 := Tryd.sizeOf99
 v146 := Tryd.zeroValue99
 g1 := by kernel_rfl
 g3 := by kernel_rfl
 g4 := by kernel_rfl
 i0 := by kernel_rfl
 i3 := by kernel_rfl
 i4 := by kernel_rfl
 i5 := by kernel_rfl
 i9 := by kernel_rfl
 i21 := by kernel_rfl
 i31 := by kernel_rfl
 i46 := by kernel_rfl
 i51 := by kernel_rfl
 i105 := by kernel_rfl
 i138 := by kernel_rfl
 i139 := by kernel_rfl
 i146 := by kernel_rfl
 m1 := by kernel_rfl
 s1_3 := fun w h => Go.Proofs.cell_of_shapedOpen_int (zero := #[.int .i64 0]) (t := 3) h (of_decide_eq_true (by kernel_rfl)) (by kernel_rfl) rfl (by kernel_rfl) (by kernel_rfl) Tryd.underlying3
 m3 := by kernel_rfl
 m4 := by kernel_rfl }
end Go.Proofs
namespace Go.Proofs.YthgiplnidnkajaaDoor
open Go.RowKit
theorem trimLib_any (s : ByteArray) (w : World) (hs : s.size ≤ maxLen) :
  Calls Tryd.prog 46 #[.string s, .string ⟨#[32, 9]⟩] w fun e w' => e = .returned (.string (trimBA s)) ∧ Below w.heap.size w w' :=
 (Any.strings_Trim_laid Tryd.lays160 (by kernel_rfl) s ⟨#[32, 9]⟩ w hs (by decide) (ascii_of_all (by decide))).mono fun _ _ ⟨he, hw⟩ => ⟨he, hw⟩
set_option maxHeartbeats 400000 in
theorem trim_any (s : ByteArray) (w : World) (hs : s.size ≤ maxLen) :
  Calls Tryd.prog 28 #[.string s] w fun e w' => e = .returned (.string (trimBA s)) ∧ Below w.heap.size w w' := by
 go_enter Tryd.func28, Tryd.ntmps28
 go_wp2_with fail
 refine (trimLib_any s _ hs).mono ?_
 rintro e w1 ⟨rfl, hb1⟩
 go_wp2_with fail
 go_ret
 exact ⟨rfl, hb1⟩
end Go.Proofs.YthgiplnidnkajaaDoor
namespace Go.Proofs.YthgiplnidnkajaaDoor
open Go
def front (p : List UInt8) : List (List UInt8) → List (List UInt8)
 | [] => [p]
 | h :: r => (p ++ h) :: r
def splitL (c : UInt8) : List UInt8 → List (List UInt8)
 | [] => [[]]
 | b :: t => if b = c then [] :: splitL c t else front [b] (splitL c t)
theorem splitL_ne (c : UInt8) : ∀ l, splitL c l ≠ []
 | [] => by simp [splitL]
 | b :: t => by
  unfold splitL; split
  · simp
  · cases splitL c t <;> simp [front]
theorem index_cons_ne (b c : UInt8) (l : List UInt8) (h : b ≠ c) : Lib.index (b :: l) [c] = if Lib.index l [c] == -1 then -1 else Lib.index l [c] + 1 := by
 rw [Lib.index]
 have : (List.isPrefixOf [c] (b :: l)) = false := by simp [List.isPrefixOf]; exact fun e => h e.symm
 rw [this]; rfl
theorem index_cons_eq (c : UInt8) (l : List UInt8) : Lib.index (c :: l) [c] = 0 := by
 rw [Lib.index]
 have : (List.isPrefixOf [c] (c :: l)) = true := by simp [List.isPrefixOf]
 rw [this]; rfl
theorem splitK_eq (c : UInt8) : ∀ l : List UInt8, Lib.splitK [c] 0 (Lib.count l [c]) l = splitL c l
 | [] => rfl
 | b :: t => by
  have ih := splitK_eq c t
  by_cases h : b = c
  · subst h
    rw [Lib.count_cons_eq, Nat.add_comm, Lib.splitK, index_cons_eq, splitL, if_pos rfl]
    rw [if_neg (by decide)]
    simp only [Int.toNat_zero, List.take_zero, Nat.add_zero, List.length_cons, List.length_nil, Nat.zero_add]
    rw [List.drop_succ_cons, List.drop_zero, ih]
  · rw [Lib.count_cons_ne b c t h, splitL, if_neg h, ← ih]
    cases hk : Lib.count t [c] with
    | zero => rfl
    | succ k =>
     have hm : ¬ Lib.index t [c] = -1 := fun e => by rw [Lib.count_miss e] at hk; cases hk
     have hge := Lib.index_ge t [c]
     rw [Lib.splitK, Lib.splitK, index_cons_ne b c t h]
     have hA : (Lib.index t [c] == -1) = false := by simpa using hm
     have hB : (Lib.index t [c] + 1 == -1) = false := by rw [beq_eq_false_iff_ne]; omega
     simp only [hA, hB, Bool.false_eq_true, if_false]
     obtain ⟨i, hi⟩ : ∃ i : Nat, Lib.index t [c] = i := ⟨(Lib.index t [c]).toNat, by omega⟩
     rw [hi]
     have e1 : ((i : Int) + 1).toNat = i + 1 := by omega
     have e2 : (i : Int).toNat = i := by omega
     rw [e1, e2]
     simp [front]
def ofL (l : List UInt8) : ByteArray := ⟨l.toArray⟩
theorem ofL_list (l : List UInt8) : (ofL l).data.toList = l := by simp [ofL]
theorem ofL_of (s : ByteArray) : ofL s.data.toList = s := ba_ext (ofL_list _)
def splitS (c : UInt8) (s : ByteArray) : List ByteArray := (splitL c s.data.toList).map ofL
theorem splitB_eq (c : UInt8) (s : ByteArray) : Lib.splitB ⟨#[c]⟩ 0 (Lib.countB s ⟨#[c]⟩) s = splitS c s := by
 have h := Lib.splitB_data ⟨#[c]⟩ 0 (Lib.countB s ⟨#[c]⟩) s
 have e : Lib.splitK (ByteArray.mk #[c]).data.toList 0 (Lib.countB s ⟨#[c]⟩) s.data.toList = splitL c s.data.toList := splitK_eq c s.data.toList
 rw [e] at h
 unfold splitS
 rw [← h, List.map_map]
 have : ∀ L : List ByteArray, L = L.map (ofL ∘ fun x => x.data.toList) := fun L => by
  induction L with
  | nil => rfl
  | cons a t ih => rw [List.map_cons, ← ih]; simp [ofL_of]
 exact this _
end Go.Proofs.YthgiplnidnkajaaDoor
namespace Go.Proofs.YthgiplnidnkajaaDoor
open Go.RowKit
theorem toList_eq {a b : ByteArray} : (a.toList == b.toList) = decide (a = b) := by
 rw [Bool.eq_iff_iff, beq_iff_eq, decide_eq_true_eq, ByteArray.toList_eq, ByteArray.toList_eq]
 exact ⟨ba_ext, fun h => by rw [h]⟩
def total : List ByteArray → Nat
 | [] => 0
 | s :: t => s.size + 1 + total t
theorem splitL_length (c : UInt8) : ∀ l : List UInt8, (splitL c l).length ≤ l.length + 1
 | [] => Nat.le_refl _
 | b :: t => by
  have := splitL_length c t
  rw [splitL]; split
  · simp; omega
  · cases h : splitL c t with
    | nil => simp [front]
    | cons q r => rw [h] at this; simp [front] at this ⊢; omega
theorem splitS_length (c : UInt8) (s : ByteArray) : (splitS c s).length ≤ s.size + 1 := by
 unfold splitS; rw [List.length_map]; have := splitL_length c s.data.toList; simpa using this
theorem splitL_small (c : UInt8) : ∀ (l p : List UInt8), p ∈ splitL c l → p.length ≤ l.length
 | [], p, h => by simp [splitL] at h; simp [h]
 | b :: t, p, h => by
  have ih := splitL_small c t
  rw [splitL] at h
  split at h
  · rcases List.mem_cons.1 h with rfl | h
    · simp
    · have := ih p h; simp; omega
  · cases hs : splitL c t with
    | nil => exact absurd hs (splitL_ne c t)
    | cons q r =>
     rw [hs] at h ih
     simp only [front, List.mem_cons] at h
     rcases h with rfl | h
     · have := ih q (by simp); simp; omega
     · have := ih p (by simp [h]); simp; omega
theorem splitS_small (c : UInt8) (s x : ByteArray) (h : x ∈ splitS c s) : x.size ≤ s.size := by
 unfold splitS at h
 obtain ⟨p, hp, rfl⟩ := List.mem_map.1 h
 have := splitL_small c _ p hp
 have e : (ofL p).size = p.length := by show (ofL p).data.size = _; simp [ofL]
 have e2 : s.data.toList.length = s.size := by simp
 omega
theorem total_at {l : List ByteArray} {n k : Nat} (h : k < l.length) (ht : total l ≤ n) : l[k].size + 1 ≤ n := by
 induction l generalizing k with
 | nil => exact absurd h (Nat.not_lt_zero _)
 | cons a t ih =>
  unfold total at ht
  cases k with
  | zero => simp only [List.getElem_cons_zero]; omega
  | succ k => simp only [List.getElem_cons_succ]; exact ih (by simpa using h) (by omega)
theorem total_len : ∀ l : List ByteArray, l.length ≤ total l
 | [] => Nat.le_refl _
 | a :: t => by
  have h1 := total_len t
  simp only [List.length_cons, total]; omega
theorem total_take : ∀ (l : List ByteArray) (k : Nat), total (l.take k) ≤ total l
 | [], _ => by simp
 | a :: t, 0 => by simp [total]
 | a :: t, k + 1 => by
  have := total_take t k
  simp only [List.take_succ_cons, total]; omega
end Go.Proofs.YthgiplnidnkajaaDoor
namespace Go.Proofs.YthgiplnidnkajaaDoor
open Go.ChangeShapes Go.WideShapes Go.ChangeAt Go.RowKit
theorem byte_of {x : Int} (h : (Lit.int .u8 x).wf = true) : ∃ c : UInt8, x = (c.toNat : Int) := by
 have hb : 0 ≤ x ∧ x ≤ 255 := bounds_u8 h
 refine ⟨x.toNat.toUInt8, ?_⟩
 have : (x.toNat.toUInt8).toNat = x.toNat := by rw [Nat.toUInt8_eq, UInt8.toNat_ofNat']; omega
 omega
def IsBytes (w : World) (a : Option Addr) (l : List UInt8) (cap : Nat) : Prop :=
 (a = none ∧ l = [] ∧ cap = 0) ∨ ∃ x, a = some x ∧ l.length ≤ cap ∧ cap ≤ maxLen ∧ ∀ j (hj : j < l.length), w.cell? (x.add j) = some (.int .u8 (l[j].toNat : Int))
theorem open_bytes {H : Type} {enc : TypeId × Value → H} {W : World} {a : Option Addr} {len cap : Nat} {d : DataW H} {ps : List MemPlace} {base : Nat}
  (h : DataW.Trod enc Tryd.prog W base (fun _ => true) true 33 (.slice a len cap) d ps) : ∃ l : List UInt8, len = l.length ∧ IsBytes W a l cap := by
 obtain ⟨fuel, hf⟩ := h
 rcases open_ints Tryd.underlying33 Tryd.underlying5 (by kernel_rfl) hf with ⟨hcs, _⟩ | ⟨x, l, c, zs, hcs, _, hl, hm, hz, _, hcell, hwz⟩
 · simp [Value.cells] at hcs
   obtain ⟨rfl, rfl, rfl⟩ := hcs
   exact ⟨[], rfl, .inl ⟨rfl, rfl, rfl⟩⟩
 · simp [Value.cells] at hcs
   obtain ⟨rfl, rfl, rfl⟩ := hcs
   have hz' : zs.length = cap := by simpa using hz
   have hlen : ((zs.take len).map fun z => z.toNat.toUInt8).length = len := by simp; omega
   refine ⟨(zs.take len).map fun z => z.toNat.toUInt8, hlen.symm, .inr ⟨x, rfl, by rw [hlen]; exact hl, hm, fun j hj => ?_⟩⟩
   rw [hlen] at hj
   have hj' : j < zs.length := by omega
   rw [hcell j hj']
   have hw := hwz zs[j] (List.getElem_mem _)
   obtain ⟨c, hc⟩ := byte_of hw
   have e : zs.getD j 0 = zs[j] := by rw [List.getD_eq_getElem?_getD, List.getElem?_eq_getElem hj']; rfl
   rw [e]
   have e2 : ((zs.take len).map fun z => z.toNat.toUInt8)[j]'(by rw [hlen]; exact hj) = zs[j].toNat.toUInt8 := by simp
   rw [e2, hc]
   simp
theorem conv_bytes {W : World} {a : Option Addr} {l : List UInt8} {cap : Nat} (h : IsBytes W a l cap) :
  (convert 33 9 (.slice a l.length cap)).run Tryd.prog W = .ok (.string ⟨l.toArray⟩) W := by
 rcases h with ⟨rfl, rfl, rfl⟩ | ⟨x, rfl, _, _, hc⟩
 · simp [convert, run_underlying Tryd.underlying33, run_underlying Tryd.underlying9, run_underlying Tryd.underlying5, Conv.bytesToString]
   rfl
 · exact run_convert_bytes_back (P := Tryd.prog) W 33 9 5 x cap l Tryd.underlying33 Tryd.underlying5 Tryd.underlying9 hc
def StrsIn (w : World) (a : Option Addr) (l : List ByteArray) : Prop :=
 ∀ j (hj : j < l.length), ∃ x, a = some x ∧ w.cell? (x.add j) = some (.string l[j])
theorem StrsIn.keep {w w' : World} {a : Option Addr} {l : List ByteArray} (h : StrsIn w a l) (hb : Below w.heap.size w w') : StrsIn w' a l := fun j hj => by
 obtain ⟨x, e, hc⟩ := h j hj
 exact ⟨x, e, below_cell hb hc⟩
end Go.Proofs.YthgiplnidnkajaaDoor
namespace Go.Proofs.YthgiplnidnkajaaDoor
open Go.RowKit
def bytesV (l : List UInt8) : List Value := l.map fun c => .int .u8 (c.toNat : Int)
theorem bytesV_len (l : List UInt8) : (bytesV l).length = l.length := by simp [bytesV]
section
variable {ops : Array Oper} {rest : List Oper} {o : Oper} {act : Act} {Q : Exit → Act → World → Prop}
end
end Go.Proofs.YthgiplnidnkajaaDoor
namespace Go.Proofs.YthgiplnidnkajaaDoor
section
variable {P : Program} {md : Region.Mode} {C : World → Prop} {l : List Oper} {o : Oper}
end
section
variable {P : Program} {md : Region.Mode} {ops : Array Oper} {Q : Exit → Act → World → Prop}
theorem count_set : ∀ (l : List Bool) (i : Nat), i < l.length → l.getD i true = false → (l.set i true).countP (!·) + 1 = l.countP (!·)
 | b :: l, 0, _, h => by
  have : b = false := h
  subst this
  simp
 | b :: l, i + 1, hi, h => by
  have := count_set l i (by simpa using hi) (by simpa using h)
  rw [List.set_cons_succ, List.countP_cons, List.countP_cons]
  omega
theorem wpAny_inv (J : Array Bool → Act → World → Prop) (hstep : ∀ m a w, m.size = ops.size → J m a w → ∀ i, i ∈ Region.ready md ops m → wpOp P ops Q i (J (m.setIfInBounds i true)) a w)
  (hdone : ∀ m a w, m.size = ops.size → J m a w → Region.ready md ops m = [] → Q .normal a w) :
  ∀ (f : Nat) (m : Array Bool) (a : Act) (w : World), m.size = ops.size → m.toList.countP (!·) ≤ f → J m a w → wpAny P md ops Q f m a w
 | 0, m, a, w, hs, hc, hJ => by
  have hr : Region.ready md ops m = [] := by
   rw [List.eq_nil_iff_forall_not_mem]
   intro i hi
   obtain ⟨h1, x, hx, _⟩ := mem_ready.1 hi
   have hlt : i < m.size := by rw [hs]; exact (Array.getElem?_eq_some_iff.1 hx).1
   have h2 : m.toList.getD i true = false := by simpa [List.getD_eq_getElem?_getD, hlt] using h1
   have := count_set m.toList i (by simpa using hlt) h2
   omega
  exact ⟨hr, hdone m a w hs hJ hr⟩
 | f + 1, m, a, w, hs, hc, hJ => by
  refine ⟨fun hr => hdone m a w hs hJ hr, fun i hi => ?_⟩
  refine wpOp_mono (fun a' w' hJ' => wpAny_inv J hstep hdone f _ a' w' (by simpa using hs) ?_ hJ') (hstep m a w hs hJ i hi)
  obtain ⟨h1, x, hx, _⟩ := mem_ready.1 hi
  have hlt : i < m.size := by rw [hs]; exact (Array.getElem?_eq_some_iff.1 hx).1
  have h2 : m.toList.getD i true = false := by simpa [List.getD_eq_getElem?_getD, hlt] using h1
  have := count_set m.toList i (by simpa using hlt) h2
  rw [Array.toList_setIfInBounds]
  omega
theorem wp_region_inv {id : Nat} {a : Act} {w : World} (hm : P.follows .mixedOrders = true) (J : Array Bool → Act → World → Prop)
  (hstep : ∀ m a w, m.size = ops.size → J m a w → ∀ i, i ∈ Region.ready .any ops m → wpOp P ops Q i (J (m.setIfInBounds i true)) a w)
  (hdone : ∀ m a w, m.size = ops.size → J m a w → Region.ready .any ops m = [] → Q .normal a w) (h0 : J (Array.replicate ops.size false) a { w with drawn := w.drawn + 1 }) : (Code.region id ops true).wp P Q a w := by
 refine wp_region_any hm (wpAny_inv J hstep hdone _ _ _ _ (by simp) ?_ h0)
 have := List.countP_le_length (p := (!·)) (l := (Array.replicate ops.size false).toList)
 simpa using this
end
end Go.Proofs.YthgiplnidnkajaaDoor
namespace Go.Proofs.YthgiplnidnkajaaDoor
open Go.RowKit
structure Spec where
 p : Value → World → Prop
 mono : ∀ v w w', p v w → Below w.heap.size w w' → p v w'
def Spec.val (v : Value) : Spec := ⟨fun x _ => x = v, fun _ _ _ h _ => h⟩
def Holds (ops : Array Oper) (S : List Spec) (a : Act) (w : World) (j : Nat) : Prop :=
 match ops[j]?, S[j]? with
 | some o, some s => (match o.dst with | some d => s.p (a.eval (.tmp d)) w | none => True)
 | _, _ => True
def isDst (ops : Array Oper) (k : Nat) : Bool := ops.toList.any fun o => o.dst == some k
def waitsFor (o : Oper) (j : Nat) : Bool := o.after.toList.any fun e => Region.binds .any e && e.on == j
def dstsOk (ops : Array Oper) (n : Nat) : Bool :=
 (List.range ops.size).all fun i => match (ops[i]?).bind (·.dst) with
  | some d => decide (d < n) && (List.range ops.size).all fun j => decide (i = j) || !((ops[j]?).bind (·.dst) == some d)
  | none => true
structure Fr (ops : Array Oper) (a0 a : Act) : Prop where
 defers : a.defers = a0.defers
 size : a.tmps.size = a0.tmps.size
 base : ∀ k, isDst ops k = false → a.eval (.tmp k) = a0.eval (.tmp k)
def StepOK (P : Program) (Q : Exit → Act → World → Prop) (ops : Array Oper) (S : List Spec) (a0 : Act) (w0 : World) (o : Oper) (s : Spec) : Prop :=
 ∀ a w, Below w0.heap.size w0 w → Fr ops a0 a → (∀ j, waitsFor o j = true → Holds ops S a w j) →
  Region.wanted o (yielded ops a.tmps) = true ∧ o.wp P a w (fun a' w' => ∃ v, a' = a.put o.dst v ∧ Below w.heap.size w w' ∧ s.p v w') Q
def StepsOK (P : Program) (Q : Exit → Act → World → Prop) (ops : Array Oper) (S : List Spec) (a0 : Act) (w0 : World) : List Oper → List Spec → Prop
 | o :: os, s :: ss => StepOK P Q ops S a0 w0 o s ∧ StepsOK P Q ops S a0 w0 os ss
 | [], [] => True
 | _, _ => False
section
variable {P : Program} {Q : Exit → Act → World → Prop} {ops : Array Oper} {S : List Spec} {a0 : Act} {w0 : World}
theorem stepsOK_at : ∀ {os : List Oper} {ss : List Spec}, StepsOK P Q ops S a0 w0 os ss → ∀ (i : Nat) (o : Oper), os[i]? = some o → ∃ s, ss[i]? = some s ∧ StepOK P Q ops S a0 w0 o s
 | o :: os, s :: ss, h, 0, _, rfl => ⟨s, rfl, h.1⟩
 | o :: os, s :: ss, h, i + 1, o', ho => stepsOK_at h.2 i o' ho
 | [], _, _, i, _, ho => by simp at ho
theorem eval_put_same {a : Act} {d : Nat} {v : Value} (h : d < a.tmps.size) : (a.put (some d) v).eval (.tmp d) = v := by
 simp [Act.put, Act.eval, h]
theorem eval_put_other {a : Act} {d : Option Tmp} {k : Nat} {v : Value} (h : d ≠ some k) : (a.put d v).eval (.tmp k) = a.eval (.tmp k) := by
 cases d with
 | none => rfl
 | some d =>
  have hne : d ≠ k := fun e => h (by rw [e])
  simp [Act.put, Act.eval, Array.getElem?_setIfInBounds_ne hne]
theorem dsts_lt {n : Nat} (h : dstsOk ops n = true) {i : Nat} {o : Oper} {d : Nat} (ho : ops[i]? = some o) (hd : o.dst = some d) : d < n ∧ ∀ j o', ops[j]? = some o' → j ≠ i → o'.dst ≠ some d := by
 have hi : i < ops.size := (Array.getElem?_eq_some_iff.1 ho).1
 have h1 := List.all_eq_true.1 h i (List.mem_range.2 hi)
 rw [ho] at h1
 simp only [Option.bind_some, hd, Bool.and_eq_true, decide_eq_true_eq] at h1
 refine ⟨h1.1, fun j o' ho' hji hd' => ?_⟩
 have hj : j < ops.size := (Array.getElem?_eq_some_iff.1 ho').1
 have h2 := List.all_eq_true.1 h1.2 j (List.mem_range.2 hj)
 rw [ho'] at h2
 simp [hd'] at h2
 exact hji h2.symm
theorem holds_mono {a : Act} {w w' : World} {j : Nat} (h : Holds ops S a w j) (hb : Below w.heap.size w w') : Holds ops S a w' j := by
 unfold Holds at *
 split
 · rename_i o s ho hs
   rw [ho, hs] at h
   cases hd : o.dst with
   | none => trivial
   | some d => simp only [hd] at h; exact s.mono _ _ _ h hb
 · trivial
theorem wp_region_local {id : Nat} (S : List Spec) (hm : P.follows .mixedOrders = true) (hB : (List.range ops.size).all (fun i => match ops[i]? with | some x => x.after.all (fun e => decide (e.on < i)) | none => true) = true)
  (hd : dstsOk ops a0.tmps.size = true) (h : StepsOK P Q ops S a0 w0 ops.toList S)
  (hQ : ∀ a w, Below w0.heap.size w0 w → Fr ops a0 a → (∀ j, j < ops.size → Holds ops S a w j) → Q .normal a w) : (Code.region id ops true).wp P Q a0 w0 := by
 refine wp_region_inv hm (fun m a w => Below w0.heap.size w0 w ∧ Fr ops a0 a ∧ ∀ j, m.getD j false = true → Holds ops S a w j) ?_ ?_ ?_
 · rintro m a w hs ⟨hb, hf, hh⟩ i hi
   obtain ⟨h1, o, ho, hall⟩ := mem_ready.1 hi
   have hil : i < ops.size := (Array.getElem?_eq_some_iff.1 ho).1
   obtain ⟨s, hsi, hstep⟩ := stepsOK_at h i o (by simpa using ho)
   obtain ⟨hw, hwp⟩ := hstep a w hb hf fun j hj => by
    obtain ⟨e, he, h2⟩ := List.any_eq_true.1 hj
    simp only [Bool.and_eq_true, beq_iff_eq] at h2
    obtain ⟨h3, rfl⟩ := h2
    exact hh _ (hall e (Array.mem_toList_iff.1 he) h3)
   unfold wpOp
   simp only [ho]
   rw [if_pos hw]
   refine .inl (Oper.wp_mono ?_ hwp)
   rintro a' w' ⟨v, rfl, hb', hsp⟩
   refine ⟨hb.trans (hb'.mono hb.size), ⟨?_, ?_, fun k hk => ?_⟩, fun j hj => ?_⟩
   · have := hf.defers
     cases o.dst <;> simpa [Act.put] using this
   · have := hf.size
     cases o.dst <;> simpa [Act.put] using this
   · rw [eval_put_other, hf.base k hk]
     intro hk2
     have : isDst ops k = true := by
      unfold isDst
      exact List.any_eq_true.2 ⟨o, Array.mem_toList_iff.2 (Array.mem_of_getElem? ho), by rw [hk2]; simp⟩
     rw [hk] at this; cases this
   · by_cases hji : j = i
     · subst hji
       unfold Holds
       simp only [ho, hsi]
       cases hdo : o.dst with
       | none => trivial
       | some d =>
        show s.p ((a.put (some d) v).eval (.tmp d)) w'
        rw [eval_put_same]
        · exact hsp
        · rw [hf.size]; exact (dsts_lt hd ho hdo).1
     · have hj' : m.getD j false = true := by rw [getD_set_ne false (fun e => hji e.symm)] at hj; exact hj
       have h5 := holds_mono (hh j hj') hb'
       unfold Holds at *
       cases hoj : ops[j]? with
       | none => simp
       | some o' =>
        cases hsj : S[j]? with
        | none => simp
        | some s' =>
         simp only [hoj, hsj] at h5 ⊢
         cases hdo : o'.dst with
         | none => trivial
         | some d =>
          simp only [hdo] at h5 ⊢
          show s'.p ((a.put o.dst v).eval (.tmp d)) w'
          rw [eval_put_other]
          · exact h5
          · intro e
            exact (dsts_lt hd ho e).2 j o' hoj hji hdo
 · rintro m a w hs ⟨hb, hf, hh⟩ hr
   refine hQ a w hb hf fun j hj => hh j ?_
   induction j using Nat.strongRecOn with
   | _ j ih =>
    cases hmj : m.getD j false with
    | true => rfl
    | false =>
     exfalso
     have hoj : ops[j]? = some ops[j] := Array.getElem?_eq_getElem hj
     have hbk := List.all_eq_true.1 hB j (List.mem_range.2 hj)
     rw [hoj] at hbk
     simp only [Array.all_eq_true_iff_forall_mem, decide_eq_true_eq] at hbk
     have : j ∈ Region.ready .any ops m := mem_ready.2 ⟨by
      have hs' : j < m.size := by rw [hs]; exact hj
      simp [hs'] at hmj ⊢; exact hmj, ops[j], hoj, fun e he _ => ih _ (hbk e he) (by have := hbk e he; omega)⟩
     rw [hr] at this; cases this
 · refine ⟨(Below.refl _ _).drew, ⟨rfl, rfl, fun _ _ => rfl⟩, fun j hj => ?_⟩
   exfalso
   simp only [Array.getD_eq_getD_getElem?, Array.getElem?_replicate] at hj
   split at hj <;> simp at hj
end
section
variable {P : Program} {Q : Exit → Act → World → Prop} {ops : Array Oper} {S : List Spec} {a : Act} {w : World} {o : Oper} {s : Spec}
theorem wanted_none (h : o.guard = none) : Region.wanted o (yielded ops a.tmps) = true := by unfold Region.wanted; rw [h]
theorem wanted_true {j d : Nat} (h : o.guard = some (j, true)) (hd : (ops[j]?).bind (·.dst) = some d) (hv : a.eval (.tmp d) = .bool true) : Region.wanted o (yielded ops a.tmps) = true := by
 have e : a.tmps[d]? = some (.bool true) := by
  unfold Act.eval at hv
  simp only [Array.getD_eq_getD_getElem?] at hv
  cases hq : a.tmps[d]? with
  | none => rw [hq] at hv; cases hv
  | some x => rw [hq] at hv; simp at hv; rw [hv]
 unfold Region.wanted yielded
 rw [h]
 simp [hd, e]
theorem loc_run {v : Value} {w' : World} (h : (execOp a.eval o).run P w = .ok (.value v) w') (hb : Below w.heap.size w w') (hs : s.p v w') : o.wp P a w (fun a' w' => ∃ v, a' = a.put o.dst v ∧ Below w.heap.size w w' ∧ s.p v w') Q := by
 unfold Oper.wp
 rw [h]
 exact ⟨v, rfl, hb, hs⟩
theorem loc_move {x : Operand} (ho : o.op = .move x) (hs : s.p (a.eval x) w) : o.wp P a w (fun a' w' => ∃ v, a' = a.put o.dst v ∧ Below w.heap.size w w' ∧ s.p v w') Q :=
 loc_run (by unfold execOp; rw [ho]; rfl) (Below.refl _ _) hs
theorem loc_assign {x : Operand} (ho : o.op = .assign x) (hs : s.p (a.eval x) w) : o.wp P a w (fun a' w' => ∃ v, a' = a.put o.dst v ∧ Below w.heap.size w w' ∧ s.p v w') Q :=
 loc_run (by unfold execOp; rw [ho]; rfl) (Below.refl _ _) hs
theorem loc_pick {c x y : Operand} (ho : o.op = .pick c x y) (hc : a.eval c = .bool true) (hs : s.p (a.eval x) w) : o.wp P a w (fun a' w' => ∃ v, a' = a.put o.dst v ∧ Below w.heap.size w w' ∧ s.p v w') Q :=
 loc_run (by unfold execOp; rw [ho]; simp only [hc]; rfl) (Below.refl _ _) hs
theorem loc_convert {x : Operand} {t1 t2 : TypeId} (ho : o.op = .convert t1 t2 x) {v : Value} (h : (convert t1 t2 (a.eval x)).run P w = .ok v w) (hs : s.p v w) : o.wp P a w (fun a' w' => ∃ v, a' = a.put o.dst v ∧ Below w.heap.size w w' ∧ s.p v w') Q :=
 loc_run (v := v) (by unfold execOp; rw [ho]; simp only [Sem.run_bind, h, Result.andThen_ok, Sem.run_pure]) (Below.refl _ _) hs
theorem loc_call {f : FuncId} {args : List Operand} {ts : Array TypeId} (ho : o.op = .call { callee := .value (.func f), args := args.toArray, argTypes := ts })
  (hf : (P.funcs[f]?).map (fun fn => fn.name != "runtime.NumGoroutine" && fn.body.isSome) = some true) (h : Calls P f (args.map a.eval).toArray w fun e w' => ∃ v, e = .returned v ∧ Below w.heap.size w w' ∧ s.p v w') : o.wp P a w (fun a' w' => ∃ v, a' = a.put o.dst v ∧ Below w.heap.size w w' ∧ s.p v w') Q := by
 have hrun : (execOp a.eval o).run P w = .ok (.enter f (args.map a.eval).toArray) w := by
  unfold execOp; rw [ho]
  cases hfn : P.funcs[f]? with
  | none => rw [hfn] at hf; cases hf
  | some fn =>
   rw [hfn] at hf
   simp only [Option.map_some, Option.some.injEq, Bool.and_eq_true, bne_iff_ne, ne_eq] at hf
   have hb : fn.body ≠ none := fun e => by rw [e] at hf; exact absurd hf.2 (by simp)
   simp [resolve, Deferred.ofValue, invoke, callFunc, show a.eval (.func f) = .func (.func f) #[] #[] from rfl, hfn, hf.1, hb]
 unfold Oper.wp
 rw [hrun, Oper.upon_enter]
 refine h.mono ?_
 rintro e w' ⟨v, rfl, hb, hs⟩
 exact ⟨v, rfl, hb, hs⟩
end
section
variable {P : Program} {ops : Array Oper} {Q : Exit → Act → World → Prop} {a : Act} {w : World} {rest : List Oper}
theorem local_ret {fn : Func} {R : Ending → World → Prop} {t : Tmp} {v : Value} (h : fn.results = #[.tmp t]) (hd : a.defers = []) (hv : a.eval (.tmp t) = v) (hR : R (.returned v) w) : bodyPost P fn R .ret a w :=
 bodyPost_ret (results_tmp h _ _ _) hd (by rw [show a.tmps.getD t undef = v from hv]; exact hR)
end
end Go.Proofs.YthgiplnidnkajaaDoor
namespace Go.Proofs.YthgiplnidnkajaaDoor
open Go.ChangeShapes Go.WideShapes Go.ChangeAt Go.RowKit
theorem IsBytes.keep {w w' : World} {a : Option Addr} {l : List UInt8} {cap : Nat} (h : IsBytes w a l cap) (hb : Below w.heap.size w w') : IsBytes w' a l cap := by
 rcases h with h | ⟨x, h1, h2, h3, h4⟩
 · exact .inl h
 · exact .inr ⟨x, h1, h2, h3, fun j hj => below_cell hb (h4 j hj)⟩
section
variable {ops : Array Oper} {rest : List Oper} {o : Oper} {act : Act} {Q : Exit → Act → World → Prop}
end
end Go.Proofs.YthgiplnidnkajaaDoor
namespace Go.Proofs.YthgiplnidnkajaaDoor
open Go.RowKit
def BytesV (w : World) (v : Value) (l : List UInt8) : Prop := ∃ a c, v = .slice a l.length c ∧ IsBytes w a l c
theorem BytesV.keep {w w' : World} {v : Value} {l : List UInt8} (h : BytesV w v l) (hb : Below w.heap.size w w') : BytesV w' v l := by
 obtain ⟨a, c, h1, h2⟩ := h
 exact ⟨a, c, h1, h2.keep hb⟩
def Spec.bytes (l : List UInt8) : Spec := ⟨fun v w => BytesV w v l, fun _ _ _ h hb => h.keep hb⟩
section
variable {Q : Exit → Act → World → Prop} {a : Act} {w : World} {o : Oper} {s : Spec}
theorem loc_string {x : Operand} (ho : o.op = .convert 33 9 x) {l : List UInt8} (h : BytesV w (a.eval x) l) (hs : s.p (.string ⟨l.toArray⟩) w) :
  o.wp Tryd.prog a w (fun a' w' => ∃ v, a' = a.put o.dst v ∧ Below w.heap.size w w' ∧ s.p v w') Q := by
 obtain ⟨ad, c, h1, h2⟩ := h
 refine loc_convert ho ?_ hs
 rw [h1]
 exact conv_bytes h2
end
end Go.Proofs.YthgiplnidnkajaaDoor
namespace Go.Proofs.YthgiplnidnkajaaDoor
open Go.RowKit
structure SpecQ extends Spec where
 q : Value → Prop
 weak : ∀ v w, p v w → q v
section
variable {P : Program} {Q : Exit → Act → World → Prop} {ops : Array Oper} {S : List (Option SpecQ)} {a0 : Act} {w0 : World}
end
section
variable {P : Program} {Q : Exit → Act → World → Prop} {ops : Array Oper} {a : Act} {w : World} {o : Oper} {s : SpecQ}
end
end Go.Proofs.YthgiplnidnkajaaDoor
namespace Go.Proofs.YthgiplnidnkajaaDoor
structure Box (p : Prop) : Prop where
 out : p
def w4 (l : List UInt8) : UInt32 := l.foldl (fun x c => (x <<< 8) ||| c.toUInt32) 0
end Go.Proofs.YthgiplnidnkajaaDoor
namespace Go.Proofs.YthgiplnidnkajaaDoor
open Go.RowKit
theorem below_oneF (w : World) (o : Obj) : Below w.heap.size w (w.alloc o) := (Below.refl _ _).alloc (Nat.le_refl _) _
end Go.Proofs.YthgiplnidnkajaaDoor
namespace Go.Proofs.YthgiplnidnkajaaDoor
open Go.RowKit
open Go.Maps (Keyed string_keyed)
theorem keyedF : Keyed Tryd.prog 9 := string_keyed Tryd.underlying9
theorem zeroBF (w : World) : (zeroValue 4).run Tryd.prog w = .ok (.bool false) w := by kernel_rfl
def inS (s : ByteArray) (S : List ByteArray) : Bool := S.any fun x => x.toList == s.toList
def SetIn (w : World) (b n : Nat) (S : List ByteArray) : Prop :=
 ∃ D : DataW Unit, w.ownsMap Tryd.prog 9 (plainElem Tryd.prog 4) b n D ∧ ∀ s : ByteArray, D.atKey (.string s.data.toList) (.lit (.bool false)) = .lit (.bool (inS s S))
theorem SetIn.keep {w w' : World} {b n : Nat} {S : List ByteArray} (h : SetIn w b n S) (hb : Below w.heap.size w w') : SetIn w' b n S := by
 obtain ⟨D, h1, h2⟩ := h
 have hlt := h1.lt
 obtain ⟨es, clock, hbk, F, hs, hD⟩ := h1
 exact ⟨D, ⟨es, clock, by rw [hb.block b hlt]; exact hbk, F, hs, hD⟩, h2⟩
theorem SetIn.lt {w : World} {b n : Nat} {S : List ByteArray} (h : SetIn w b n S) : b < w.heap.size := by
 obtain ⟨D, h1, _⟩ := h; exact h1.lt
theorem SetIn.made (w : World) : SetIn (w.alloc (.map #[] 0)) w.heap.size 0 [] :=
 ⟨.map [], World.ownsMap_made _ _ _ _, fun s => by simp [DataW.atKey, inS]⟩
section
variable {ops : Array Oper} {rest : List Oper} {o : Oper} {act : Act} {Q : Exit → Act → World → Prop}
set_option maxRecDepth 100000 in
theorem SetIn.run {w : World} {b n : Nat} {S : List ByteArray} (h : SetIn w b n S) (s : ByteArray) (hs : s.size ≤ maxLen) :
  (Instr.lookup 66 (.map (some b)) (.string s) false).run Tryd.prog w = .ok (.bool (inS s S)) w := by
 obtain ⟨D, h1, h2⟩ := h
 obtain ⟨v, ps, hrun, hv⟩ := h1.lookup (t := 66) (e := 4) keyedF Tryd.underlying66 (zeroBF w) (plainElem_bool Tryd.underlying4 false) (key := .string s) (kl := .string s.data.toList) (WideMaps.keyOf_string_mk Tryd.underlying9 hs)
 rw [h2 s] at hv
 have : v = .bool (inS s S) := by
  unfold plainElem at hv
  rw [Tryd.underlying4] at hv
  generalize inS s S = r at *
  cases v <;> simp at hv
  rw [hv.1]
 rw [hrun, this]
theorem wpList_update_set (w : World) (hg : o.guard = none) (m x : Operand) (hop : o.op = Op.mapUpdate 66 m x (.const (.bool true))) {b n : Nat} {S : List ByteArray} {s : ByteArray}
  (hm : act.eval m = .map (some b)) (hS : SetIn w b n S) (hn : n < maxLen) (hx : act.eval x = .string s) (hs : s.size ≤ maxLen)
  (hK : ∀ w', SetIn w' b (n + 1) (S ++ [s]) → w.grownBy w' (some b) → wpList Tryd.prog ops Q rest (act.put o.dst undef) w') : wpList Tryd.prog ops Q (o :: rest) act w := by
 obtain ⟨D, h1, h2⟩ := hS
 refine wpList_mapUpdate_own w hg m x (.const (.bool true)) 66 hop 9 4 keyedF Tryd.underlying66 _ b n D hm h1 hn (.string s) (.bool true) (.string s.data.toList) hx rfl (WideMaps.keyOf_string_mk Tryd.underlying9 hs)
  (.lit (.bool true)) [] (plainElem_bool Tryd.underlying4 true) ?_
 intro w' h3 h4
 refine hK w' ⟨_, h3, fun s' => ?_⟩ h4
 by_cases he : s' = s
 · subst he
   rw [Maps.atKey_put_same (h1.isMap) (show WideAt.IsKeyLit (.string s'.data.toList) from trivial)]
   simp [inS]
 · rw [Maps.atKey_put_other (fun e => he (ba_ext (by injection e)))]
   rw [h2 s']
   have : (s.toList == s'.toList) = false := by rw [toList_eq]; simp; exact fun e => he e.symm
   simp [inS, this]
end
theorem lowS_sizeF (s : ByteArray) : (lowS s).size = s.size := by
 show (lowS s).data.size = s.data.size
 simp [lowS]
def RetSet (w : World) (S : List ByteArray) (e : Ending) (w' : World) : Prop :=
 ∃ b n, e = .returned (.map (some b)) ∧ SetIn w' b n S ∧ Below w.heap.size w w'
set_option maxRecDepth 100000 in
set_option maxHeartbeats 1000000 in
theorem setOf_any (l : List ByteArray) (a : Option Addr) (cap : Nat) (w : World) (h : StrsIn w a l) (hz : ∀ s ∈ l, s.size ≤ maxLen) (hl : l.length ≤ 140737488355328) :
  Calls Tryd.prog 41 #[.slice a l.length cap] w (RetSet w (l.map lowS)) := by
 have H0 := Box.mk h
 have HZ := Box.mk hz
 clear h hz
 have hmm := @run_makeMap Tryd.prog
 go_enter Tryd.func41, Tryd.ntmps41
 go_wp2_with fail
 obtain ⟨W, hW⟩ : ∃ W, W = w.alloc (.map #[] 0) := ⟨_, rfl⟩
 have HS := Box.mk (SetIn.made w)
 have HB := Box.mk (below_oneF w (.map #[] 0))
 rw [← hW] at HS HB ⊢
 clear hW
 generalize hb : w.heap.size = b at HS ⊢
 have HBS := Box.mk hb
 clear hb
 go_loopw [9] (fun iv wr => ∃ k : Nat, k ≤ l.length ∧ iv = .int .i64 k ∧ Box (SetIn wr b k ((l.take k).map lowS) ∧ Below w.heap.size w wr)) (fun iv _ => l.length - (intOf iv).toNat)
 case atStart => exact ⟨0, Nat.zero_le _, rfl, ⟨by simpa using HS.out, HB.out⟩⟩
 case round =>
  clear HS HB
  obtain ⟨k, hk, rfl, HM⟩ := hrel
  by_cases hlt : k < l.length
  · obtain ⟨x, rfl, hx⟩ := (H0.out.keep HM.out.2) k hlt
    have HT := Box.mk (show (l.take (k + 1)).map lowS = (l.take k).map lowS ++ [lowS l[k]] by rw [List.take_succ_eq_append_getElem hlt, List.map_append]; rfl)
    have HSZ := Box.mk (HZ.out _ (List.getElem_mem hlt))
    generalize l[k] = s at *
    go_wp2_with fail
    refine (lower_any s _ HSZ.out).mono ?_
    rintro e w1 ⟨rfl, hb1⟩
    have HS1 := Box.mk (HM.out.1.keep hb1)
    have HB1 := Box.mk (below_trans HM.out.2 hb1)
    have HLZ := Box.mk (show (lowS s).size ≤ maxLen by rw [lowS_sizeF]; exact HSZ.out)
    clear hb1
    go_wp2_with (at_mapUpdate; refine wpList_update_set _ rfl _ _ rfl rfl HS1.out (by unfold maxLen; omega) rfl HLZ.out ?c1)
    case c1 =>
     intro w2 hs2 hg2
     have HM2 := Box.mk (show SetIn w2 b (k + 1) ((l.take (k + 1)).map lowS) ∧ Below w.heap.size w w2 from ⟨by rw [HT.out, List.map_take]; exact hs2, HB1.out.grown hg2 HB1.out.size (fun j hj => by injection hj with hj; have := HBS.out; omega)⟩)
     clear hs2 hg2 HS1 HB1 HT
     go_wp2_with fail
     go_roundw
     case rel => exact ⟨k + 1, by omega, by go_num, HM2⟩
     case measure => simp [intOf]; omega
  · have HE := Box.mk (show SetIn wr b k (l.map lowS) by have := HM.out.1; rw [List.take_of_length_le (by omega)] at this; exact this)
    go_wp2_with fail
    go_ret
    exact ⟨b, k, rfl, HE.out, HM.out.2⟩
set_option maxHeartbeats 1000000 in
theorem hdrIn_any (n v : ByteArray) (b m : Nat) (S : List ByteArray) (w : World) (h : SetIn w b m S) (hn : n.size ≤ maxLen) :
  Calls Tryd.prog 42 #[.agg #[.string n, .string v], .map (some b)] w fun e w' => e = .returned (.bool (inS (lowS n) S)) ∧ Below w.heap.size w w' := by
 have H0 := Box.mk (h.keep (below_oneF w (.cells #[.string n, .string v] 69)))
 clear h
 go_enter Tryd.func42, Tryd.ntmps42
 go_wp2_with fail
 refine (lower_any n _ hn).mono ?_
 rintro e w1 ⟨rfl, hb⟩
 have hrun := (H0.out.keep hb).run (lowS n) (by rw [lowS_sizeF]; exact hn)
 have HB := Box.mk (below_trans (below_oneF w (.cells #[.string n, .string v] 69)) hb)
 clear hb
 generalize hr : inS (lowS n) S = r at *
 have HR := Box.mk hr
 clear hr
 go_wp2_with fail
 go_ret
 exact ⟨ret_bool HR.out.symm, HB.out⟩
end Go.Proofs.YthgiplnidnkajaaDoor
namespace Go.Proofs.YthgiplnidnkajaaDoor
open Go.ChangeShapes Go.WideShapes Go.ChangeAt Go.RowKit
abbrev Fld := ByteArray × ByteArray
def cellsF (l : List Fld) : List Value := l.flatMap fun f => [.string f.1, .string f.2]
theorem cellsF_len (l : List Fld) : (cellsF l).length = l.length * 2 := by
 induction l with
 | nil => rfl
 | cons a t ih =>
  have : cellsF (a :: t) = .string a.1 :: .string a.2 :: cellsF t := rfl
  rw [this]; simp only [List.length_cons, ih]; omega
theorem cellsF_app (a b : List Fld) : cellsF (a ++ b) = cellsF a ++ cellsF b := by unfold cellsF; rw [List.flatMap_append]
theorem cellsF_get : ∀ (l : List Fld) (j : Nat) (hj : j < l.length), (cellsF l)[j * 2]? = some (.string l[j].1) ∧ (cellsF l)[j * 2 + 1]? = some (.string l[j].2)
 | a :: t, 0, _ => ⟨rfl, rfl⟩
 | a :: t, j + 1, hj => by
  have ih := cellsF_get t j (by simpa using hj)
  have e : cellsF (a :: t) = .string a.1 :: .string a.2 :: cellsF t := rfl
  rw [e, show (j + 1) * 2 = j * 2 + 1 + 1 by omega, show j * 2 + 1 + 1 + 1 = (j * 2 + 1) + 1 + 1 by omega]
  simpa using ih
theorem cell_next {w : World} {x : Addr} {i : Nat} {v : Value} (h : w.cell? (x.add (i + 1)) = some v) : w.cell? ⟨(x.add i).block, (x.add i).off + 1, none⟩ = some v := by
 rw [← Go.Deep.add_add] at h
 rw [← h]; rfl
def FldsIn (w : World) (a : Option Addr) (l : List Fld) : Prop :=
 ∀ j (hj : j < l.length), ∃ x, a = some x ∧ w.cell? (x.add (j * 2)) = some (.string l[j].1) ∧ w.cell? (x.add (j * 2 + 1)) = some (.string l[j].2)
theorem FldsIn.keep {w w' : World} {a : Option Addr} {l : List Fld} (h : FldsIn w a l) (hb : Below w.heap.size w w') : FldsIn w' a l := fun j hj => by
 obtain ⟨x, e, h1, h2⟩ := h j hj
 exact ⟨x, e, below_cell hb h1, below_cell hb h2⟩
theorem FldsIn.nil (w : World) (a : Option Addr) : FldsIn w a [] := fun _ hj => absurd hj (Nat.not_lt_zero _)
theorem FldsIn.cells {w : World} {x : Addr} {l : List Fld} (h : FldsIn w (some x) l) : ∀ j u, (cellsF l)[j]? = some u → w.cell? (x.add j) = some u := fun j u hj => by
 have hlt : j < l.length * 2 := by rw [← cellsF_len]; exact (List.getElem?_eq_some_iff.1 hj).1
 have hk : j / 2 < l.length := by omega
 obtain ⟨y, e, h1, h2⟩ := h (j / 2) hk
 obtain rfl := Option.some.inj e
 obtain ⟨g1, g2⟩ := cellsF_get l (j / 2) hk
 rcases Nat.mod_two_eq_zero_or_one j with hm | hm
 · have : j / 2 * 2 = j := by omega
   rw [this] at h1 g1
   rw [hj] at g1; rw [h1, ← g1]
 · have : j / 2 * 2 + 1 = j := by omega
   rw [this] at h2 g2
   rw [hj] at g2; rw [h2, ← g2]
theorem FldsIn.of_cells {w : World} {x : Addr} {l : List Fld} (h : ∀ j u, (cellsF l)[j]? = some u → w.cell? (x.add j) = some u) : FldsIn w (some x) l := fun j hj =>
 ⟨x, rfl, h _ _ (cellsF_get l j hj).1, h _ _ (cellsF_get l j hj).2⟩
section
variable {ops : Array Oper} {rest : List Oper} {o : Oper} {act : Act} {Q : Exit → Act → World → Prop}
end
def ShortF (l : List Fld) : Prop := ∀ f ∈ l, f.1.size ≤ maxLen ∧ f.2.size ≤ maxLen
end Go.Proofs.YthgiplnidnkajaaDoor
namespace Go.Proofs.YthgiplnidnkajaaDoor
open Go.RowKit
def valuesL (l : List Fld) (n : ByteArray) : List ByteArray := (l.filter fun f => foldS f.1 n).map (·.2)
theorem valuesL_yes (l : List Fld) (n : ByteArray) (k : Nat) (h : k < l.length) (hf : foldS l[k].1 n = true) : valuesL (l.take (k + 1)) n = valuesL (l.take k) n ++ [l[k].2] := by
 unfold valuesL
 rw [List.take_succ_eq_append_getElem h, List.filter_append, List.map_append]; simp [hf]
theorem valuesL_no (l : List Fld) (n : ByteArray) (k : Nat) (h : k < l.length) (hf : foldS l[k].1 n = false) : valuesL (l.take (k + 1)) n = valuesL (l.take k) n := by
 unfold valuesL
 rw [List.take_succ_eq_append_getElem h, List.filter_append, List.map_append]; simp [hf]
theorem valuesL_len (l : List Fld) (n : ByteArray) : (valuesL l n).length ≤ l.length := by
 unfold valuesL; rw [List.length_map]; exact List.length_filter_le _ _
def inFoldL (l : List ByteArray) (s : ByteArray) : Bool := l.any fun x => foldS x s
theorem inS_map (s : ByteArray) (ns : List ByteArray) : inS (lowS s) (ns.map lowS) = inFoldL ns s := by
 unfold inS inFoldL foldS
 rw [List.any_map]; rfl
theorem inS_one (s n : ByteArray) : inS (lowS s) ([n].map lowS) = foldS s n := by
 rw [inS_map]
 unfold inFoldL foldS
 simp only [List.any_cons, List.any_nil, Bool.or_false]
 exact Bool.beq_comm
theorem new_cellF (w : World) (cs : Array Value) (t : TypeId) (j : Nat) : (w.alloc (.cells cs t (0, 0))).cell? ⟨w.heap.size, j, none⟩ = cs[j]? :=
 cell_of_row _ _ _ _ _ _ (heap_alloc_new w (.cells cs t (0, 0)))
theorem strsIn_one (w : World) (n : ByteArray) (t : TypeId) : StrsIn (w.alloc (.cells #[.string n] t)) (some ⟨w.heap.size, 0, none⟩) [n] := fun j hj => by
 obtain rfl : j = 0 := by simpa using hj
 exact ⟨_, rfl, by rw [Addr.add_lit, new_cellF]; rfl⟩
theorem below_twoF {w w1 : World} (h : Below w.heap.size w w1) (o : Obj) : Below w.heap.size w (w1.alloc o) := below_trans h (below_oneF w1 o)
theorem SetIn.grown {w w' : World} {b n : Nat} {S : List ByteArray} {row : Option Nat} (h : SetIn w b n S) (hg : w.grownBy w' row) (hne : row ≠ some b) : SetIn w' b n S := by
 obtain ⟨D, h1, h2⟩ := h
 exact ⟨D, h1.kept hg (fun e => hne e.symm), h2⟩
section
variable {ops : Array Oper} {rest : List Oper} {o : Oper} {act : Act} {Q : Exit → Act → World → Prop}
theorem wpList_append_accset (w : World) (hgd : o.guard = none) (s x : Operand) (ho : o.op = .call { callee := .builtin .append, args := #[s, x], argTypes := #[50, 50] })
  {w0 : World} {v : Value} {l : List ByteArray} (hs : act.eval s = v) (h : Acc w0 w v l) {b c : Nat} (hx : act.eval x = .slice (some ⟨b, 0, none⟩) 1 c) {y : ByteArray} (hy : w.cell? ⟨b, 0, none⟩ = some (.string y))
  {q m : Nat} {S : List ByteArray} (hS : SetIn w q m S) (hne : v.ownBlock ≠ some q) (hn : l.length + 1 ≤ 8796093022208)
  (K : ∀ v' w', Acc w0 w' v' (l ++ [y]) → SetIn w' q m S → v'.ownBlock ≠ some q → wpList Tryd.prog ops Q rest (act.put o.dst v') w') : wpList Tryd.prog ops Q (o :: rest) act w := by
 obtain ⟨i0, hi, hz0, hz1, hz2⟩ := info_parts Tryd.info9
 refine wpList_append_lies w hgd s x 50 ho w0.heap.size 9 i0 (.string ⟨#[]⟩) 1 16 Tryd.underlying50 hi hz0 hz1 hz2 rfl (by decide) v l.length (l.map Value.string) hs h.1 ⟨b, 0, none⟩ 1 c [.string y] hx rfl ?_ ?_ (by decide) (by unfold maxLen; omega) (by omega) h.2.size w.heap.size rfl ?_
 · intro j u hj
   match j, hj with
   | 0, hj => simp at hj; subst hj; rw [Addr.add_lit]; exact hy
   | j + 1, hj => simp at hj
 · intro u hu; simp at hu; subst hu; rfl
 · intro g cap w' hown hgrow hg hlt
   refine K _ w' ⟨by simpa using hown, h.2.grown hgrow h.2.size fun k hk => (World.ownsRow.lt h.1 k hk).1⟩ (hS.grown hgrow hne) (fun e => ?_)
   have : g = q := by simpa [Value.ownBlock] using e
   subst this
   rcases hg with hg | hg
   · exact hne hg
   · have := hS.lt; omega
end
theorem one_short (n : ByteArray) : ([n] : List ByteArray).length ≤ 140737488355328 := by show 1 ≤ 140737488355328; decide
set_option maxRecDepth 100000 in
set_option maxHeartbeats 2000000 in
theorem fValues_any (l : List Fld) (n : ByteArray) (a : Option Addr) (cap : Nat) (w : World) (h : FldsIn w a l) (hz : ShortF l) (hn : n.size ≤ maxLen) (hl : l.length ≤ 1000000) :
  Calls Tryd.prog 25 #[.slice a l.length cap, .string n] w (RetStrs w (valuesL l n)) := by
 have H0 := Box.mk h
 have HZ := Box.mk hz
 clear h hz
 go_enter Tryd.func25, Tryd.ntmps25
 go_wp2_with fail
 refine (setOf_any [n] _ _ _ (strsIn_one w n _) (by simpa using hn) (one_short n)).mono ?_
 rintro e w1 ⟨b, m, rfl, hS, hb⟩
 have HS := Box.mk hS
 have HB := Box.mk (below_trans (below_oneF w (.cells #[.string n] 9)) hb)
 clear hS hb
 have HA0 := Box.mk (show Acc w w1 (.slice none 0 0) (valuesL (l.take 0) n) from ⟨World.ownsRow_nil _ _ _ _, HB.out⟩)
 go_wp2_with fail
 go_loopw [5, 14] (fun v iv wr => ∃ k : Nat, k ≤ l.length ∧ iv = .int .i64 k ∧ Box (Acc w wr v (valuesL (l.take k) n) ∧ SetIn wr b m ([n].map lowS) ∧ v.ownBlock ≠ some b)) (fun _ iv _ => l.length - (intOf iv).toNat)
 case atStart => exact ⟨0, Nat.zero_le _, rfl, ⟨HA0.out, HS.out, by simp [Value.ownBlock]⟩⟩
 case round =>
  clear HS HB HA0
  obtain ⟨k, hk, rfl, HM⟩ := hrel
  by_cases hlt : k < l.length
  · obtain ⟨x, rfl, hx1, hx2⟩ := (H0.out.keep HM.out.1.2) k hlt
    have hx2 := cell_next hx2
    have HSZ := Box.mk (HZ.out _ (List.getElem_mem hlt))
    have hVL := valuesL_len (l.take k) n
    have hVL2 : (l.take k).length ≤ k := List.length_take_le _ _
    by_cases hf : foldS l[k].1 n = true
    · have HT := Box.mk (valuesL_yes l n k hlt hf)
      have HIN := Box.mk (show inS (lowS l[k].1) ([n].map lowS) = true by rw [inS_one]; exact hf)
      clear hf
      generalize l[k] = f at *
      go_wp2_with fail
      refine (hdrIn_any f.1 f.2 b m _ _ (HM.out.2.1.keep (below_oneF wr (.cells #[.string f.1, .string f.2] 37))) HSZ.out.1).mono ?_
      rintro e w2 ⟨he, hb1⟩
      rw [HIN.out] at he
      subst he
      have hc2 : w2.cell? ⟨wr.heap.size, 1, none⟩ = some (.string f.2) := below_cell hb1 (by rw [new_cellF]; rfl)
      have HB2 := Box.mk (below_trans (below_oneF wr (.cells #[.string f.1, .string f.2] 37)) hb1)
      have HA2 := Box.mk (HM.out.1.keep HB2.out)
      have HS2 := Box.mk (HM.out.2.1.keep HB2.out)
      clear hb1 HIN
      go_wp2_with (at_builtin; refine wpList_append_accset _ rfl _ _ rfl rfl (HA2.out.keep ((Below.refl _ _).alloc (Nat.le_refl _) _)) rfl (y := f.2) ?c1 (HS2.out.keep ((Below.refl _ _).alloc (Nat.le_refl _) _)) HM.out.2.2 ?c2 ?c3)
      case c1 => simp
      case c2 => omega
      case c3 =>
       intro v' w' hacc hs' hne
       have HACC := Box.mk (show Acc w w' v' (valuesL (l.take (k + 1)) n) ∧ SetIn w' b m ([n].map lowS) ∧ v'.ownBlock ≠ some b by rw [HT.out]; exact ⟨hacc, hs', hne⟩)
       clear hacc hs' hne HT HA2 HS2 HB2 HM
       go_wp2_with fail
       go_roundw
       case rel => exact ⟨k + 1, by omega, by go_num, HACC⟩
       case measure => simp [intOf]; omega
    · have hf' : foldS l[k].1 n = false := by simpa using hf
      have HT := Box.mk (valuesL_no l n k hlt hf')
      have HIN := Box.mk (show inS (lowS l[k].1) ([n].map lowS) = false by rw [inS_one]; exact hf')
      clear hf hf'
      generalize l[k] = f at *
      go_wp2_with fail
      refine (hdrIn_any f.1 f.2 b m _ _ (HM.out.2.1.keep (below_oneF wr (.cells #[.string f.1, .string f.2] 37))) HSZ.out.1).mono ?_
      rintro e w2 ⟨he, hb1⟩
      rw [HIN.out] at he
      subst he
      have HB2 := Box.mk (below_trans (below_oneF wr (.cells #[.string f.1, .string f.2] 37)) hb1)
      have HM2 := Box.mk (show Acc w w2 _ (valuesL (l.take (k + 1)) n) ∧ SetIn w2 b m ([n].map lowS) ∧ _ by rw [HT.out]; exact ⟨HM.out.1.keep HB2.out, HM.out.2.1.keep HB2.out, HM.out.2.2⟩)
      clear hb1 HIN HT HB2
      go_wp2_with fail
      go_roundw
      case rel => exact ⟨k + 1, by omega, by go_num, HM2⟩
      case measure => simp [intOf]; omega
  · have HE := Box.mk (show Acc w wr _ (valuesL l n) by have := HM.out.1; rw [List.take_of_length_le (by omega)] at this; exact this)
    go_wp2_with fail
    obtain ⟨a', cap', rfl, hs⟩ := HE.out.shape
    go_ret
    exact ⟨a', cap', rfl, hs, HE.out.2⟩
end Go.Proofs.YthgiplnidnkajaaDoor
namespace Go.Proofs.YthgiplnidnkajaaDoor
open Go.RowKit
theorem extract_le (s : ByteArray) (i j : Nat) : (s.extract i j).size ≤ s.size := by
 rw [ByteArray.size_extract]; omega
theorem results_row_tmpF {P : Program} {fn : Func} {q p : Tmp} {ty : TypeId} (h : fn.results = #[.cell p ty, .tmp q]) (tmps : Array Value) (w : World) (g : Nat) (t : TypeId) (cs : Array Value) (fr : Nat × Nat) (d : TypeDesc)
  (hp : tmps.getD p undef = .pointer (some ⟨g, 0, none⟩)) (hg : w.heap[g]? = some (.cells cs t fr))
  (hu : P.underlying ty = some d) (hd : (match d with | .struct _ | .array _ _ => true | _ => false) = true) (hi : (P.info? ty).map (·.size) = some cs.size) :
  (results fn tmps).run P w = .ok (.tuple #[.agg cs, tmps.getD q undef]) w := by
 have hp' : tmps[p]?.getD undef = .pointer (some ⟨g, 0, none⟩) := by simpa using hp
 simp [results, h, hp', asAddr, run_loadVar_row w g t ty cs fr d hg hu hd hi]
theorem sizeF : (Tryd.prog.info? 37).map (·.size) = some 2 := by kernel_rfl
theorem oneF (a b : ByteArray) : (#[Value.string a, .string b] : Array Value).all (·.oneCell') = true := by simp [Value.oneCell']
def FVar (w : World) (g : Nat) (n v : ByteArray) : Prop := w.heap[g]? = some (.cells #[.string n, .string v] 37 (0, 0))
theorem FVar.new (w : World) (n v : ByteArray) : FVar (w.alloc (.cells #[.string n, .string v] 37)) w.heap.size n v := heap_alloc_new _ _
def withI (z : Int) (n : Nat) : Int := (wrap64 (z.tmod n + n)).tmod n
theorem withI_range (z : Int) (n : Nat) (h0 : 0 < n) (hn : n ≤ 1000000000) : ∃ k : Nat, k < n ∧ withI z n = (k : Int) := by
 have h1 : z.tmod n < n := Int.tmod_lt_of_pos z (by omega)
 have h2 : -(n : Int) < z.tmod n := Int.lt_tmod_of_pos z (by omega)
 unfold withI
 generalize z.tmod n = y at *
 have e : wrap64 (y + n) = y + n := by simp only [wrap64]; omega
 rw [e, Int.tmod_eq_emod_of_nonneg (by omega)]
 exact ⟨((y + n) % n).toNat, by have := Int.emod_lt_of_pos (y + n) (show (0 : Int) < n by omega); have := Int.emod_nonneg (y + n) (show (n : Int) ≠ 0 by omega); omega, by have := Int.emod_nonneg (y + n) (show (n : Int) ≠ 0 by omega); omega⟩
theorem withinF (z : Int) (n : Nat) (w : World) (h0 : 0 < n) (hn : n ≤ 1000000000) :
  Calls Tryd.prog 13 #[.int .i64 z, .int .i64 n] w fun e w' => e = .returned (.int .i64 (withI z n)) ∧ w' = w := by
 go_enter Tryd.func13, Tryd.ntmps13
 go_wp2
 go_ret
 exact ⟨rfl, rfl⟩
def idxI (c : UInt8) (s : ByteArray) : Int := Lib.indexByte s.data.toList c
theorem idxI_ge (c : UInt8) (s : ByteArray) : -1 ≤ idxI c s := Lib.indexByte_ge _ _
theorem idxI_lt (c : UInt8) (s : ByteArray) {k : Nat} (h : idxI c s = k) : k < s.size := by
 have := (Lib.indexByte_some h).1
 have := (List.getElem?_eq_some_iff.1 this).1
 simpa using this
theorem idxI_at (c : UInt8) (s : ByteArray) (k : Nat) (hk : k < s.size) (h : s[k] = c) (hp : ∀ j, j < k → s.data.toList[j]? ≠ some c) : idxI c s = k := by
 have hge := idxI_ge c s
 have hkk : s.data.toList[k]? = some c := by
  rw [List.getElem?_eq_getElem (by simpa using hk)]
  exact congrArg some h
 by_cases h1 : idxI c s = -1
 · exact absurd hkk (Lib.indexByte_none h1 k)
 · obtain ⟨o, ho⟩ : ∃ o : Nat, idxI c s = o := ⟨(idxI c s).toNat, by omega⟩
   have h2 := Lib.indexByte_some ho
   rw [ho]
   congr 1
   rcases Nat.lt_trichotomy o k with h3 | h3 | h3
   · exact absurd h2.1 (hp o h3)
   · exact h3
   · exact absurd hkk (h2.2 k h3)
def cutS (d : UInt8) (s : ByteArray) : ByteArray × ByteArray :=
 if 0 ≤ idxI d s then (s.extract 0 (idxI d s).toNat, s.extract ((idxI d s).toNat + 1) s.size) else (s, ⟨#[]⟩)
theorem cutS_at {d : UInt8} {s : ByteArray} {k : Nat} (h : idxI d s = k) : cutS d s = (s.extract 0 k, s.extract (k + 1) s.size) := by unfold cutS; rw [h]; simp
theorem cutS_no {d : UInt8} {s : ByteArray} (h : idxI d s = -1) : cutS d s = (s, ⟨#[]⟩) := by unfold cutS; rw [h]; rfl
theorem idxI_cases (d : UInt8) (s : ByteArray) : idxI d s = -1 ∨ ∃ k : Nat, idxI d s = k ∧ k < s.size := by
 have := idxI_ge d s
 by_cases h : idxI d s = -1
 · exact .inl h
 · refine .inr ⟨(idxI d s).toNat, by omega, idxI_lt d s (by omega)⟩
theorem cutS_size1 (d : UInt8) (s : ByteArray) : (cutS d s).1.size ≤ s.size := by
 rcases idxI_cases d s with h | ⟨k, h, hk⟩
 · rw [cutS_no h]; exact Nat.le_refl _
 · rw [cutS_at h]; exact extract_le _ _ _
def pairO (p : ByteArray) : List Fld := if decide (0 ≤ idxI 61 p) && tokS (cutS 61 p).1 then [cutS 61 p] else []
theorem pairO_none {p : ByteArray} (h : idxI 61 p = -1) : pairO p = [] := by unfold pairO; rw [h]; rfl
theorem pairO_no {p : ByteArray} (h : tokS (cutS 61 p).1 = false) : pairO p = [] := by unfold pairO; rw [h]; simp
theorem pairO_yes {p : ByteArray} {k : Nat} (h : idxI 61 p = k) (ht : tokS (cutS 61 p).1 = true) : pairO p = [cutS 61 p] := by
 unfold pairO
 rw [h, ht, if_pos (by simp)]
theorem pairO_len (p : ByteArray) : (pairO p).length ≤ 1 := by unfold pairO; split <;> simp
theorem pairO_cases (p : ByteArray) : pairO p = [] ∨ pairO p = [cutS 61 p] := by unfold pairO; split <;> simp
def partsL (l : List ByteArray) : List Fld := l.flatMap fun p => pairO (trimBA p)
theorem partsL_snoc (l : List ByteArray) (k : Nat) (h : k < l.length) : partsL (l.take (k + 1)) = partsL (l.take k) ++ pairO (trimBA l[k]) := by
 unfold partsL
 rw [List.take_succ_eq_append_getElem h, List.flatMap_append]; simp
theorem partsL_len : ∀ l : List ByteArray, (partsL l).length ≤ l.length
 | [] => Nat.le_refl _
 | a :: t => by
  have h1 := partsL_len t
  have h2 := pairO_len (trimBA a)
  have e : partsL (a :: t) = pairO (trimBA a) ++ partsL t := by unfold partsL; rw [List.flatMap_cons]
  rw [e, List.length_append, List.length_cons]; omega
def pairsV (v : ByteArray) : List Fld := partsL (splitS 59 v)
def pairsL (l : List ByteArray) : List Fld := l.flatMap pairsV
theorem pairsL_snoc (l : List ByteArray) (k : Nat) (h : k < l.length) : pairsL (l.take (k + 1)) = pairsL (l.take k) ++ pairsV l[k] := by
 unfold pairsL
 rw [List.take_succ_eq_append_getElem h, List.flatMap_append]; simp
theorem pairsL_len : ∀ l : List ByteArray, (pairsL l).length ≤ total l
 | [] => Nat.le_refl _
 | a :: t => by
  have h1 := pairsL_len t
  have h2 := partsL_len (splitS 59 a)
  have h3 := splitS_length 59 a
  have e : pairsL (a :: t) = pairsV a ++ pairsL t := by unfold pairsL; rw [List.flatMap_cons]
  rw [e, List.length_append]
  unfold total pairsV
  omega
def ckU : ByteArray := ⟨#[67, 111, 111, 107, 105, 101]⟩
def ckL : ByteArray := ⟨#[99, 111, 111, 107, 105, 101]⟩
theorem values_fold {n m : ByteArray} (h : lowS n = lowS m) (l : List Fld) : valuesL l n = valuesL l m := by
 unfold valuesL foldS
 rw [h]
theorem ck_low : lowS ckU = lowS ckL := by decide +kernel
theorem values_ck (l : List Fld) : valuesL l ckU = valuesL l ckL := values_fold ck_low l
def idDig : ByteArray := ⟨#[48, 49, 50, 51, 52, 53, 54, 55, 56, 57, 97, 98, 99, 100, 101, 102]⟩
def idB (c : UInt8) : Bool := hasS idDig c
def idS (s : ByteArray) : Bool := decide (s.size = 16) && s.data.toList.all idB
theorem idS_len {s : ByteArray} (h : ¬ s.size = 16) : idS s = false := by unfold idS; rw [decide_eq_false h]; rfl
theorem idS_no {s : ByteArray} {k : Nat} (hlt : k < s.size) (hc : idB s[k] = false) : idS s = false := by
 unfold idS
 rw [Bool.and_eq_false_iff]; right
 rw [Bool.eq_false_iff]; intro h
 have := List.all_eq_true.1 h _ (mem_at s k hlt); rw [hc] at this; cases this
theorem idS_end {s : ByteArray} {k : Nat} (hk : k ≤ s.size) (hlt : ¬ k < s.size) (h : (s.data.toList.take k).all idB = true) : idS s = decide (s.size = 16) := by
 rw [take_all s k hk hlt] at h
 unfold idS; rw [h, Bool.and_true]
theorem idB_eq (c : UInt8) : idB c = (digB (c.toNat : Int) || (decide (97 ≤ (c.toNat : Int)) && decide ((c.toNat : Int) ≤ 102))) := by
 have h : ∀ m : Fin 256, idB (UInt8.ofNat m.val) = (digB (((UInt8.ofNat m.val).toNat : Nat) : Int) || (decide (97 ≤ (((UInt8.ofNat m.val).toNat : Nat) : Int)) && decide ((((UInt8.ofNat m.val).toNat : Nat) : Int) ≤ 102))) := by decide +kernel
 have h2 := h ⟨c.toNat, c.toNat_lt⟩
 rwa [UInt8.ofNat_toNat] at h2
theorem idxI_one (d : UInt8) (s : ByteArray) (h : (⟨#[d]⟩ : ByteArray) = s) : idxI d s = 0 := by
 subst h
 exact idxI_at d ⟨#[d]⟩ 0 (show 0 < 1 by decide) rfl (fun j hj => absurd hj (Nat.not_lt_zero _))
set_option maxRecDepth 100000 in
set_option maxHeartbeats 2000000 in
theorem idxLiteC_any (d : UInt8) (s c : ByteArray) (w : World) (hz : c.size = 1) (h0 : ∀ h, c[0]'h = d) (hc : c = ⟨#[d]⟩) :
  Calls Tryd.prog 72 #[.string s, .string c] w fun e w' => e = .returned (.int .i64 (idxI d s)) ∧ w = w' := by
 by_cases he : c = s
 · have HE := Box.mk (idxI_one d s (by rw [← hc]; exact he))
   have h1 : (c.toList == s.toList) = true := by rw [toList_eq]; simp [he]
   clear he hc
   go_enter Tryd.func72, Tryd.ntmps72
   go_wp2_with fail
   go_ret
   exact ⟨ret_int HE.out.symm, rfl⟩
 · have h1 : (c.toList == s.toList) = false := by rw [toList_eq]; simp [he]
   clear he hc
   go_enter Tryd.func72, Tryd.ntmps72
   go_wp2_with fail
   refine (indexByteLite_any s d _).mono ?_
   rintro e w1 ⟨rfl, rfl⟩
   go_wp2_with fail
   go_ret
   exact ⟨rfl, rfl⟩
set_option maxRecDepth 100000 in
set_option maxHeartbeats 2000000 in
theorem liteCutC_yes (d : UInt8) (s c : ByteArray) (k : Nat) (w : World) (hs : s.size ≤ maxLen) (hz : c.size = 1) (h0 : ∀ h, c[0]'h = d) (hc : c = ⟨#[d]⟩) (hk : idxI d s = k) :
  Calls Tryd.prog 57 #[.string s, .string c] w fun e w' => e = .returned (.tuple #[.string (s.extract 0 k), .string (s.extract (k + 1) s.size), .bool true]) ∧ Below w.heap.size w w' := by
 have hlt := idxI_lt d s hk
 unfold maxLen at hs
 have HK := Box.mk hk
 have H0 := Box.mk (And.intro h0 hc)
 clear hk h0 hc
 go_enter Tryd.func57, Tryd.ntmps57
 go_wp2_with fail
 refine (idxLiteC_any d s c _ hz H0.out.1 H0.out.2).mono ?_
 rintro e w1 ⟨he, rfl⟩
 rw [HK.out] at he
 subst he
 go_wp2_with fail
 go_quiet (fail)
 go_wp2
 go_ret3
 exact ⟨rfl, below_drewN (Below.refl _ _) _⟩
set_option maxRecDepth 100000 in
set_option maxHeartbeats 2000000 in
theorem liteCutC_no (d : UInt8) (s c : ByteArray) (w : World) (hz : c.size = 1) (h0 : ∀ h, c[0]'h = d) (hc : c = ⟨#[d]⟩) (hk : idxI d s = -1) :
  Calls Tryd.prog 57 #[.string s, .string c] w fun e w' => e = .returned (.tuple #[.string s, .string ⟨#[]⟩, .bool false]) ∧ Below w.heap.size w w' := by
 have HK := Box.mk hk
 have H0 := Box.mk (And.intro h0 hc)
 clear hk h0 hc
 go_enter Tryd.func57, Tryd.ntmps57
 go_wp2_with fail
 refine (idxLiteC_any d s c _ hz H0.out.1 H0.out.2).mono ?_
 rintro e w1 ⟨he, rfl⟩
 rw [HK.out] at he
 subst he
 go_wp2_with fail
 go_ret3
 exact ⟨rfl, Below.refl _ _⟩
end Go.Proofs.YthgiplnidnkajaaDoor
namespace Go.Proofs.YthgiplnidnkajaaDoor
open Go.ChangeShapes Go.WideShapes Go.ChangeAt Go.RowKit
theorem Tryd.info29 : (Tryd.prog.info? 29).map (fun i => (i.zero, i.size, i.bytes)) = some (some (.agg #[.string ⟨#[]⟩, .string ⟨#[]⟩]), 2, 32) := by kernel_rfl
def AccP (w0 w : World) (v : Value) (l : List Fld) : Prop :=
 w.ownsRow w0.heap.size 29 2 v l.length (cellsF l) ∧ Below w0.heap.size w0 w
theorem AccP.start (w : World) : AccP w w (.slice none 0 0) [] := ⟨World.ownsRow_nil _ _ _ _, Below.refl _ _⟩
theorem AccP.keep {w0 w w' : World} {v : Value} {l : List Fld} (h : AccP w0 w v l) (hb : Below w.heap.size w w') : AccP w0 w' v l :=
 ⟨ownsRow_keep h.1 hb, h.2.trans (hb.mono h.2.size)⟩
theorem AccP.shape {w0 w : World} {v : Value} {l : List Fld} (h : AccP w0 w v l) : ∃ a cap, v = .slice a l.length cap ∧ FldsIn w a l := by
 obtain ⟨⟨h1, h2⟩, _⟩ := h
 rcases h2 with ⟨rfl, h2⟩ | ⟨g, cap, cur, rfl, hg, hc, hcap, hm, hsz, ht⟩
 · have : l = [] := List.eq_nil_of_length_eq_zero h2
   subst this
   exact ⟨none, 0, rfl, FldsIn.nil _ _⟩
 · refine ⟨_, cap, rfl, FldsIn.of_cells fun j u hj => ?_⟩
   have e := congrArg (fun x => x[j]?) ht
   have hlt : j < l.length * 2 := by rw [← cellsF_len]; exact (List.getElem?_eq_some_iff.1 hj).1
   rw [hj, List.getElem?_take_of_lt hlt] at e
   rw [Addr.add_lit]
   simp only [World.cell?, hc, Nat.zero_add]
   simpa using e
theorem AccP.lt {w0 w : World} {v : Value} {l : List Fld} (h : AccP w0 w v l) {k : Nat} (hk : v.ownBlock = some k) : w0.heap.size ≤ k ∧ k < w.heap.size := World.ownsRow.lt h.1 k hk
theorem AccP.lift {w w1 w2 : World} {v : Value} {l : List Fld} (h : Below w.heap.size w w1) (k : AccP w1 w2 v l) : AccP w w2 v l := by
 refine ⟨?_, below_trans h k.2⟩
 obtain ⟨⟨h1, h2⟩, _⟩ := k
 refine ⟨h1, ?_⟩
 rcases h2 with h2 | ⟨g, cap, cur, hv, hg, r⟩
 · exact .inl h2
 · exact .inr ⟨g, cap, cur, hv, Nat.le_trans h.size hg, r⟩
def RetAccP (w : World) (l : List Fld) (e : Ending) (w' : World) : Prop := ∃ v, e = .returned v ∧ AccP w w' v l
section
variable {ops : Array Oper} {rest : List Oper} {o : Oper} {act : Act} {Q : Exit → Act → World → Prop}
theorem wpList_append_accp (w : World) (hgd : o.guard = none) (s x : Operand) (ho : o.op = .call { callee := .builtin .append, args := #[s, x], argTypes := #[26, 26] })
  {w0 : World} {v : Value} {l : List Fld} (hs : act.eval s = v) (h : AccP w0 w v l) {b c : Nat} (hx : act.eval x = .slice (some ⟨b, 0, none⟩) 1 c) {y : Fld} (hy : w.cell? ⟨b, 0, none⟩ = some (.string y.1)) (hy2 : w.cell? ⟨b, 1, none⟩ = some (.string y.2))
  (hn : l.length + 1 ≤ 4398046511104)
  (K : ∀ v' w', AccP w0 w' v' (l ++ [y]) → w.grownBy w' v.ownBlock → (∀ k, v'.ownBlock = some k → v.ownBlock = some k ∨ w.heap.size ≤ k) →
   wpList Tryd.prog ops Q rest (act.put o.dst v') w') : wpList Tryd.prog ops Q (o :: rest) act w := by
 obtain ⟨i0, hi, hz0, hz1, hz2⟩ := info_parts Tryd.info29
 refine wpList_append_lies w hgd s x 26 ho w0.heap.size 29 i0 _ 2 32 Tryd.underlying26 hi hz0 hz1 hz2 rfl (by decide) v l.length (cellsF l) hs h.1 ⟨b, 0, none⟩ 1 c [.string y.1, .string y.2] hx rfl ?_ ?_ (by decide) (by unfold maxLen; omega) (by omega) h.2.size w.heap.size rfl ?_
 · intro j u hj
   match j, hj with
   | 0, hj => simp at hj; subst hj; rw [Addr.add_lit]; exact hy
   | 1, hj => simp at hj; subst hj; rw [Addr.add_lit]; exact hy2
   | j + 2, hj => simp at hj
 · intro u hu; simp at hu; rcases hu with rfl | rfl <;> rfl
 · intro g cap w' hown hgrow hg hlt
   refine K _ w' ⟨by rw [List.length_append, cellsF_app]; exact hown, h.2.grown hgrow h.2.size fun k hk => (World.ownsRow.lt h.1 k hk).1⟩ hgrow (fun k e => ?_)
   have : g = k := by simpa [Value.ownBlock] using e
   subst this
   exact hg.imp id fun e => Nat.le_of_eq e.symm
end
def BesideP (w : World) (v : Value) (a : Option Addr) (l : List ByteArray) : Prop :=
 StrsAt w a l ∧ ∀ x, a = some x → 0 < l.length → v.ownBlock ≠ some x.block ∧ x.block < w.heap.size
theorem BesideP.keep {w w' : World} {v : Value} {a : Option Addr} {l : List ByteArray} (h : BesideP w v a l) (hb : Below w.heap.size w w') : BesideP w' v a l :=
 ⟨h.1.keep hb, fun x e h0 => ⟨(h.2 x e h0).1, Nat.lt_of_lt_of_le (h.2 x e h0).2 hb.size⟩⟩
theorem BesideP.grow {w w' : World} {v v' : Value} {a : Option Addr} {l : List ByteArray} (h : BesideP w v a l) (hg : w.grownBy w' v.ownBlock) (hn : ∀ k, v'.ownBlock = some k → v.ownBlock = some k ∨ w.heap.size ≤ k) : BesideP w' v' a l := by
 refine ⟨fun j hj => ?_, fun x e h0 => ⟨fun e2 => ?_, Nat.lt_of_lt_of_le (h.2 x e h0).2 hg.size⟩⟩
 · obtain ⟨b, off, rfl, hc⟩ := h.1 j hj
   have hb := h.2 _ rfl (by omega)
   refine ⟨b, off, rfl, ?_⟩
   rw [World.cell?_of_block (hg.block b hb.2 (fun e => hb.1 e.symm))]
   exact hc
 · have hb := h.2 x e h0
   rcases hn _ e2 with h1 | h1
   · exact hb.1 h1
   · omega
set_option maxHeartbeats 2000000 in
theorem cutD_yes (d : UInt8) (s : ByteArray) (k : Nat) (w : World) (hs : s.size ≤ maxLen) (hk : idxI d s = k) :
  Calls Tryd.prog 44 #[.string s, .string ⟨#[d]⟩] w fun e w' => e = .returned (.tuple #[.string (cutS d s).1, .string (cutS d s).2, .bool true]) ∧ Below w.heap.size w w' := by
 have HK := Box.mk hk
 have HC := Box.mk (cutS_at hk)
 clear hk
 go_enter Tryd.func44, Tryd.ntmps44
 go_wp2_with fail
 refine (liteCutC_yes d s _ k _ hs rfl (fun _ => rfl) rfl HK.out).mono ?_
 rintro e w1 ⟨rfl, hb⟩
 have HB := Box.mk hb
 clear hb
 go_wp2_with fail
 go_ret3
 exact ⟨by rw [HC.out]; rfl, HB.out⟩
set_option maxHeartbeats 2000000 in
theorem cutD_no (d : UInt8) (s : ByteArray) (w : World) (hk : idxI d s = -1) :
  Calls Tryd.prog 44 #[.string s, .string ⟨#[d]⟩] w fun e w' => e = .returned (.tuple #[.string s, .string ⟨#[]⟩, .bool false]) ∧ Below w.heap.size w w' := by
 have HK := Box.mk hk
 clear hk
 go_enter Tryd.func44, Tryd.ntmps44
 go_wp2_with fail
 refine (liteCutC_no d s _ _ rfl (fun _ => rfl) rfl HK.out).mono ?_
 rintro e w1 ⟨rfl, hb⟩
 have HB := Box.mk hb
 clear hb
 go_wp2_with fail
 go_ret3
 exact ⟨rfl, HB.out⟩
theorem sizeP : (Tryd.prog.info? 29).map (·.size) = some 2 := by kernel_rfl
def PVar (w : World) (g : Nat) (n v : ByteArray) : Prop := w.heap[g]? = some (.cells #[.string n, .string v] 29 (0, 0))
theorem PVar.keep {w w' : World} {g : Nat} {n v : ByteArray} (h : PVar w g n v) (hb : Below w.heap.size w w') : PVar w' g n v := by
 unfold PVar at *
 rw [hb.block g (Array.getElem?_eq_some_iff.1 h).1]; exact h
theorem PVar.new (w : World) (n v : ByteArray) : PVar (w.alloc (.cells #[.string n, .string v] 29)) w.heap.size n v := heap_alloc_new _ _
def parseP : List Fld → Value
 | f :: _ => .tuple #[.agg #[.string f.1, .string f.2], .bool true]
 | [] => .tuple #[.agg #[.string ⟨#[]⟩, .string ⟨#[]⟩], .bool false]
set_option maxRecDepth 100000 in
set_option maxHeartbeats 2000000 in
theorem ckParse_any (s : ByteArray) (w : World) (hs : s.size ≤ maxLen) :
  Calls Tryd.prog 27 #[.string s] w fun e w' => e = .returned (parseP (pairO s)) ∧ Below w.heap.size w w' := by
 rcases idxI_cases 61 s with hk | ⟨k, hk, _⟩
 · have HK := Box.mk hk
   have HR := Box.mk (pairO_none hk)
   clear hk
   go_enter Tryd.func27, Tryd.ntmps27
   go_wp2_with fail
   refine (cutD_no 61 s _ HK.out).mono ?_
   rintro e w1 ⟨rfl, hb⟩
   have HB := Box.mk (below_trans (below_oneF w (.cells #[.string ⟨#[]⟩, .string ⟨#[]⟩] 29)) hb)
   have HQ := Box.mk ((PVar.new w ⟨#[]⟩ ⟨#[]⟩).keep hb)
   clear hb
   go_wp2_with (refine wpList_store_row rfl 29 _ _ rfl w.heap.size #[.string ⟨#[]⟩, .string ⟨#[]⟩] rfl rfl 29 _ HQ.out sizeP rfl (oneF _ _) ?_)
   (try simp only [Exit.inBlock, Exit.then])
   refine bodyPost_ret (results_row_tmpF rfl _ _ w.heap.size _ _ _ _ rfl (setRow_heap _ _ _ _ _ _ HQ.out) Tryd.underlying29 rfl sizeP) rfl ?_
   exact ⟨by rw [HR.out]; rfl, below_setRow HB.out (Nat.le_refl _) _⟩
 · have HK := Box.mk hk
   have HZ := Box.mk (Nat.le_trans (cutS_size1 61 s) hs)
   by_cases ht : tokS (cutS 61 s).1 = true
   · have HR := Box.mk (pairO_yes hk ht)
     have HT := Box.mk ht
     clear hk ht
     go_enter Tryd.func27, Tryd.ntmps27
     go_wp2_with fail
     refine (cutD_yes 61 s k _ hs HK.out).mono ?_
     rintro e w1 ⟨rfl, hb⟩
     have HB := Box.mk (below_trans (below_oneF w (.cells #[.string ⟨#[]⟩, .string ⟨#[]⟩] 29)) hb)
     have HQ := Box.mk ((PVar.new w ⟨#[]⟩ ⟨#[]⟩).keep hb)
     clear hb
     generalize cutS 61 s = p at *
     go_wp2_with fail
     refine (token_any p.1 _ HZ.out).mono ?_
     rintro e w2 ⟨he, rfl⟩
     rw [HT.out] at he
     subst he
     go_wp2_with (refine wpList_store_row rfl 29 _ _ rfl w.heap.size #[.string p.1, .string p.2] rfl rfl 29 _ HQ.out sizeP rfl (oneF _ _) ?_)
     (try simp only [Exit.inBlock, Exit.then])
     refine bodyPost_ret (results_row_tmpF rfl _ _ w.heap.size _ _ _ _ rfl (setRow_heap _ _ _ _ _ _ HQ.out) Tryd.underlying29 rfl sizeP) rfl ?_
     exact ⟨by rw [HR.out]; rfl, below_setRow HB.out (Nat.le_refl _) _⟩
   · have ht' : tokS (cutS 61 s).1 = false := by simpa using ht
     have HR := Box.mk (pairO_no ht')
     have HT := Box.mk ht'
     clear hk ht ht'
     go_enter Tryd.func27, Tryd.ntmps27
     go_wp2_with fail
     refine (cutD_yes 61 s k _ hs HK.out).mono ?_
     rintro e w1 ⟨rfl, hb⟩
     have HB := Box.mk (below_trans (below_oneF w (.cells #[.string ⟨#[]⟩, .string ⟨#[]⟩] 29)) hb)
     have HQ := Box.mk ((PVar.new w ⟨#[]⟩ ⟨#[]⟩).keep hb)
     clear hb
     generalize cutS 61 s = p at *
     go_wp2_with fail
     refine (token_any p.1 _ HZ.out).mono ?_
     rintro e w2 ⟨he, rfl⟩
     rw [HT.out] at he
     subst he
     go_wp2_with (refine wpList_store_row rfl 29 _ _ rfl w.heap.size #[.string ⟨#[]⟩, .string ⟨#[]⟩] rfl rfl 29 _ HQ.out sizeP rfl (oneF _ _) ?_)
     (try simp only [Exit.inBlock, Exit.then])
     refine bodyPost_ret (results_row_tmpF rfl _ _ w.heap.size _ _ _ _ rfl (setRow_heap _ _ _ _ _ _ HQ.out) Tryd.underlying29 rfl sizeP) rfl ?_
     exact ⟨by rw [HR.out]; rfl, below_setRow HB.out (Nat.le_refl _) _⟩
end Go.Proofs.YthgiplnidnkajaaDoor
namespace Go.Proofs.YthgiplnidnkajaaDoor
open Go.ChangeShapes Go.WideShapes Go.ChangeAt Go.RowKit
theorem splitC_any (s : ByteArray) (w : World) (m : Int) (hs : s.size < 4294967281) (hm : w.cell? ⟨0, 0, none⟩ = some (.int .i64 m)) :
  Calls Tryd.prog 26 #[.string s, .string ⟨#[59]⟩] w fun e w' => RetFresh w (splitS 59 s) e w' := by
 refine (Any.strings_Split Tryd.lays146 (by kernel_rfl) s ⟨#[59]⟩ m w hs hm (by decide)).mono ?_
 rintro e w' ⟨he, hw⟩
 have hlen : (splitS 59 s).length = Lib.countB s ⟨#[59]⟩ + 1 := by
  rw [← splitB_eq]; exact Lib.splitB_all _ (by decide) _ _ _ rfl
 refine ⟨w.heap.size, _, by rw [he, hlen], Nat.le_refl _, by rw [hw]; simp, fun j hj => ⟨_, 0, rfl, ?_⟩, by rw [hw]; exact (Below.refl _ _).alloc (Nat.le_refl _) _⟩
 rw [hw, splitB_eq]
 rw [World.cell?_alloc_mark]
 simp [hj]
theorem BesideP.fresh {w0 w w' : World} {v : Value} {l : List Fld} (h : AccP w0 w v l) {P : Nat} {parts : List ByteArray} (hP : w.heap.size ≤ P) (hlt : P < w'.heap.size) (hs : StrsAt w' (some ⟨P, 0, none⟩) parts) : BesideP w' v (some ⟨P, 0, none⟩) parts :=
 ⟨hs, fun x e h0 => by
  obtain rfl := Option.some.inj e
  exact ⟨fun e2 => by have := (h.lt e2).2; simp only at this; omega, hlt⟩⟩
set_option maxRecDepth 100000 in
set_option maxHeartbeats 4000000 in
theorem ckPairs_any (l : List Fld) (a : Option Addr) (cap : Nat) (w : World) (m : Int) (h : FldsIn w a l) (hz : ShortF l) (hl : l.length ≤ 1000000) (hm : w.cell? ⟨0, 0, none⟩ = some (.int .i64 m)) (ht : total (valuesL l ckL) ≤ 4000000000) :
  Calls Tryd.prog 9 #[.slice a l.length cap] w (RetAccP w (pairsL (valuesL l ckL))) := by
 have H0 := Box.mk (And.intro h hz)
 have HM := Box.mk hm
 obtain ⟨vs, hvs⟩ : ∃ vs, vs = valuesL l ckL := ⟨_, rfl⟩
 have HV := Box.mk (show valuesL l ckU = vs by rw [hvs]; exact values_ck l)
 rw [← hvs] at ht ⊢
 have hvl : vs.length ≤ 4000000000 := Nat.le_trans (total_len vs) ht
 have HT := Box.mk ht
 clear h hz hm hvs ht
 go_enter Tryd.func9, Tryd.ntmps9
 go_wp2_with fail
 refine (fValues_any l ckU a cap _ H0.out.1 H0.out.2 (by decide) hl).mono ?_
 rintro e w1 ⟨a', cap', he, hs, hb⟩
 rw [HV.out] at he hs
 subst he
 have HS := Box.mk hs
 have HB := Box.mk hb
 have HM1 := Box.mk (below_cell hb HM.out)
 clear hs hb HM H0
 go_wp2_with fail
 go_loopw [3, 13] (fun v iv wr => ∃ k : Nat, k ≤ vs.length ∧ iv = .int .i64 k ∧ Box (AccP w1 wr v (pairsL (vs.take k)))) (fun _ iv _ => vs.length - (intOf iv).toNat)
 case atStart => exact ⟨0, Nat.zero_le _, rfl, ⟨AccP.start w1⟩⟩
 case round =>
  obtain ⟨k, hk, rfl, HA⟩ := hrel
  by_cases hlt : k < vs.length
  · obtain ⟨b, off, rfl, hc⟩ := HS.out k hlt
    have c1 := below_cell HA.out.2 hc
    clear hc
    have hb1 := Box.mk (total_at hlt HT.out)
    have HSN := Box.mk (pairsL_snoc vs k hlt)
    have hyl : (pairsL (vs.take k)).length ≤ 4000000000 := Nat.le_trans (pairsL_len _) (Nat.le_trans (total_take vs k) HT.out)
    generalize pairsL (vs.take k) = Y at *
    generalize vs[k] = s at *
    go_wp2_with fail
    refine (splitC_any s _ m (by have := hb1.out; omega) (below_cell HA.out.2 HM1.out)).mono ?_
    rintro e w2 ⟨P, cp, rfl, hP1, hP2, hP3, hP4⟩
    have HA1 := Box.mk (HA.out.keep hP4)
    have HS1 := Box.mk (BesideP.fresh HA.out hP1 hP2 hP3)
    have hpl := splitS_length 59 s
    have hsz : Box (∀ x ∈ splitS 59 s, x.size ≤ 4000000000) := ⟨fun x hx => Nat.le_trans (splitS_small 59 s x hx) (by have := hb1.out; omega)⟩
    have hpl2 : (splitS 59 s).length ≤ 4000000000 := by have := hb1.out; omega
    have HPA := Box.mk (show pairsV s = partsL (splitS 59 s) from rfl)
    clear hP1 hP2 hP3 hP4 c1 hpl HA
    generalize splitS 59 s = parts at *
    go_wp2_with fail
    go_loopw [3, 20] (fun v iv wq => ∃ j : Nat, j ≤ parts.length ∧ iv = .int .i64 j ∧ Box (AccP w1 wq v (Y ++ partsL (parts.take j)) ∧ BesideP wq v (some ⟨P, 0, none⟩) parts)) (fun _ iv _ => parts.length - (intOf iv).toNat)
    case atStart => exact ⟨0, Nat.zero_le _, rfl, ⟨by simpa [partsL] using HA1.out, HS1.out⟩⟩
    case round =>
     clear HA1 HS1
     obtain ⟨j, hj, rfl, HB2⟩ := hrel
     by_cases hjl : j < parts.length
     · obtain ⟨b', o', e', c2⟩ := HB2.out.2.1 j hjl
       cases e'
       rw [Nat.zero_add] at c2
       have HPZ := Box.mk (hsz.out parts[j] (List.getElem_mem hjl))
       have HPS := Box.mk (partsL_snoc parts j hjl)
       have hql : (partsL (parts.take j)).length ≤ 4000000000 := Nat.le_trans (partsL_len _) (by rw [List.length_take]; omega)
       generalize parts[j] = p at *
       generalize partsL (parts.take j) = Z at *
       go_wp2_with fail
       refine (trim_any p _ (by have := HPZ.out; unfold maxLen; omega)).mono ?_
       rintro e w3 ⟨rfl, hb3⟩
       have HB3 := Box.mk (And.intro (HB2.out.1.keep hb3) (HB2.out.2.keep hb3))
       have HTZ := Box.mk (Nat.le_trans (trimBA_size p) HPZ.out)
       clear hb3 c2 HB2
       generalize trimBA p = t at *
       go_wp2_with fail
       refine (ckParse_any t _ (by have := HTZ.out; unfold maxLen; omega)).mono ?_
       rintro e w4 ⟨he, hb4⟩
       have HB4 := Box.mk (And.intro (HB3.out.1.keep hb4) (HB3.out.2.keep hb4))
       clear hb4 HB3
       rcases pairO_cases t with ht | ht
       · rw [ht] at he
         have HPS2 := Box.mk (show partsL (parts.take (j + 1)) = Z by rw [HPS.out, ht, List.append_nil])
         have he : e = .returned (.tuple #[.agg #[.string ⟨#[]⟩, .string ⟨#[]⟩], .bool false]) := he
         subst he
         clear ht
         go_wp2_with fail
         go_roundw
         case rel =>
          have hb := below_oneF w4 (.cells #[.string ⟨#[]⟩, .string ⟨#[]⟩] 29)
          exact ⟨j + 1, by omega, by go_num, ⟨by rw [HPS2.out]; exact HB4.out.1.keep hb, HB4.out.2.keep hb⟩⟩
         case measure => simp [intOf]; omega
       · rw [ht] at he
         have HPS2 := Box.mk (show partsL (parts.take (j + 1)) = Z ++ [cutS 61 t] by rw [HPS.out, ht])
         generalize cutS 61 t = f at *
         have he : e = .returned (.tuple #[.agg #[.string f.1, .string f.2], .bool true]) := he
         subst he
         clear ht
         have hb := below_twoF (below_oneF w4 (.cells #[.string f.1, .string f.2] 29)) (.cells #[.string f.1, .string f.2] 29)
         have HB5 := Box.mk (And.intro (HB4.out.1.keep hb) (HB4.out.2.keep hb))
         clear hb HB4
         go_wp2_with (at_builtin; refine wpList_append_accp _ rfl _ _ rfl rfl HB5.out.1 rfl (y := f) ?c1 ?c1b ?c2 ?c3)
         case c1 => simp
         case c1b => simp
         case c2 => rw [List.length_append]; omega
         case c3 =>
          intro v' w' hacc hgrow hnew
          have HN := Box.mk (show AccP w1 w' v' (Y ++ partsL (parts.take (j + 1))) ∧ BesideP w' v' (some ⟨P, 0, none⟩) parts from ⟨by rw [HPS2.out]; first | exact hacc | (rw [← List.append_assoc]; exact hacc), HB5.out.2.grow hgrow (fun q e => by have := hnew q e; simpa using this)⟩)
          clear hacc hgrow hnew HB5 HPS2
          go_wp2_with fail
          go_roundw
          case rel => exact ⟨j + 1, by omega, by go_num, HN⟩
          case measure => simp [intOf]; omega
     · have HN := HB2.out.1
       rw [List.take_of_length_le (by omega), ← HPA.out, ← HSN.out] at HN
       have HN := Box.mk HN
       clear HB2
       go_wp2_with fail
       go_roundw
       case rel => exact ⟨k + 1, by omega, by go_num, HN⟩
       case measure => simp [intOf]; omega
  · have HE := Box.mk (show AccP w wr _ (pairsL vs) by
     have := HA.out
     rw [List.take_of_length_le (by omega)] at this
     exact AccP.lift HB.out this)
    clear HA
    go_wp2_with fail
    go_ret
    exact ⟨_, rfl, HE.out⟩
end Go.Proofs.YthgiplnidnkajaaDoor
namespace Go.Proofs.YthgiplnidnkajaaDoor
open Go.RowKit
theorem below_box {w w1 w2 : World} (h : Below w.heap.size w w1) (hg : w1.grownBy w2 (some w.heap.size)) : Below w.heap.size w w2 :=
 h.grown hg h.size fun k e => by have := Option.some.inj e; omega
theorem idB_has (c : UInt8) : decide (0 ≤ Lib.indexByte idDig.data.toList c) = idB c := indexByte_has idDig c
set_option maxHeartbeats 1000000 in
theorem ckID_any (s : ByteArray) (w : World) (hs : s.size ≤ maxLen) :
  Calls Tryd.prog 15 #[.string s] w fun e w' => e = .returned (.bool (idS s)) ∧ w = w' := by
 unfold maxLen at hs
 by_cases h16 : s.size = 16
 · have H16 := Box.mk h16
   have e16 : ((s.size : Int) != 16) = false := by rw [h16]; rfl
   clear h16
   go_enter Tryd.func15, Tryd.ntmps15
   go_wp2
   go_loop [9] (fun i => ∃ k : Nat, k ≤ s.size ∧ i = .int .i64 k ∧ Box ((s.data.toList.take k).all idB = true)) (fun i => s.size - (intOf i).toNat)
   case atStart => exact ⟨0, Nat.zero_le _, rfl, ⟨by simp⟩⟩
   case round =>
    obtain ⟨k, hk, rfl, HP⟩ := hrel
    by_cases hlt : k < s.size
    · have HI := Box.mk (idB_has s[k])
      obtain ⟨z, hz⟩ : ∃ z, Lib.indexByte idDig.data.toList s[k] = z := ⟨_, rfl⟩
      have HZ := Box.mk hz
      rw [hz] at HI
      clear hz
      by_cases hc : idB s[k] = true
      · have h0 : 0 ≤ z := by have := HI.out; rw [hc] at this; simpa using this
        have HC := Box.mk hc
        clear hc
        go_wp2_with (go_at_call 34; refine (indexByte_any idDig _ _).mono ?_; rintro e w' ⟨rfl, rfl⟩; rw [HZ.out])
        go_round
        case rel => exact ⟨k + 1, by omega, by go_num, ⟨by rw [take_snoc s k hlt, List.all_append, HP.out]; simpa using HC.out⟩⟩
        case measure => simp [intOf]; omega
      · have hc' : idB s[k] = false := by simpa using hc
        have h0 : z < 0 := by have := HI.out; rw [hc'] at this; simpa using this
        have HC := Box.mk hc'
        clear hc hc'
        go_wp2_with (go_at_call 34; refine (indexByte_any idDig _ _).mono ?_; rintro e w' ⟨rfl, rfl⟩; rw [HZ.out])
        go_ret
        exact ⟨ret_bool (idS_no hlt HC.out).symm, rfl⟩
    · have HE := Box.mk (idS_end hk hlt HP.out)
      go_wp2
      go_ret
      exact ⟨ret_bool (by rw [HE.out, H16.out]; rfl), rfl⟩
 · have HR := Box.mk (idS_len h16)
   have e16 : ((s.size : Int) != 16) = true := by rw [bne_iff_ne]; omega
   clear h16
   go_enter Tryd.func15, Tryd.ntmps15
   go_wp2
   go_ret
   exact ⟨ret_bool HR.out.symm, rfl⟩
set_option maxHeartbeats 1000000 in
theorem refID_any (s : ByteArray) (w : World) (hs : s.size ≤ maxLen) :
    Calls Tryd.prog 16 #[.string s] w fun e w' => e = .returned (.bool (idS s)) ∧ w = w' := by
  unfold maxLen at hs
  go_enter Tryd.func16, Tryd.ntmps16
  go_wp2
  go_loop [3] (fun i => ∃ k : Nat, k ≤ s.size ∧ i = .int .i64 k ∧ Box ((s.data.toList.take k).all idB = true)) (fun i => s.size - (intOf i).toNat)
  case atStart => exact ⟨0, Nat.zero_le _, rfl, ⟨by simp⟩⟩
  case round =>
    obtain ⟨k, hk, rfl, HP⟩ := hrel
    by_cases hlt : k < s.size
    · have b1 : (s[k].toNat : Int) ≤ 255 := by have := s[k].toNat_lt; omega
      have HI := Box.mk (idB_eq s[k])
      have hcase : Box (idB s[k] = true) ∧ digB (s[k].toNat : Int) = true ∨ Box (idB s[k] = true) ∧ digB (s[k].toNat : Int) = false ∧ ¬ (s[k].toNat : Int) < 97 ∧ (s[k].toNat : Int) ≤ 102
          ∨ Box (idB s[k] = false) ∧ digB (s[k].toNat : Int) = false ∧ (s[k].toNat : Int) < 97 ∨ Box (idB s[k] = false) ∧ digB (s[k].toNat : Int) = false ∧ ¬ (s[k].toNat : Int) < 97 ∧ ¬ (s[k].toNat : Int) ≤ 102 := by
        have e := HI.out
        cases hd : digB (s[k].toNat : Int) with
        | true => left; exact ⟨⟨by rw [e, hd]; rfl⟩, rfl⟩
        | false =>
          right
          rw [hd, Bool.false_or] at e
          by_cases h1 : (s[k].toNat : Int) < 97
          · right; left
            exact ⟨⟨by rw [e, decide_eq_false (by omega)]; rfl⟩, rfl, h1⟩
          · by_cases h2 : (s[k].toNat : Int) ≤ 102
            · left
              exact ⟨⟨by rw [e, decide_eq_true (by omega), decide_eq_true h2]; rfl⟩, rfl, h1, h2⟩
            · right; right
              exact ⟨⟨by rw [e, decide_eq_false h2, Bool.and_false]⟩, rfl, h1, h2⟩
      clear HI
      rcases hcase with ⟨HC, hd⟩ | ⟨HC, hd, h97, h102⟩ | ⟨HC, hd, h97⟩ | ⟨HC, hd, h97, h102⟩
      all_goals
        go_wp2_with (go_at_call 35; refine (digit_any _ _ (by omega) (by omega)).mono ?_; rintro e w' ⟨rfl, rfl⟩)
        first
        | (go_round
           case rel => exact ⟨k + 1, by omega, by go_num, ⟨by rw [take_snoc s k hlt, List.all_append, HP.out]; simpa using HC.out⟩⟩
           case measure => simp [intOf]; omega)
        | (go_ret
           exact ⟨ret_bool (idS_no hlt HC.out).symm, rfl⟩)
    · have HE := Box.mk (idS_end hk hlt HP.out)
      go_wp2
      go_ret
      exact ⟨ret_bool (by rw [HE.out]; rw [Bool.eq_iff_iff]; simp; omega), rfl⟩
def eqS : ByteArray := ⟨#[61]⟩
def setCk : ByteArray := ⟨#[83, 101, 116, 45, 67, 111, 111, 107, 105, 101]⟩
def attrS : ByteArray := ⟨#[59, 32, 80, 97, 116, 104, 61, 47, 59, 32, 72, 116, 116, 112, 79, 110, 108, 121]⟩
def issueS (n i : ByteArray) : ByteArray := n ++ eqS ++ i ++ attrS
set_option maxRecDepth 100000 in
set_option maxHeartbeats 2000000 in
theorem issue_any (n i : ByteArray) (w : World) (hn : n.size ≤ 1000000000000000) (hi : i.size ≤ 1000000000000000) :
  Calls Tryd.prog 17 #[.string n, .string i] w fun e w' => e = .returned (.agg #[.string setCk, .string (issueS n i)]) ∧ Below w.heap.size w w' := by
 have HB := Box.mk (below_oneF w (.cells #[.string ⟨#[]⟩, .string ⟨#[]⟩] 37))
 have HQ := Box.mk (FVar.new w ⟨#[]⟩ ⟨#[]⟩)
 go_enter Tryd.func17, Tryd.ntmps17
 go_wp2_with (refine wpList_store_row rfl 37 _ _ rfl w.heap.size #[.string setCk, .string (issueS n i)] rfl rfl 37 _ HQ.out sizeF rfl (oneF _ _) ?_)
 (try simp only [Exit.inBlock, Exit.then])
 refine bodyPost_ret (results_cell_row rfl _ _ w.heap.size _ _ _ _ rfl (setRow_heap _ _ _ _ _ _ HQ.out) Tryd.underlying37 rfl sizeF) rfl ?_
 exact ⟨rfl, below_setRow HB.out (Nat.le_refl _) _⟩
set_option maxRecDepth 100000 in
set_option maxHeartbeats 2000000 in
theorem refIssue_any (n i : ByteArray) (w : World) (hn : n.size ≤ 1000000000000000) (hi : i.size ≤ 1000000000000000) :
  Calls Tryd.prog 18 #[.string n, .string i] w fun e w' => e = .returned (.agg #[.string setCk, .string (issueS n i)]) ∧ Below w.heap.size w w' := by
 have HB := Box.mk (below_oneF w (.cells #[.string ⟨#[]⟩, .string ⟨#[]⟩] 37))
 have HQ := Box.mk (FVar.new w ⟨#[]⟩ ⟨#[]⟩)
 go_enter Tryd.func18, Tryd.ntmps18
 go_wp2_with (refine wpList_store_row rfl 37 _ _ rfl w.heap.size #[.string setCk, .string (issueS n i)] rfl rfl 37 _ HQ.out sizeF rfl (oneF _ _) ?_)
 (try simp only [Exit.inBlock, Exit.then])
 refine bodyPost_ret (results_cell_row rfl _ _ w.heap.size _ _ _ _ rfl (setRow_heap _ _ _ _ _ _ HQ.out) Tryd.underlying37 rfl sizeF) rfl ?_
 exact ⟨rfl, below_setRow HB.out (Nat.le_refl _) _⟩
theorem fldsIn_new (w : World) (l : List Fld) (cs : Array Value) (h : cs = (cellsF l).toArray) : FldsIn (w.alloc (.cells cs 37)) (some ⟨w.heap.size, 0, none⟩) l := by
 refine FldsIn.of_cells fun j u hj => ?_
 rw [Addr.add_lit, Nat.zero_add, new_cellF, h]
 simpa using hj
end Go.Proofs.YthgiplnidnkajaaDoor
