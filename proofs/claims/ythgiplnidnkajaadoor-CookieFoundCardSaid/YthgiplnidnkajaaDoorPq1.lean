/- Contracts of the small functions of package ascii and of its reference: one byte, and loops over the bytes of a string. Contracts of Lower and Fold, of package ascii and of its reference. Plain facts on lists of bytes: trimming from both ends. Slices of strings in memory: one that is read, one that the call appends to, one that is kept beside it. The numbers that the shelf's contracts of Go's library (package strings, package strconv) have in this seat's translation: nothing is claimed here by itself. Contracts of Fold, Value, Trim, of package ascii and of its reference. Plain facts on lists of bytes: cutting at a byte, and the elements of comma-separated lists. Contracts of Same, Split and List, of package ascii and of its reference. Opening arguments: a byte, a slice of bytes. Opening an argument that is a slice of strings. Slices of bytes in memory: one that the call appends to; slices of numbers that are read. A region that draws its order, whose operations all leave the world in a class, but for the last one, which waits for all of them. A region that draws its order, by what each operation leaves: one fact an operation, whatever the order. FNV-1a in plain words, and the contracts of mix and Write, of package hash and of its reference. The contracts of Sum, of package hash and of its reference. Appending a slice of bytes that came in to a slice of the call's own; the law HashWrite at open arguments; what the bound on the arguments gives. More of a region's single operations: comparisons, lengths, slices of slices that are built. A region that draws its order and stores once, by what each operation leaves. SHA-256 in plain words, over words of 32 bits; how the arithmetic of the translated code is spelt at them. Fields: Valid of package field and of its reference; a field's line. A set of names in a map: setOf, and whether a field's name is in it. Slices of fields in memory: read, appended to, opened among the arguments. -/
import Derived.Test.YthgiplnidnkajaaDoorRows
import Derived.WalkKit
import Derived.WalkSpells
import Derived.WalkLawsBesides
import Derived.BigQuiet
import Derived.Deep.QuietTactic
import Derived.Lib.Bytealg
import Derived.Lib.IndexLaws
import Derived.Lib.Hide
import Derived.Laws.IdiomStrings
import Derived.Lib.SlTrimSet
import Derived.Lib.IndexBytes
import Derived.Lib.Split
import Derived.Deep.AppendLies
import Derived.Shelf.Strings.SlTrimAscii
import Derived.Shelf.Strings.SplitShaped
import Derived.Shelf.LaysM
import Derived.Shelf.Strings.BuilderK
import Derived.Shelf.Strconv.Itoa4
import Derived.Shelf.Strings.Builder2
import Derived.Test.YthgiplnidnkajaaDoorProg
import Derived.Lib.SplitLaws
import Derived.WalkSmall
import Derived.ProofKit
import Derived.OpenShut
import Derived.Lib.Strings
import Derived.SliceStrings
import Derived.Deep.Quiet
import Derived.Tactics
import Derived.KernelRfl
import Derived.Below
import Derived.Laws.Bits64
import Derived.Lib.SlBytesConst
import Derived.Maps.AppendAt
import Derived.Laws.AppendOwnNone
import Derived.Great.BuildSlice
import Derived.Laws.Rows
import Derived.Laws.BitsAllLaws
import Derived.Laws.Shifts
import Derived.Maps.OwnOps
import Derived.Maps.OwnSet
import Derived.Deep.SlicePairs
namespace Go.Proofs.YthgiplnidnkajaaDoor
open Go.RowKit
theorem ret_bool {a b : Bool} (h : a = b) : Ending.returned (.bool a) = .returned (.bool b) := by rw [h]
theorem ret_int {k : IntKind} {a b : Int} (h : a = b) : Ending.returned (.int k a) = .returned (.int k b) := by rw [h]
theorem ret_str {a b : ByteArray} (h : a = b) : Ending.returned (.string a) = .returned (.string b) := by rw [h]
def upB (c : Int) : Bool := decide (65 ≤ c) && decide (c ≤ 90)
def digB (c : Int) : Bool := decide (48 ≤ c) && decide (c ≤ 57)
def loB (c : Int) : Bool := decide (97 ≤ c) && decide (c ≤ 122)
def marks : ByteArray := ⟨#[33, 35, 36, 37, 38, 39, 42, 43, 45, 46, 94, 95, 96, 124, 126]⟩
def hasS (s : ByteArray) (c : UInt8) : Bool := s.data.toList.contains c
def tokB (c : UInt8) : Bool := upB c.toNat || loB c.toNat || digB c.toNat || hasS marks c
def tokS (s : ByteArray) : Bool := s.data.toList.all tokB && !s.data.toList.isEmpty
theorem take_snoc (s : ByteArray) (k : Nat) (h : k < s.size) : s.data.toList.take (k + 1) = s.data.toList.take k ++ [s[k]] := by
 rw [List.take_succ_eq_append_getElem (by simpa using h)]; rfl
theorem take_all (s : ByteArray) (k : Nat) (h : k ≤ s.size) (h2 : ¬ k < s.size) : s.data.toList.take k = s.data.toList := by
 rw [List.take_of_length_le]; simp; omega
theorem mem_at (s : ByteArray) (k : Nat) (h : k < s.size) : s[k] ∈ s.data.toList := by
 show s.data[k] ∈ s.data.toList
 simp
theorem toList_isEmpty (s : ByteArray) : s.toList.isEmpty = s.data.isEmpty := by
 rw [ByteArray.toList_eq s]; simp
set_option maxHeartbeats 400000 in
theorem isUpper_any (c : Int) (w : World) (h0 : 0 ≤ c) (h1 : c ≤ 255) :
  Calls Tryd.prog 68 #[.int .u8 c] w fun e w' => e = .returned (.bool (upB c)) ∧ w = w' := by
 go_enter Tryd.func68, Tryd.ntmps68
 go_wp2
 all_goals go_ret
 all_goals exact ⟨ret_bool (by unfold upB; rw [Bool.eq_iff_iff]; simp; omega), rfl⟩
set_option maxHeartbeats 400000 in
theorem digit_any (c : Int) (w : World) (h0 : 0 ≤ c) (h1 : c ≤ 255) :
  Calls Tryd.prog 35 #[.int .u8 c] w fun e w' => e = .returned (.bool (digB c)) ∧ w = w' := by
 go_enter Tryd.func35, Tryd.ntmps35
 go_wp2
 all_goals go_ret
 all_goals exact ⟨ret_bool (by unfold digB; rw [Bool.eq_iff_iff]; simp; omega), rfl⟩
theorem eqb_of {a b : UInt8} (h : ((a.toNat : Int) == (b.toNat : Int)) = true) : a = b := by
 apply UInt8.toNat_inj.1; simp at h; omega
set_option maxHeartbeats 400000 in
theorem has_any (s : ByteArray) (c : UInt8) (w : World) (hs : s.size ≤ maxLen) :
  Calls Tryd.prog 48 #[.string s, .int .u8 c.toNat] w fun e w' => e = .returned (.bool (hasS s c)) ∧ w = w' := by
 unfold maxLen at hs
 go_enter Tryd.func48, Tryd.ntmps48
 go_wp2
 go_loop [5] (fun i => ∃ k : Nat, k ≤ s.size ∧ i = .int .i64 k ∧ Hid (∀ x ∈ s.data.toList.take k, ¬ x = c)) (fun i => s.size - (intOf i).toNat)
 case atStart => exact ⟨0, Nat.zero_le _, rfl, Lib.hid (by simp)⟩
 case round =>
  obtain ⟨k, hk, rfl, HP⟩ := hrel
  by_cases hlt : k < s.size
  · by_cases hc : s[k] = c
    · have HC := Lib.hid hc
      have hb : ((s[k].toNat : Int) == (c.toNat : Int)) = true := by simp [hc]
      clear hc
      go_wp2
      go_ret
      exact ⟨ret_bool (by unfold hasS; have := mem_at s k hlt; rw [HC.out] at this; symm; simpa using this), rfl⟩
    · have HC := Lib.hid hc
      have hb : ((s[k].toNat : Int) == (c.toNat : Int)) = false := by
       rw [Bool.eq_false_iff]; intro h; exact hc (eqb_of h)
      clear hc
      go_wp2
      go_round
      case rel => exact ⟨k + 1, by omega, by go_num, Lib.hid (by rw [take_snoc s k hlt]; intro x hx; rcases List.mem_append.1 hx with h | h; exact HP.out x h; simp at h; rw [h]; exact HC.out)⟩
      case measure => simp [intOf]; omega
  · go_wp2
    go_ret
    exact ⟨ret_bool (by have := HP.out; rw [take_all s k hk hlt] at this; unfold hasS; symm; rw [Bool.eq_false_iff]; intro h; exact this c (by simpa using h) rfl), rfl⟩
set_option maxRecDepth 100000 in
set_option maxHeartbeats 400000 in
theorem indexByteLite_any (s : ByteArray) (c : UInt8) (w : World) :
  Calls Tryd.prog 49 #[.string s, .int .u8 c.toNat] w fun e w' => e = .returned (.int .i64 (Lib.indexByte s.data.toList c)) ∧ w = w' := by
 go_enter Tryd.func49, Tryd.ntmps49
 go_wp2
 rw [run_callFunc_extern Tryd.func67 (by kernel_rfl) (by kernel_rfl) (by kernel_rfl) (e := Extern.BytealgIndexByte.indexByte) (by kernel_rfl), Lib.run_indexByteString]
 simp only [Result.andThen]
 rw [Oper.upon_value]
 go_wp2
 go_ret
 exact ⟨ret_int (by simp), rfl⟩
set_option maxHeartbeats 400000 in
theorem indexByte_any (s : ByteArray) (c : UInt8) (w : World) :
  Calls Tryd.prog 34 #[.string s, .int .u8 c.toNat] w fun e w' => e = .returned (.int .i64 (Lib.indexByte s.data.toList c)) ∧ w = w' := by
 go_enter Tryd.func34, Tryd.ntmps34
 go_wp2_with (go_at_call 49; refine (indexByteLite_any _ _ _).mono ?_; rintro e w' ⟨rfl, rfl⟩)
 go_ret
 exact ⟨rfl, rfl⟩
theorem indexByte_has (s : ByteArray) (c : UInt8) : decide (0 ≤ Lib.indexByte s.data.toList c) = hasS s c := by
 have hge := Lib.indexByte_ge s.data.toList c
 unfold hasS
 by_cases h : Lib.indexByte s.data.toList c = -1
 · have := Lib.indexByte_none h
   rw [h, Bool.eq_iff_iff]
   simp only [Int.reduceNeg, decide_eq_true_eq, List.contains_iff_mem]
   constructor
   · intro h; omega
   · intro hm; obtain ⟨k, hk⟩ := List.mem_iff_getElem?.1 hm; exact absurd hk (this k)
 · obtain ⟨o, ho⟩ : ∃ o : Nat, Lib.indexByte s.data.toList c = o := ⟨(Lib.indexByte s.data.toList c).toNat, by omega⟩
   have := (Lib.indexByte_some ho).1
   rw [ho, Bool.eq_iff_iff]
   simp only [decide_eq_true_eq, List.contains_iff_mem]
   exact ⟨fun _ => List.mem_of_getElem? this, fun _ => by omega⟩
set_option maxHeartbeats 400000 in
theorem isTokenByte_any (c : UInt8) (w : World) :
  Calls Tryd.prog 58 #[.int .u8 c.toNat] w fun e w' => e = .returned (.bool (tokB c)) ∧ w = w' := by
 have hi := indexByte_has marks c
 have HI := Lib.hid hi
 clear hi
 have b1 : (c.toNat : Int) ≤ 255 := by have := c.toNat_lt; omega
 go_enter Tryd.func58, Tryd.ntmps58
 go_wp2_with (first | (go_at_call 34; refine (indexByte_any marks _ _).mono ?_; rintro e w' ⟨rfl, rfl⟩) | (go_at_call 68; go_in))
 all_goals go_ret
 all_goals exact ⟨ret_bool (by
  unfold tokB
  rw [← HI.out]
  generalize Lib.indexByte marks.data.toList c = n
  rw [Bool.eq_iff_iff]
  simp [upB, loB, digB]
  omega), rfl⟩
theorem tokS_no {s : ByteArray} {k : Nat} (hlt : k < s.size) (hc : tokB s[k] = false) : false = tokS s := by
 unfold tokS
 have : s.data.toList.all tokB = false := by
  rw [Bool.eq_false_iff]; intro h
  have := List.all_eq_true.1 h _ (mem_at s k hlt); rw [hc] at this; cases this
 rw [this]; rfl
set_option maxHeartbeats 400000 in
theorem token_any (s : ByteArray) (w : World) (hs : s.size ≤ maxLen) :
  Calls Tryd.prog 45 #[.string s] w fun e w' => e = .returned (.bool (tokS s)) ∧ w = w' := by
 unfold maxLen at hs
 go_enter Tryd.func45, Tryd.ntmps45
 go_wp2
 go_loop [6] (fun i => ∃ k : Nat, k ≤ s.size ∧ i = .int .i64 k ∧ Hid ((s.data.toList.take k).all tokB = true)) (fun i => s.size - (intOf i).toNat)
 case atStart => exact ⟨0, Nat.zero_le _, rfl, Lib.hid (by simp)⟩
 case round =>
  obtain ⟨k, hk, rfl, HP⟩ := hrel
  by_cases hlt : k < s.size
  · by_cases hc : tokB s[k] = true
    · go_wp2_with (go_at_call 58; refine (isTokenByte_any _ _).mono ?_; rintro e w' ⟨rfl, rfl⟩)
      go_round
      case rel => exact ⟨k + 1, by omega, by go_num, Lib.hid (by rw [take_snoc s k hlt, List.all_append, HP.out]; simpa using hc)⟩
      case measure => simp [intOf]; omega
    · have hc' : tokB s[k] = false := by simpa using hc
      clear hc
      go_wp2_with (go_at_call 58; refine (isTokenByte_any _ _).mono ?_; rintro e w' ⟨rfl, rfl⟩)
      go_ret
      exact ⟨ret_bool (tokS_no hlt hc'), rfl⟩
  · go_wp2
    go_ret
    exact ⟨ret_bool (by have := HP.out; rw [take_all s k hk hlt] at this; unfold tokS; rw [this]; simp [toList_isEmpty]), rfl⟩
set_option maxHeartbeats 400000 in
theorem refToken_any (s : ByteArray) (w : World) (hs : s.size ≤ maxLen) :
    Calls Tryd.prog 31 #[.string s] w fun e w' => e = .returned (.bool (tokS s)) ∧ w = w' := by
  unfold maxLen at hs
  go_enter Tryd.func31, Tryd.ntmps31
  go_wp2
  go_loop [3] (fun i => ∃ k : Nat, k ≤ s.size ∧ i = .int .i64 k ∧ Hid ((s.data.toList.take k).all tokB = true)) (fun i => s.size - (intOf i).toNat)
  case atStart => exact ⟨0, Nat.zero_le _, rfl, Lib.hid (by simp)⟩
  case round =>
    obtain ⟨k, hk, rfl, HP⟩ := hrel
    by_cases hlt : k < s.size
    · have b1 : (s[k].toNat : Int) ≤ 255 := by have := s[k].toNat_lt; omega
      by_cases hd : digB (s[k].toNat : Int) = true <;> by_cases hh : hasS marks s[k] = true <;> try simp only [Bool.not_eq_true] at hd hh
      all_goals go_wp2_with (first | (go_at_call 48; refine (has_any marks _ _ (by decide)).mono ?_; rintro e w' ⟨rfl, rfl⟩) | (go_at_call 35; refine (digit_any _ _ (by omega) (by omega)).mono ?_; rintro e w' ⟨rfl, rfl⟩))
      all_goals first
        | (go_round
           case rel => exact ⟨k + 1, by omega, by go_num, Lib.hid (by rw [take_snoc s k hlt, List.all_append, HP.out]; first | (simp [tokB, upB, loB, hd, hh]; done) | (simp [tokB, upB, loB, hd, hh]; omega) | (exfalso; rename_i hx; simp at hx; omega))⟩
           case measure => simp [intOf]; omega)
        | (go_ret
           exact ⟨ret_bool (tokS_no hlt (by simp [tokB, upB, loB, hd, hh]; try omega)), rfl⟩)
    · go_wp2
      go_ret
      exact ⟨ret_bool (by have := HP.out; rw [take_all s k hk hlt] at this; unfold tokS; rw [this]; simp [toList_isEmpty]), rfl⟩
def lowB (c : UInt8) : UInt8 := if upB c.toNat then c + 32 else c
def lowS (s : ByteArray) : ByteArray := ⟨(s.data.toList.map lowB).toArray⟩
def foldS (a b : ByteArray) : Bool := (lowS a).toList == (lowS b).toList
def BytesAt (w : World) (B : Nat) (l : List UInt8) : Prop :=
 ∀ j (hj : j < l.length), w.cell? ⟨B, j, none⟩ = some (.int .u8 (l[j].toNat : Int)) ∧ w.frozen? ⟨B, j, none⟩ = false
theorem BytesAt.set {w : World} {B : Nat} {l : List UInt8} (h : BytesAt w B l) {k : Nat} (hk : k < l.length) (c : UInt8) :
  BytesAt (w.setCell ⟨B, k, none⟩ (.int .u8 (c.toNat : Int))) B (l.set k c) := by
 intro j hj
 have hj' : j < l.length := by simpa using hj
 obtain ⟨h1, h2⟩ := h j hj'
 obtain ⟨k1, _⟩ := h k hk
 constructor
 · by_cases e : k = j
   · subst e
     rw [World.cell?_setCell_same _ _ _ k1]; simp
   · rw [World.cell?_setCell_other _ _ _ _ (by intro hh; apply e; cases hh; rfl)]
     rw [h1, List.getElem_set_ne e]
 · rw [← h2]; exact World.frozen?_setCell ..
theorem bytesAt_new (w : World) (s : ByteArray) (cap : Nat) :
  BytesAt (w.alloc (.cells (bytesRow s cap) 5 ((bytesRow s cap).size, (bytesRow s cap).size + 1))).drew w.heap.size s.data.toList := by
 intro j hj
 have hj' : j < s.data.size := by simpa using hj
 constructor
 · show (w.alloc _).cell? _ = _
   rw [World.cell?_alloc_mark, bytesRow_at s _ j hj']; simp
 · show (w.alloc _).frozen? _ = _
   rw [World.frozen?_alloc_mark]
   have : j < (bytesRow s cap).size := by
    have h := bytesRow_at s cap j hj'
    exact (Array.getElem?_eq_some_iff.1 h).1
   simp; omega
def lowRow (s : ByteArray) (k : Nat) : List UInt8 := (s.data.toList.take k).map lowB ++ s.data.toList.drop k
theorem lowRow_length (s : ByteArray) (k : Nat) : (lowRow s k).length = s.size := by
 unfold lowRow
 have : s.data.toList.length = s.size := by simp
 rw [List.length_append, List.length_map, List.length_take, List.length_drop]; omega
theorem lowRow_at (s : ByteArray) (k : Nat) (h : k < s.size) : (lowRow s k)[k]'(by rw [lowRow_length]; exact h) = s[k] := by
 unfold lowRow
 have hl : ((s.data.toList.take k).map lowB).length = k := by simp; omega
 rw [List.getElem_append_right (by omega), List.getElem_drop]
 have e : k + (k - ((s.data.toList.take k).map lowB).length) = k := by omega
 simp only [e]
 show s.data.toList[k] = s.data[k]
 simp
theorem lowRow_set (s : ByteArray) (k : Nat) (h : k < s.size) : lowRow s (k + 1) = (lowRow s k).set k (lowB s[k]) := by
 unfold lowRow
 have hl : ((s.data.toList.take k).map lowB).length = k := by simp; omega
 have hd : s.data.toList.drop k = s[k] :: s.data.toList.drop (k + 1) := by
  rw [List.drop_eq_getElem_cons (by simpa using h)]; rfl
 rw [hd, List.set_append_right _ _ (by omega), hl, Nat.sub_self, List.set_cons_zero, take_snoc s k h]
 simp
theorem lowRow_same (s : ByteArray) (k : Nat) (h : k < s.size) (hb : upB s[k].toNat = false) : lowRow s (k + 1) = lowRow s k := by
 rw [lowRow_set s k h]
 have : lowB s[k] = (lowRow s k)[k]'(by rw [lowRow_length]; exact h) := by rw [lowRow_at s k h]; unfold lowB; rw [hb]; rfl
 rw [this, List.set_getElem_self]
theorem lowRow_zero (s : ByteArray) : lowRow s 0 = s.data.toList := by simp [lowRow]
theorem lowRow_all (s : ByteArray) (k : Nat) (h : k ≤ s.size) (h2 : ¬ k < s.size) : lowRow s k = (s.data.toList.map lowB) := by
 have e : k = s.size := by omega
 unfold lowRow
 rw [take_all s k h h2, List.drop_of_length_le (by simp; omega)]; simp
theorem lowB_val (c : UInt8) (h : upB c.toNat = true) : ((lowB c).toNat : Int) = (c.toNat : Int) - 65 + 97 := by
 unfold lowB; rw [if_pos h]
 unfold upB at h; simp at h
 rw [UInt8.toNat_add]
 have : (32 : UInt8).toNat = 32 := rfl
 omega
theorem lowB_val' (c : UInt8) (h : upB c.toNat = true) : ((lowB c).toNat : Int) = (c.toNat : Int) + 32 := by
 rw [lowB_val c h]; omega
set_option maxHeartbeats 400000 in
theorem lower_any (s : ByteArray) (w : World) (hs : s.size ≤ maxLen) :
  Calls Tryd.prog 53 #[.string s] w fun e w' => e = .returned (.string (lowS s)) ∧ Below w.heap.size w w' := by
 unfold maxLen at hs
 have hcv := fun (w : World) (s : ByteArray) => run_bytes_of_string (P := Tryd.prog) w 9 33 5 s Tryd.underlying9 Tryd.underlying33 Tryd.underlying5
 go_enter Tryd.func53, Tryd.ntmps53
 go_wp2
 generalize grownCap w s.size 0 5 = cap
 have hn := Lib.hid (bytesAt_new w s cap)
 go_loopw [10] (fun i wr => ∃ k : Nat, k ≤ s.size ∧ i = .int .i64 k ∧ Hid (BytesAt wr w.heap.size (lowRow s k)) ∧ Below w.heap.size w wr) (fun i _ => s.size - (intOf i).toNat)
 case atStart => exact ⟨0, Nat.zero_le _, rfl, Lib.hid (by rw [lowRow_zero]; exact hn.out), ((Below.refl _ w).alloc (Nat.le_refl _) _).drew⟩
 case round =>
  obtain ⟨k, hk, rfl, HB, hbel⟩ := hrel
  by_cases hlt : k < s.size
  · obtain ⟨c1, c2⟩ := HB.out k (by rw [lowRow_length]; exact hlt)
    rw [lowRow_at s k hlt] at c1
    have b1 : (s[k].toNat : Int) ≤ 255 := by have := s[k].toNat_lt; omega
    by_cases hu : upB s[k].toNat = true
    · have hl := Lib.hid (lowB_val s[k] hu)
      have b2 : 65 ≤ (s[k].toNat : Int) ∧ (s[k].toNat : Int) ≤ 90 := by unfold upB at hu; simpa using hu
      obtain ⟨b3, b4⟩ := b2
      go_wp2_with (go_at_call 68; refine (isUpper_any _ _ (by omega) (by omega)).mono ?_; rintro e w' ⟨rfl, rfl⟩)
      go_roundw
      case rel => exact ⟨k + 1, by omega, by go_num, Lib.hid (by rw [lowRow_set s k hlt]; have := HB.out.set (by rw [lowRow_length]; exact hlt) (lowB s[k]); rw [hl.out] at this; exact this), hbel.setCell (by simp) _⟩
      case measure => simp [intOf]; omega
    · have hu' : upB s[k].toNat = false := by simpa using hu
      clear hu
      go_wp2_with (go_at_call 68; refine (isUpper_any _ _ (by omega) (by omega)).mono ?_; rintro e w' ⟨rfl, rfl⟩)
      go_roundw
      case rel => exact ⟨k + 1, by omega, by go_num, Lib.hid (by rw [lowRow_same s k hlt hu']; exact HB.out), hbel⟩
      case measure => simp [intOf]; omega
  · have hback := run_convert_bytes_back (P := Tryd.prog) wr 33 9 5 ⟨w.heap.size, 0, none⟩ cap (lowRow s k) Tryd.underlying33 Tryd.underlying5 Tryd.underlying9 (fun j hj => by
     rw [Addr.add_lit, Nat.zero_add]; exact (HB.out j hj).1)
    rw [lowRow_length] at hback
    go_wp2
    go_ret
    exact ⟨ret_str (by rw [lowRow_all s k hk hlt]; rfl), hbel⟩
set_option maxHeartbeats 400000 in
theorem refLower_any (s : ByteArray) (w : World) (hs : s.size ≤ maxLen) :
  Calls Tryd.prog 66 #[.string s] w fun e w' => e = .returned (.string (lowS s)) ∧ Below w.heap.size w w' := by
 unfold maxLen at hs
 have hcv := fun (w : World) (s : ByteArray) => run_bytes_of_string (P := Tryd.prog) w 9 33 5 s Tryd.underlying9 Tryd.underlying33 Tryd.underlying5
 go_enter Tryd.func66, Tryd.ntmps66
 go_wp2
 generalize grownCap w s.size 0 5 = cap
 have hn := Lib.hid (bytesAt_new w s cap)
 go_loopw [4] (fun i wr => ∃ k : Nat, k ≤ s.size ∧ i = .int .i64 k ∧ Hid (BytesAt wr w.heap.size (lowRow s k)) ∧ Below w.heap.size w wr) (fun i _ => s.size - (intOf i).toNat)
 case atStart => exact ⟨0, Nat.zero_le _, rfl, Lib.hid (by rw [lowRow_zero]; exact hn.out), ((Below.refl _ w).alloc (Nat.le_refl _) _).drew⟩
 case round =>
  obtain ⟨k, hk, rfl, HB, hbel⟩ := hrel
  by_cases hlt : k < s.size
  · obtain ⟨c1, c2⟩ := HB.out k (by rw [lowRow_length]; exact hlt)
    rw [lowRow_at s k hlt] at c1
    have b1 : (s[k].toNat : Int) ≤ 255 := by have := s[k].toNat_lt; omega
    by_cases hu : upB s[k].toNat = true
    · have hl := Lib.hid (lowB_val' s[k] hu)
      have b2 : 65 ≤ (s[k].toNat : Int) ∧ (s[k].toNat : Int) ≤ 90 := by unfold upB at hu; simpa using hu
      obtain ⟨b3, b4⟩ := b2
      have HU := Lib.hid hu; clear hu
      go_wp2
      go_roundw
      case rel => exact ⟨k + 1, by omega, by go_num, Lib.hid (by rw [lowRow_set s k hlt]; have := HB.out.set (by rw [lowRow_length]; exact hlt) (lowB s[k]); rw [hl.out] at this; exact this), hbel.setCell (by simp) _⟩
      case measure => simp [intOf]; omega
    · have hu' : upB s[k].toNat = false := by simpa using hu
      clear hu
      have HU := Lib.hid hu'
      have b2 : (s[k].toNat : Int) < 65 ∨ 90 < (s[k].toNat : Int) := by unfold upB at hu'; simp at hu'; omega
      clear hu'
      rcases b2 with b2 | b2
      all_goals
       go_wp2
       go_roundw
       case rel => exact ⟨k + 1, by omega, by go_num, Lib.hid (by rw [lowRow_same s k hlt HU.out]; exact HB.out), hbel⟩
       case measure => simp [intOf]; omega
  · have hback := run_convert_bytes_back (P := Tryd.prog) wr 33 9 5 ⟨w.heap.size, 0, none⟩ cap (lowRow s k) Tryd.underlying33 Tryd.underlying5 Tryd.underlying9 (fun j hj => by
     rw [Addr.add_lit, Nat.zero_add]; exact (HB.out j hj).1)
    rw [lowRow_length] at hback
    go_wp2
    go_ret
    exact ⟨ret_str (by rw [lowRow_all s k hk hlt]; rfl), hbel⟩
end Go.Proofs.YthgiplnidnkajaaDoor
namespace Go.Proofs.YthgiplnidnkajaaDoor
open Go
def blanks : List UInt8 := [32, 9]
def blankB (c : UInt8) : Bool := blanks.contains c
def rdrop (p : UInt8 → Bool) (l : List UInt8) : List UInt8 := (l.reverse.dropWhile p).reverse
theorem rdrop_cons (p : UInt8 → Bool) (a : UInt8) (t : List UInt8) : rdrop p (a :: t) = if (rdrop p t).isEmpty then [a].dropWhile p else a :: rdrop p t := by
 unfold rdrop
 rw [List.reverse_cons, List.dropWhile_append]
 have : (t.reverse.dropWhile p).reverse.isEmpty = (t.reverse.dropWhile p).isEmpty := by simp
 rw [this]
 split
 · cases h : p a <;> simp [List.dropWhile, h]
 · simp
theorem rdrop_nil (p : UInt8 → Bool) : rdrop p [] = [] := rfl
theorem rdrop_empty (p : UInt8 → Bool) : ∀ t : List UInt8, (rdrop p t).isEmpty = t.all p
 | [] => rfl
 | a :: t => by
  rw [rdrop_cons, List.all_cons, rdrop_empty p t]
  cases ht : t.all p <;> cases h : p a <;> simp [List.dropWhile, h]
theorem dropWhile_all (p : UInt8 → Bool) : ∀ t : List UInt8, t.all p = true → t.dropWhile p = []
 | [], _ => rfl
 | a :: t, h => by
  rw [List.all_cons, Bool.and_eq_true] at h
  rw [List.dropWhile_cons, if_pos h.1]; exact dropWhile_all p t h.2
theorem trim_comm (p : UInt8 → Bool) : ∀ l : List UInt8, (rdrop p l).dropWhile p = rdrop p (l.dropWhile p)
 | [] => rfl
 | a :: t => by
  cases h : p a
  · have e : (a :: t).dropWhile p = a :: t := by rw [List.dropWhile_cons, if_neg (by simp [h])]
    rw [e, rdrop_cons]
    split
    · simp [List.dropWhile, h]
    · rw [List.dropWhile_cons, if_neg (by simp [h])]
  · have e : (a :: t).dropWhile p = t.dropWhile p := by rw [List.dropWhile_cons, if_pos h]
    rw [e, rdrop_cons, rdrop_empty]
    split
    · rename_i ht
      rw [dropWhile_all p t ht]; simp [List.dropWhile, h, rdrop]
    · rw [List.dropWhile_cons, if_pos h]; exact trim_comm p t
def trimL (l : List UInt8) : List UInt8 := (rdrop blankB l).dropWhile blankB
theorem trimL_front (l : List UInt8) (c : UInt8) (h : blankB c = true) : trimL (c :: l) = trimL l := by
 unfold trimL; rw [trim_comm, trim_comm, List.dropWhile_cons, if_pos h]
theorem length_dropWhile (p : UInt8 → Bool) : ∀ l : List UInt8, (l.dropWhile p).length ≤ l.length
 | [] => Nat.le_refl _
 | a :: t => by
  rw [List.dropWhile_cons]; split
  · have := length_dropWhile p t; simp; omega
  · exact Nat.le_refl _
theorem trimL_length (l : List UInt8) : (trimL l).length ≤ l.length := by
 unfold trimL
 have h1 := length_dropWhile blankB (rdrop blankB l)
 have h2 : (rdrop blankB l).length ≤ l.length := by
  unfold rdrop; rw [List.length_reverse]; have := length_dropWhile blankB l.reverse; simpa using this
 omega
def trimBA (s : ByteArray) : ByteArray := ⟨(trimL s.data.toList).toArray⟩
theorem trimBA_list (s : ByteArray) : (trimBA s).data.toList = trimL s.data.toList := by simp [trimBA]
theorem trimBA_size (s : ByteArray) : (trimBA s).size ≤ s.size := by
 have := trimL_length s.data.toList
 have h1 : (trimBA s).size = (trimL s.data.toList).length := by show (trimBA s).data.size = _; simp [trimBA]
 have h2 : s.size = s.data.toList.length := by simp
 omega
theorem ba_ext {a b : ByteArray} (h : a.data.toList = b.data.toList) : a = b := by
 cases a; cases b; simp at h; simp [h]
theorem drop_step (t : ByteArray) (h : 0 < t.size) (hb : blankB t[0] = true) : (t.extract 1 t.size).data.toList.dropWhile blankB = t.data.toList.dropWhile blankB := by
 rw [Lib.extract_to_end]
 have e : t.data.toList = t[0] :: t.data.toList.drop 1 := by
  have : 0 < t.data.toList.length := by simpa using h
  rw [← List.drop_zero (l := t.data.toList), List.drop_eq_getElem_cons this]; simp; rfl
 conv => rhs; rw [e]
 rw [List.dropWhile_cons, if_pos hb]
theorem drop_end (t : ByteArray) (hb : ∀ h : 0 < t.size, blankB t[0] = false) : t.data.toList.dropWhile blankB = t.data.toList := by
  by_cases h : 0 < t.size
  · have e : t.data.toList = t[0] :: t.data.toList.drop 1 := by
      have : 0 < t.data.toList.length := by simpa using h
      rw [← List.drop_zero (l := t.data.toList), List.drop_eq_getElem_cons this]; simp; rfl
    rw [e, List.dropWhile_cons, if_neg (by simp [hb h])]
  · have : t.data.toList = [] := by apply List.eq_nil_of_length_eq_zero; have hl : t.data.toList.length = t.size := by simp
                                    omega
    rw [this]; rfl
theorem back_eq (t : ByteArray) (h : 0 < t.size) : t.data.toList = t.data.toList.take (t.size - 1) ++ [t[t.size - 1]] := by
 have h1 : t.size - 1 < t.data.toList.length := by simp; omega
 have : t.data.toList.take (t.size - 1 + 1) = t.data.toList := by rw [List.take_of_length_le]; simp; omega
 rw [List.take_succ_eq_append_getElem h1] at this
 exact this.symm
theorem rdrop_step (t : ByteArray) (h : 0 < t.size) (hb : blankB t[t.size - 1] = true) : rdrop blankB (t.extract 0 (t.size - 1)).data.toList = rdrop blankB t.data.toList := by
 rw [Lib.extract_from_zero]
 conv => rhs; rw [back_eq t h]
 unfold rdrop
 rw [List.reverse_append]; simp only [List.reverse_cons, List.reverse_nil, List.nil_append, List.cons_append]
 rw [List.dropWhile_cons, if_pos hb]
theorem rdrop_end (t : ByteArray) (hb : ∀ h : 0 < t.size, blankB t[t.size - 1] = false) : rdrop blankB t.data.toList = t.data.toList := by
  by_cases h : 0 < t.size
  · conv => lhs; rw [back_eq t h]
    unfold rdrop
    rw [List.reverse_append]; simp only [List.reverse_cons, List.reverse_nil, List.nil_append, List.cons_append]
    rw [List.dropWhile_cons, if_neg (by simp [hb h])]
    rw [List.reverse_cons, List.reverse_reverse]; exact (back_eq t h).symm
  · have : t.data.toList = [] := by apply List.eq_nil_of_length_eq_zero; have hl : t.data.toList.length = t.size := by simp
                                    omega
    rw [this]; rfl
end Go.Proofs.YthgiplnidnkajaaDoor
namespace Go.Proofs.YthgiplnidnkajaaDoor
open Go.RowKit
theorem lt_cell {w : World} {a : Addr} {v : Value} (h : w.cell? a = some v) : a.block < w.heap.size := by
 rcases Nat.lt_or_ge a.block w.heap.size with h' | h'
 · exact h'
 · simp [World.cell?, Array.getElem?_eq_none h'] at h
theorem below_trans {w w1 w2 : World} (h : Below w.heap.size w w1) (k : Below w1.heap.size w1 w2) : Below w.heap.size w w2 := h.trans (k.mono h.size)
theorem below_cell {w w' : World} (h : Below w.heap.size w w') {a : Addr} {v : Value} (hc : w.cell? a = some v) : w'.cell? a = some v := by
 rw [h.cell (lt_cell hc)]; exact hc
def StrsAt (w : World) (a : Option Addr) (l : List ByteArray) : Prop :=
 ∀ j (hj : j < l.length), ∃ b off, a = some ⟨b, off, none⟩ ∧ w.cell? ⟨b, off + j, none⟩ = some (.string l[j])
theorem StrsAt.keep {w w' : World} {a : Option Addr} {l : List ByteArray} (h : StrsAt w a l) (hb : Below w.heap.size w w') : StrsAt w' a l := fun j hj => by
 obtain ⟨b, off, e, hc⟩ := h j hj
 exact ⟨b, off, e, below_cell hb hc⟩
theorem StrsAt.nil (w : World) (a : Option Addr) : StrsAt w a [] := fun _ hj => absurd hj (Nat.not_lt_zero _)
def RetStrs (w : World) (l : List ByteArray) (e : Ending) (w' : World) : Prop :=
 ∃ a cap, e = .returned (.slice a l.length cap) ∧ StrsAt w' a l ∧ Below w.heap.size w w'
def RetFresh (w : World) (l : List ByteArray) (e : Ending) (w' : World) : Prop :=
 ∃ g cap, e = .returned (.slice (some ⟨g, 0, none⟩) l.length cap) ∧ w.heap.size ≤ g ∧ g < w'.heap.size ∧ StrsAt w' (some ⟨g, 0, none⟩) l ∧ Below w.heap.size w w'
theorem Tryd.info9 : (Tryd.prog.info? 9).map (fun i => (i.zero, i.size, i.bytes)) = some (some (.string ⟨#[]⟩), 1, 16) := by kernel_rfl
def Acc (w0 w : World) (v : Value) (l : List ByteArray) : Prop :=
 w.ownsRow w0.heap.size 9 1 v l.length (l.map Value.string) ∧ Below w0.heap.size w0 w
def Aside (w : World) (v : Value) (P : Nat) (parts : List ByteArray) : Prop :=
 StrsAt w (some ⟨P, 0, none⟩) parts ∧ v.ownBlock ≠ some P ∧ P < w.heap.size
theorem Acc.start (w : World) : Acc w w (.slice none 0 0) [] := ⟨World.ownsRow_nil _ _ _ _, Below.refl _ _⟩
theorem ownsRow_keep {w w' : World} {base : Nat} {e : TypeId} {size n : Nat} {v : Value} {xs : List Value} (h : w.ownsRow base e size v n xs) (hb : Below w.heap.size w w') : w'.ownsRow base e size v n xs := by
 obtain ⟨h1, h2⟩ := h
 refine ⟨h1, ?_⟩
 rcases h2 with h2 | ⟨g, cap, cur, hv, hg, hc, r⟩
 · exact .inl h2
 · have hlt : g < w.heap.size := by
    rcases Nat.lt_or_ge g w.heap.size with h' | h'
    · exact h'
    · rw [Array.getElem?_eq_none h'] at hc; cases hc
   exact .inr ⟨g, cap, cur, hv, hg, by rw [hb.block g hlt]; exact hc, r⟩
theorem Acc.keep {w0 w w' : World} {v : Value} {l : List ByteArray} (h : Acc w0 w v l) (hb : Below w.heap.size w w') : Acc w0 w' v l :=
 ⟨ownsRow_keep h.1 hb, h.2.trans (hb.mono h.2.size)⟩
theorem Acc.shape {w0 w : World} {v : Value} {l : List ByteArray} (h : Acc w0 w v l) : ∃ a cap, v = .slice a l.length cap ∧ StrsAt w a l := by
 obtain ⟨⟨h1, h2⟩, _⟩ := h
 rcases h2 with ⟨rfl, h2⟩ | ⟨g, cap, cur, rfl, hg, hc, hcap, hm, hsz, ht⟩
 · have : l = [] := List.eq_nil_of_length_eq_zero h2
   subst this
   exact ⟨none, 0, rfl, StrsAt.nil _ _⟩
 · refine ⟨_, cap, rfl, fun j hj => ⟨g, 0, rfl, ?_⟩⟩
   have e : cur.toList[j]? = some (Value.string l[j]) := by
    have := congrArg (fun x => x[j]?) ht
    simp only [Nat.mul_one] at this
    rw [List.getElem?_take_of_lt hj, List.getElem?_map, List.getElem?_eq_getElem hj] at this
    exact this
   simp only [World.cell?, hc, Nat.zero_add]
   simpa using e
theorem Acc.isNew {w0 w : World} {v : Value} {l : List ByteArray} (h : Acc w0 w v l) (hne : l ≠ []) : ∃ g cap, v = .slice (some ⟨g, 0, none⟩) l.length cap ∧ w0.heap.size ≤ g ∧ g < w.heap.size ∧ StrsAt w (some ⟨g, 0, none⟩) l := by
 obtain ⟨a, cap, hv, hs⟩ := h.shape
 have hpos : 0 < l.length := by cases l with
  | nil => exact absurd rfl hne
  | cons _ _ => simp
 obtain ⟨⟨h1, h2⟩, hb⟩ := h
 rcases h2 with ⟨_, h2⟩ | ⟨g, cap', cur, hv', hg, hc, _⟩
 · omega
 · rw [hv] at hv'; cases hv'
   have hlt : g < w.heap.size := by
    rcases Nat.lt_or_ge g w.heap.size with h' | h'
    · exact h'
    · rw [Array.getElem?_eq_none h'] at hc; cases hc
   exact ⟨g, cap, hv, hg, hlt, hs⟩
section
variable {ops : Array Oper} {rest : List Oper} {o : Oper} {act : Act} {Q : Exit → Act → World → Prop}
theorem wpList_append_acc (w : World) (hgd : o.guard = none) (s x : Operand) (ho : o.op = .call { callee := .builtin .append, args := #[s, x], argTypes := #[50, 50] })
  {w0 : World} {v : Value} {l : List ByteArray} (hs : act.eval s = v) (h : Acc w0 w v l) {b c : Nat} (hx : act.eval x = .slice (some ⟨b, 0, none⟩) 1 c) {y : ByteArray} (hy : w.cell? ⟨b, 0, none⟩ = some (.string y))
  (hn : l.length + 1 ≤ 8796093022208)
  (K : ∀ g cap w', Acc w0 w' (.slice (some ⟨g, 0, none⟩) (l.length + 1) cap) (l ++ [y]) → (∀ P parts, Aside w v P parts → Aside w' (.slice (some ⟨g, 0, none⟩) (l.length + 1) cap) P parts) →
   wpList Tryd.prog ops Q rest (act.put o.dst (.slice (some ⟨g, 0, none⟩) (l.length + 1) cap)) w') : wpList Tryd.prog ops Q (o :: rest) act w := by
 obtain ⟨i0, hi, hz0, hz1, hz2⟩ := info_parts Tryd.info9
 refine wpList_append_lies w hgd s x 50 ho w0.heap.size 9 i0 (.string ⟨#[]⟩) 1 16 Tryd.underlying50 hi hz0 hz1 hz2 rfl (by decide) v l.length (l.map Value.string) hs h.1 ⟨b, 0, none⟩ 1 c [.string y] hx rfl ?_ ?_ (by decide) (by unfold maxLen; omega) (by omega) h.2.size w.heap.size rfl ?_
 · intro j u hj
   match j, hj with
   | 0, hj => simp at hj; subst hj; rw [Addr.add_lit]; exact hy
   | j + 1, hj => simp at hj
 · intro u hu; simp at hu; subst hu; rfl
 · intro g cap w' hown hgrow hg hlt
   have hacc : Acc w0 w' (.slice (some ⟨g, 0, none⟩) (l.length + 1) cap) (l ++ [y]) := by
    refine ⟨by simpa using hown, h.2.grown hgrow h.2.size fun k hk => ?_⟩
    exact (World.ownsRow.lt h.1 k hk).1
   refine K g cap w' hacc (fun P parts hP => ⟨fun j hj => ?_, ?_, ?_⟩)
   · obtain ⟨b', off, e, hc⟩ := hP.1 j hj
     cases e
     exact ⟨P, 0, rfl, hgrow.cell hc (fun e => hP.2.1 e.symm)⟩
   · intro e
     have : g = P := by simpa [Value.ownBlock] using e
     subst this
     rcases hg with hg | hg
     · exact hP.2.1 hg
     · have := hP.2.2; omega
   · exact Nat.lt_of_lt_of_le hP.2.2 hgrow.size
end
end Go.Proofs.YthgiplnidnkajaaDoor
namespace Go.Proofs
open Go.Shelf
def Tryd.lays160_ren : Go.Shelf.Ren := ⟨fun | 160 => 46 | 232 => 60 | 231 => 59 | 227 => 61 | 234 => 63 | 233 => 62 | 236 => 65 | 235 => 64 | 228 => 73 | 271 => 75 | 151 => 74 | 197 => 70 | 120 => 81 | 152 => 80 | 260 => 76 | 137 => 34 | 119 => 83 | 224 => 78 | 225 => 77 | 217 => 49 | 266 => 67 | n => n, fun | 9 => 9 | 4 => 4 | 3 => 3 | 5 => 5 | 117 => 84 | 116 => 83 | 0 => 0 | 124 => 87 | 21 => 21 | 105 => 89 | 46 => 92 | 119 => 94 | 139 => 97 | 138 => 96 | n => n, fun | 3 => 1 | 4 => 2 | n => n⟩
theorem Tryd.lays160 : Go.Proofs.Lays.n160 Tryd.prog Tryd.lays160_ren := {
 mixed := by kernel_rfl
 f119 := Tryd.func83.trans (congrArg some (by kernel_rfl))
 f120 := Tryd.func81.trans (congrArg some (by kernel_rfl))
 f137 := Tryd.func34.trans (congrArg some (by kernel_rfl))
 f151 := Tryd.func74.trans (congrArg some (by kernel_rfl))
 f152 := Tryd.func80.trans (congrArg some (by kernel_rfl))
 f160 := Tryd.func46.trans (congrArg some (by kernel_rfl))
 f197 := Tryd.func70.trans (congrArg some (by kernel_rfl))
 f217 := Tryd.func49.trans (congrArg some (by kernel_rfl))
 f224 := Tryd.func78.trans (congrArg some (by kernel_rfl))
 f225 := Tryd.func77.trans (congrArg some (by kernel_rfl))
 f227 := Tryd.func61.trans (congrArg some (by kernel_rfl))
 f228 := Tryd.func73.trans (congrArg some (by kernel_rfl))
 f231 := Tryd.func59.trans (congrArg some (by kernel_rfl))
 f232 := Tryd.func60.trans (congrArg some (by kernel_rfl))
 f233 := Tryd.func62.trans (congrArg some (by kernel_rfl))
 f234 := Tryd.func63.trans (congrArg some (by kernel_rfl))
 f235 := Tryd.func64.trans (congrArg some (by kernel_rfl))
 f236 := Tryd.func65.trans (congrArg some (by kernel_rfl))
 f260 := Tryd.func76.trans (congrArg some (by kernel_rfl))
 f266 := Tryd.func67.trans (congrArg some (by kernel_rfl))
 f271 := Tryd.func75.trans (congrArg some (by kernel_rfl))
 t0 := Tryd.underlying0
 a0 := Tryd.isAgg0
 z0 := Tryd.sizeOf0
 v0 := Tryd.zeroValue0
 t3 := Tryd.underlying3
 a3 := Tryd.isAgg3
 z3 := Tryd.sizeOf3
 v3 := Tryd.zeroValue3
 t4 := Tryd.underlying4
 a4 := Tryd.isAgg4
 z4 := Tryd.sizeOf4
 v4 := Tryd.zeroValue4
 t5 := Tryd.underlying5
 a5 := Tryd.isAgg5
 z5 := Tryd.sizeOf5
 v5 := Tryd.zeroValue5
 t9 := Tryd.underlying9
 a9 := Tryd.isAgg9
 z9 := Tryd.sizeOf9
 v9 := Tryd.zeroValue9
 t21 := Tryd.underlying21
 a21 := Tryd.isAgg21
 z21 := Tryd.sizeOf21
 v21 := Tryd.zeroValue21
 t46 := Tryd.underlying92
 a46 := Tryd.isAgg92
 z46 := Tryd.sizeOf92
 v46 := Tryd.zeroValue92
 t105 := Tryd.underlying89
 a105 := Tryd.isAgg89
 z105 := Tryd.sizeOf89
 v105 := Tryd.zeroValue89
 t116 := Tryd.underlying83
 a116 := Tryd.isAgg83
 z116 := Tryd.sizeOf83
 t117 := Tryd.underlying84
 a117 := Tryd.isAgg84
 z117 := Tryd.sizeOf84
 v117 := Tryd.zeroValue84
 t119 := Tryd.underlying94
 a119 := Tryd.isAgg94
 z119 := Tryd.sizeOf94
 t124 := Tryd.underlying87
 a124 := Tryd.isAgg87
 z124 := Tryd.sizeOf87
 v124 := Tryd.zeroValue87
 t138 := Tryd.underlying96
 a138 := Tryd.isAgg96
 z138 := Tryd.sizeOf96
 v138 := Tryd.zeroValue96
 t139 := Tryd.underlying97
 a139 := Tryd.isAgg97
 z139 := Tryd.sizeOf97
 v139 := Tryd.zeroValue97
 g3 := by kernel_rfl
 g4 := by kernel_rfl }
def Tryd.lays146_ren : Go.Shelf.Ren := ⟨fun | 146 => 26 | 221 => 43 | 268 => 54 | 138 => 55 | 143 => 56 | 195 => 69 | 197 => 70 | 218 => 71 | 219 => 72 | 260 => 76 | 217 => 49 | 225 => 77 | 224 => 78 | 267 => 79 | 266 => 67 | 314 => 82 | n => n, fun | 9 => 9 | 31 => 50 | 3 => 3 | 4 => 4 | 0 => 0 | 105 => 89 | 21 => 21 | 5 => 5 | 46 => 92 | 119 => 94 | 139 => 97 | 138 => 96 | 146 => 99 | 51 => 98 | n => n, fun | 1 => 0 | 3 => 1 | 4 => 2 | n => n⟩
theorem Tryd.lays146 : Go.Proofs.Lays.n146 Tryd.prog Tryd.lays146_ren := {
 mixed := by kernel_rfl
 f138 := Tryd.func55.trans (congrArg some (by kernel_rfl))
 f143 := Tryd.func56.trans (congrArg some (by kernel_rfl))
 f146 := Tryd.func26.trans (congrArg some (by kernel_rfl))
 f195 := Tryd.func69.trans (congrArg some (by kernel_rfl))
 f197 := Tryd.func70.trans (congrArg some (by kernel_rfl))
 f217 := Tryd.func49.trans (congrArg some (by kernel_rfl))
 f218 := Tryd.func71.trans (congrArg some (by kernel_rfl))
 f219 := Tryd.func72.trans (congrArg some (by kernel_rfl))
 f221 := Tryd.func43.trans (congrArg some (by kernel_rfl))
 f224 := Tryd.func78.trans (congrArg some (by kernel_rfl))
 f225 := Tryd.func77.trans (congrArg some (by kernel_rfl))
 f260 := Tryd.func76.trans (congrArg some (by kernel_rfl))
 f266 := Tryd.func67.trans (congrArg some (by kernel_rfl))
 f267 := Tryd.func79.trans (congrArg some (by kernel_rfl))
 f268 := Tryd.func54.trans (congrArg some (by kernel_rfl))
 f314 := Tryd.func82.trans (congrArg some (by kernel_rfl))
 t0 := Tryd.underlying0
 a0 := Tryd.isAgg0
 z0 := Tryd.sizeOf0
 v0 := Tryd.zeroValue0
 t3 := Tryd.underlying3
 a3 := Tryd.isAgg3
 z3 := Tryd.sizeOf3
 v3 := Tryd.zeroValue3
 t4 := Tryd.underlying4
 a4 := Tryd.isAgg4
 z4 := Tryd.sizeOf4
 v4 := Tryd.zeroValue4
 t5 := Tryd.underlying5
 a5 := Tryd.isAgg5
 z5 := Tryd.sizeOf5
 v5 := Tryd.zeroValue5
 t9 := Tryd.underlying9
 a9 := Tryd.isAgg9
 z9 := Tryd.sizeOf9
 v9 := Tryd.zeroValue9
 t21 := Tryd.underlying21
 a21 := Tryd.isAgg21
 z21 := Tryd.sizeOf21
 v21 := Tryd.zeroValue21
 t31 := Tryd.underlying50
 a31 := Tryd.isAgg50
 z31 := Tryd.sizeOf50
 v31 := Tryd.zeroValue50
 t46 := Tryd.underlying92
 a46 := Tryd.isAgg92
 z46 := Tryd.sizeOf92
 v46 := Tryd.zeroValue92
 t51 := Tryd.underlying98
 a51 := Tryd.isAgg98
 z51 := Tryd.sizeOf98
 v51 := Tryd.zeroValue98
 t105 := Tryd.underlying89
 a105 := Tryd.isAgg89
 z105 := Tryd.sizeOf89
 v105 := Tryd.zeroValue89
 t119 := Tryd.underlying94
 a119 := Tryd.isAgg94
 z119 := Tryd.sizeOf94
 t138 := Tryd.underlying96
 a138 := Tryd.isAgg96
 z138 := Tryd.sizeOf96
 v138 := Tryd.zeroValue96
 t139 := Tryd.underlying97
 a139 := Tryd.isAgg97
 z139 := Tryd.sizeOf97
 v139 := Tryd.zeroValue97
 t146 := Tryd.underlying99
 a146 := Tryd.isAgg99
 z146 := Tryd.sizeOf99
 v146 := Tryd.zeroValue99
 g1 := by kernel_rfl
 g3 := by kernel_rfl
 g4 := by kernel_rfl }
def Tryd.laysM146_ren : Go.Shelf.Ren := ⟨fun | 146 => 26 | 221 => 43 | 268 => 54 | 138 => 55 | 143 => 56 | 195 => 69 | 197 => 70 | 218 => 71 | 219 => 72 | 260 => 76 | 217 => 49 | 225 => 77 | 224 => 78 | 267 => 79 | 266 => 67 | 314 => 82 | n => n, fun | 9 => 9 | 31 => 50 | 3 => 3 | 4 => 4 | 0 => 0 | 105 => 89 | 21 => 21 | 5 => 5 | 46 => 92 | 119 => 94 | 139 => 97 | 138 => 96 | 146 => 99 | 51 => 98 | n => n, fun | 1 => 0 | 3 => 1 | 4 => 2 | n => n⟩
theorem Tryd.laysM146 : Go.Proofs.LaysM.n146 Tryd.prog Tryd.laysM146_ren := {
 mixed := by kernel_rfl
 f138 := Tryd.func55.trans (congrArg some (by kernel_rfl))
 f143 := Tryd.func56.trans (congrArg some (by kernel_rfl))
 f146 := Tryd.func26.trans (congrArg some (by kernel_rfl))
 f195 := Tryd.func69.trans (congrArg some (by kernel_rfl))
 f197 := Tryd.func70.trans (congrArg some (by kernel_rfl))
 f217 := Tryd.func49.trans (congrArg some (by kernel_rfl))
 f218 := Tryd.func71.trans (congrArg some (by kernel_rfl))
 f219 := Tryd.func72.trans (congrArg some (by kernel_rfl))
 f221 := Tryd.func43.trans (congrArg some (by kernel_rfl))
 f224 := Tryd.func78.trans (congrArg some (by kernel_rfl))
 f225 := Tryd.func77.trans (congrArg some (by kernel_rfl))
 f260 := Tryd.func76.trans (congrArg some (by kernel_rfl))
 f266 := Tryd.func67.trans (congrArg some (by kernel_rfl))
 f267 := Tryd.func79.trans (congrArg some (by kernel_rfl))
 f268 := Tryd.func54.trans (congrArg some (by kernel_rfl))
 f314 := Tryd.func82.trans (congrArg some (by kernel_rfl))
 t0 := Tryd.underlying0
 a0 := Tryd.isAgg0
 z0 := Tryd.sizeOf0
 v0 := Tryd.zeroValue0
 t3 := Tryd.underlying3
 a3 := Tryd.isAgg3
 z3 := Tryd.sizeOf3
 v3 := Tryd.zeroValue3
 t4 := Tryd.underlying4
 a4 := Tryd.isAgg4
 z4 := Tryd.sizeOf4
 v4 := Tryd.zeroValue4
 t5 := Tryd.underlying5
 a5 := Tryd.isAgg5
 z5 := Tryd.sizeOf5
 v5 := Tryd.zeroValue5
 t9 := Tryd.underlying9
 a9 := Tryd.isAgg9
 z9 := Tryd.sizeOf9
 v9 := Tryd.zeroValue9
 t21 := Tryd.underlying21
 a21 := Tryd.isAgg21
 z21 := Tryd.sizeOf21
 v21 := Tryd.zeroValue21
 t31 := Tryd.underlying50
 a31 := Tryd.isAgg50
 z31 := Tryd.sizeOf50
 v31 := Tryd.zeroValue50
 t46 := Tryd.underlying92
 a46 := Tryd.isAgg92
 z46 := Tryd.sizeOf92
 v46 := Tryd.zeroValue92
 t51 := Tryd.underlying98
 a51 := Tryd.isAgg98
 z51 := Tryd.sizeOf98
 v51 := Tryd.zeroValue98
 t105 := Tryd.underlying89
 a105 := Tryd.isAgg89
 z105 := Tryd.sizeOf89
 v105 := Tryd.zeroValue89
 t119 := Tryd.underlying94
 a119 := Tryd.isAgg94
 z119 := Tryd.sizeOf94
 t138 := Tryd.underlying96
 a138 := Tryd.isAgg96
 z138 := Tryd.sizeOf96
 v138 := Tryd.zeroValue96
 t139 := Tryd.underlying97
 a139 := Tryd.isAgg97
 z139 := Tryd.sizeOf97
 v139 := Tryd.zeroValue97
 t146 := Tryd.underlying99
 a146 := Tryd.isAgg99
 z146 := Tryd.sizeOf99
 v146 := Tryd.zeroValue99
 g1 := by kernel_rfl
 g3 := by kernel_rfl
 g4 := by kernel_rfl
 i0 := by kernel_rfl
 i3 := by kernel_rfl
 i4 := by kernel_rfl
 i5 := by kernel_rfl
 i9 := by kernel_rfl
 i21 := by kernel_rfl
 i31 := by kernel_rfl
 i46 := by kernel_rfl
 i51 := by kernel_rfl
 i105 := by kernel_rfl
 i138 := by kernel_rfl
 i139 := by kernel_rfl
 i146 := by kernel_rfl
 m1 := by kernel_rfl
 s1_3 := fun w h => Go.Proofs.cell_of_shapedOpen_int (zero := #[.int .i64 0]) (t := 3) h (of_decide_eq_true (by kernel_rfl)) (by kernel_rfl) rfl (by kernel_rfl) (by kernel_rfl) Tryd.underlying3
 m3 := by kernel_rfl
 m4 := by kernel_rfl }
end Go.Proofs
namespace Go.Proofs.YthgiplnidnkajaaDoor
open Go.RowKit
set_option maxHeartbeats 400000 in
theorem refFold_any (a b : ByteArray) (w : World) (ha : a.size ≤ maxLen) (hb : b.size ≤ maxLen) :
  Calls Tryd.prog 47 #[.string a, .string b] w fun e w' => e = .returned (.bool (foldS a b)) ∧ Below w.heap.size w w' := by
 go_enter Tryd.func47, Tryd.ntmps47
 go_wp2_with fail
 refine (refLower_any a _ ha).mono ?_
 rintro e w1 ⟨rfl, hb1⟩
 go_wp2_with fail
 refine (refLower_any b _ hb).mono ?_
 rintro e w2 ⟨rfl, hb2⟩
 go_wp2_with fail
 go_ret
 exact ⟨ret_bool rfl, below_trans hb1 hb2⟩
theorem trimLib_any (s : ByteArray) (w : World) (hs : s.size ≤ maxLen) :
  Calls Tryd.prog 46 #[.string s, .string ⟨#[32, 9]⟩] w fun e w' => e = .returned (.string (trimBA s)) ∧ Below w.heap.size w w' :=
 (Any.strings_Trim_laid Tryd.lays160 (by kernel_rfl) s ⟨#[32, 9]⟩ w hs (by decide) (ascii_of_all (by decide))).mono fun _ _ ⟨he, hw⟩ => ⟨he, hw⟩
set_option maxHeartbeats 400000 in
theorem trim_any (s : ByteArray) (w : World) (hs : s.size ≤ maxLen) :
  Calls Tryd.prog 28 #[.string s] w fun e w' => e = .returned (.string (trimBA s)) ∧ Below w.heap.size w w' := by
 go_enter Tryd.func28, Tryd.ntmps28
 go_wp2_with fail
 refine (trimLib_any s _ hs).mono ?_
 rintro e w1 ⟨rfl, hb1⟩
 go_wp2_with fail
 go_ret
 exact ⟨rfl, hb1⟩
set_option maxHeartbeats 400000 in
theorem blank_any (c : UInt8) (w : World) :
  Calls Tryd.prog 40 #[.int .u8 c.toNat] w fun e w' => e = .returned (.bool (blankB c)) ∧ w = w' := by
 have h0 : blankB c = (((c.toNat : Int) == 32) || ((c.toNat : Int) == 9)) := by
  unfold blankB blanks
  rw [Bool.eq_iff_iff]
  simp only [List.contains_cons, List.contains_nil, Bool.or_false, Bool.or_eq_true, beq_iff_eq, ← UInt8.toNat_inj]
  have h1 : (32 : UInt8).toNat = 32 := rfl
  have h2 : (9 : UInt8).toNat = 9 := rfl
  omega
 have H0 := Lib.hid h0
 clear h0
 go_enter Tryd.func40, Tryd.ntmps40
 go_wp2
 all_goals go_ret
 all_goals exact ⟨ret_bool (by rw [H0.out]; try simp [*]), rfl⟩
def strLen : Value → Nat | .string s => s.size | _ => 0
set_option maxHeartbeats 800000 in
theorem refTrim_any (s : ByteArray) (w : World) (hs : s.size ≤ maxLen) :
  Calls Tryd.prog 24 #[.string s] w fun e w' => e = .returned (.string (trimBA s)) ∧ w = w' := by
 unfold maxLen at hs
 go_enter Tryd.func24, Tryd.ntmps24
 go_wp2
 go_loop [0] (fun v => ∃ t : ByteArray, v = .string t ∧ t.size ≤ s.size ∧ Hid (t.data.toList.dropWhile blankB = s.data.toList.dropWhile blankB)) (fun v => strLen v)
 case atStart => exact ⟨s, rfl, Nat.le_refl _, Lib.hid rfl⟩
 case round =>
  obtain ⟨t, rfl, hts, HT⟩ := hrel
  by_cases hgo : ∃ h : 0 < t.size, blankB t[0] = true
  · obtain ⟨hlt, hb⟩ := hgo
    have HB := Lib.hid hb
    have hsz : (t.extract 1 t.size).size = t.size - 1 := by simp
    have HS := Lib.hid hsz
    clear hsz
    go_wp2_with (go_at_call 40; refine (blank_any _ _).mono ?_; rintro e w' ⟨rfl, rfl⟩)
    go_round
    case rel => exact ⟨_, rfl, by rw [HS.out]; omega, Lib.hid (by rw [drop_step t hlt HB.out]; exact HT.out)⟩
    case measure => simp only [strLen]; rw [HS.out]; omega
  · have hE : t.data.toList = s.data.toList.dropWhile blankB := by
     rw [← HT.out]; symm; apply drop_end
     intro h; by_cases hb : blankB t[0] = true
     · exact absurd ⟨h, hb⟩ hgo
     · simpa using hb
    have HE := Lib.hid hE
    clear hE HT
    have hcase : ¬ 0 < t.size ∨ ∃ h : 0 < t.size, blankB t[0] = false := by
     by_cases h : 0 < t.size
     · right; exact ⟨h, by by_cases hb : blankB t[0] = true; exact absurd ⟨h, hb⟩ hgo; simpa using hb⟩
     · left; exact h
    clear hgo
    rcases hcase with hz | ⟨hlt, hb⟩
    all_goals
     go_wp2_with (go_at_call 40; refine (blank_any _ _).mono ?_; rintro e w' ⟨rfl, rfl⟩)
     go_loop [0] (fun v => ∃ t' : ByteArray, v = .string t' ∧ t'.size ≤ s.size ∧ Hid (rdrop blankB t'.data.toList = rdrop blankB t.data.toList)) (fun v => strLen v)
     case atStart => exact ⟨t, rfl, hts, Lib.hid rfl⟩
     case round =>
      obtain ⟨t', rfl, hts', HT'⟩ := hrel
      by_cases hgo : ∃ h : 0 < t'.size, blankB t'[t'.size - 1] = true
      · obtain ⟨hlt', hb'⟩ := hgo
        have HB' := Lib.hid hb'
        have hsz : (t'.extract 0 (t'.size - 1)).size = t'.size - 1 := by simp
        have HS := Lib.hid hsz
        clear hsz
        go_wp2_with (go_at_call 40; refine (blank_any _ _).mono ?_; rintro e w' ⟨rfl, rfl⟩)
        go_round
        case rel => exact ⟨_, rfl, by rw [HS.out]; omega, Lib.hid (by rw [rdrop_step t' hlt' HB'.out]; exact HT'.out)⟩
        case measure => simp only [strLen]; rw [HS.out]; omega
      · have hE' : t'.data.toList = trimL s.data.toList := by
         unfold trimL
         rw [trim_comm, ← HE.out, ← HT'.out]; symm; apply rdrop_end
         intro h; by_cases hb : blankB t'[t'.size - 1] = true
         · exact absurd ⟨h, hb⟩ hgo
         · simpa using hb
        have HE' := Lib.hid hE'
        clear hE' HT'
        have hcase : ¬ 0 < t'.size ∨ ∃ h : 0 < t'.size, blankB t'[t'.size - 1] = false := by
         by_cases h : 0 < t'.size
         · right; exact ⟨h, by by_cases hb : blankB t'[t'.size - 1] = true; exact absurd ⟨h, hb⟩ hgo; simpa using hb⟩
         · left; exact h
        clear hgo
        rcases hcase with hz' | ⟨hlt', hb'⟩
        all_goals
         go_wp2_with (go_at_call 40; refine (blank_any _ _).mono ?_; rintro e w' ⟨rfl, rfl⟩)
         go_ret
         exact ⟨ret_str (ba_ext (by rw [trimBA_list]; exact HE'.out)), rfl⟩
def valB (c : UInt8) : Bool := decide ((c.toNat : Int) = 9) || (decide (32 ≤ (c.toNat : Int)) && !decide ((c.toNat : Int) = 127))
def visS (s : ByteArray) : Bool := s.data.toList.all valB
def valS (s : ByteArray) : Bool := visS s && ((trimBA s).toList == s.toList)
end Go.Proofs.YthgiplnidnkajaaDoor
namespace Go.Proofs.YthgiplnidnkajaaDoor
open Go
def front (p : List UInt8) : List (List UInt8) → List (List UInt8)
 | [] => [p]
 | h :: r => (p ++ h) :: r
def splitL (c : UInt8) : List UInt8 → List (List UInt8)
 | [] => [[]]
 | b :: t => if b = c then [] :: splitL c t else front [b] (splitL c t)
theorem splitL_ne (c : UInt8) : ∀ l, splitL c l ≠ []
 | [] => by simp [splitL]
 | b :: t => by
  unfold splitL; split
  · simp
  · cases splitL c t <;> simp [front]
theorem front_nil (X : List (List UInt8)) (h : X ≠ []) : front [] X = X := by cases X with
 | nil => exact absurd rfl h
 | cons a r => simp [front]
theorem front_front (p q : List UInt8) (X : List (List UInt8)) : front p (front q X) = front (p ++ q) X := by cases X <;> simp [front]
theorem index_cons_ne (b c : UInt8) (l : List UInt8) (h : b ≠ c) : Lib.index (b :: l) [c] = if Lib.index l [c] == -1 then -1 else Lib.index l [c] + 1 := by
 rw [Lib.index]
 have : (List.isPrefixOf [c] (b :: l)) = false := by simp [List.isPrefixOf]; exact fun e => h e.symm
 rw [this]; rfl
theorem index_cons_eq (c : UInt8) (l : List UInt8) : Lib.index (c :: l) [c] = 0 := by
 rw [Lib.index]
 have : (List.isPrefixOf [c] (c :: l)) = true := by simp [List.isPrefixOf]
 rw [this]; rfl
theorem splitK_eq (c : UInt8) : ∀ l : List UInt8, Lib.splitK [c] 0 (Lib.count l [c]) l = splitL c l
 | [] => rfl
 | b :: t => by
  have ih := splitK_eq c t
  by_cases h : b = c
  · subst h
    rw [Lib.count_cons_eq, Nat.add_comm, Lib.splitK, index_cons_eq, splitL, if_pos rfl]
    rw [if_neg (by decide)]
    simp only [Int.toNat_zero, List.take_zero, Nat.add_zero, List.length_cons, List.length_nil, Nat.zero_add]
    rw [List.drop_succ_cons, List.drop_zero, ih]
  · rw [Lib.count_cons_ne b c t h, splitL, if_neg h, ← ih]
    cases hk : Lib.count t [c] with
    | zero => rfl
    | succ k =>
     have hm : ¬ Lib.index t [c] = -1 := fun e => by rw [Lib.count_miss e] at hk; cases hk
     have hge := Lib.index_ge t [c]
     rw [Lib.splitK, Lib.splitK, index_cons_ne b c t h]
     have hA : (Lib.index t [c] == -1) = false := by simpa using hm
     have hB : (Lib.index t [c] + 1 == -1) = false := by rw [beq_eq_false_iff_ne]; omega
     simp only [hA, hB, Bool.false_eq_true, if_false]
     obtain ⟨i, hi⟩ : ∃ i : Nat, Lib.index t [c] = i := ⟨(Lib.index t [c]).toNat, by omega⟩
     rw [hi]
     have e1 : ((i : Int) + 1).toNat = i + 1 := by omega
     have e2 : (i : Int).toNat = i := by omega
     rw [e1, e2]
     simp [front]
def ofL (l : List UInt8) : ByteArray := ⟨l.toArray⟩
theorem ofL_list (l : List UInt8) : (ofL l).data.toList = l := by simp [ofL]
theorem ofL_of (s : ByteArray) : ofL s.data.toList = s := ba_ext (ofL_list _)
def splitS (c : UInt8) (s : ByteArray) : List ByteArray := (splitL c s.data.toList).map ofL
theorem splitB_eq (c : UInt8) (s : ByteArray) : Lib.splitB ⟨#[c]⟩ 0 (Lib.countB s ⟨#[c]⟩) s = splitS c s := by
 have h := Lib.splitB_data ⟨#[c]⟩ 0 (Lib.countB s ⟨#[c]⟩) s
 have e : Lib.splitK (ByteArray.mk #[c]).data.toList 0 (Lib.countB s ⟨#[c]⟩) s.data.toList = splitL c s.data.toList := splitK_eq c s.data.toList
 rw [e] at h
 unfold splitS
 rw [← h, List.map_map]
 have : ∀ L : List ByteArray, L = L.map (ofL ∘ fun x => x.data.toList) := fun L => by
  induction L with
  | nil => rfl
  | cons a t ih => rw [List.map_cons, ← ih]; simp [ofL_of]
 exact this _
theorem splitL_append (c : UInt8) : ∀ a b : List UInt8, splitL c (a ++ c :: b) = splitL c a ++ splitL c b
 | [], b => by simp [splitL]
 | x :: a, b => by
  rw [List.cons_append, splitL, splitL]
  by_cases h : x = c
  · rw [if_pos h, if_pos h, splitL_append c a b]; rfl
  · rw [if_neg h, if_neg h, splitL_append c a b]
    cases hs : splitL c a with
    | nil => exact absurd hs (splitL_ne c a)
    | cons p r => rfl
theorem splitL_whole (c : UInt8) : ∀ l : List UInt8, ¬ c ∈ l → splitL c l = [l]
 | [], _ => rfl
 | b :: t, h => by
  rw [splitL, if_neg (by intro e; apply h; simp [e]), splitL_whole c t (by intro hc; apply h; simp [hc])]; rfl
end Go.Proofs.YthgiplnidnkajaaDoor
namespace Go.Proofs.YthgiplnidnkajaaDoor
open Go.RowKit
theorem toList_eq {a b : ByteArray} : (a.toList == b.toList) = decide (a = b) := by
 rw [Bool.eq_iff_iff, beq_iff_eq, decide_eq_true_eq, ByteArray.toList_eq, ByteArray.toList_eq]
 exact ⟨ba_ext, fun h => by rw [h]⟩
def total : List ByteArray → Nat
 | [] => 0
 | s :: t => s.size + 1 + total t
theorem splitL_length (c : UInt8) : ∀ l : List UInt8, (splitL c l).length ≤ l.length + 1
 | [] => Nat.le_refl _
 | b :: t => by
  have := splitL_length c t
  rw [splitL]; split
  · simp; omega
  · cases h : splitL c t with
    | nil => simp [front]
    | cons q r => rw [h] at this; simp [front] at this ⊢; omega
theorem splitS_length (c : UInt8) (s : ByteArray) : (splitS c s).length ≤ s.size + 1 := by
 unfold splitS; rw [List.length_map]; have := splitL_length c s.data.toList; simpa using this
theorem splitL_small (c : UInt8) : ∀ (l p : List UInt8), p ∈ splitL c l → p.length ≤ l.length
 | [], p, h => by simp [splitL] at h; simp [h]
 | b :: t, p, h => by
  have ih := splitL_small c t
  rw [splitL] at h
  split at h
  · rcases List.mem_cons.1 h with rfl | h
    · simp
    · have := ih p h; simp; omega
  · cases hs : splitL c t with
    | nil => exact absurd hs (splitL_ne c t)
    | cons q r =>
     rw [hs] at h ih
     simp only [front, List.mem_cons] at h
     rcases h with rfl | h
     · have := ih q (by simp); simp; omega
     · have := ih p (by simp [h]); simp; omega
theorem splitS_small (c : UInt8) (s x : ByteArray) (h : x ∈ splitS c s) : x.size ≤ s.size := by
 unfold splitS at h
 obtain ⟨p, hp, rfl⟩ := List.mem_map.1 h
 have := splitL_small c _ p hp
 have e : (ofL p).size = p.length := by show (ofL p).data.size = _; simp [ofL]
 have e2 : s.data.toList.length = s.size := by simp
 omega
theorem total_at {l : List ByteArray} {n k : Nat} (h : k < l.length) (ht : total l ≤ n) : l[k].size + 1 ≤ n := by
 induction l generalizing k with
 | nil => exact absurd h (Nat.not_lt_zero _)
 | cons a t ih =>
  unfold total at ht
  cases k with
  | zero => simp only [List.getElem_cons_zero]; omega
  | succ k => simp only [List.getElem_cons_succ]; exact ih (by simpa using h) (by omega)
theorem total_len : ∀ l : List ByteArray, l.length ≤ total l
 | [] => Nat.le_refl _
 | a :: t => by
  have h1 := total_len t
  simp only [List.length_cons, total]; omega
theorem total_take : ∀ (l : List ByteArray) (k : Nat), total (l.take k) ≤ total l
 | [], _ => by simp
 | a :: t, 0 => by simp [total]
 | a :: t, k + 1 => by
  have := total_take t k
  simp only [List.take_succ_cons, total]; omega
theorem pieces_step {c : UInt8} {s : ByteArray} {i : Nat} (h : i < s.size) : splitL c (s.data.toList.drop i) = if s[i] = c then [] :: splitL c (s.data.toList.drop (i + 1)) else front [s[i]] (splitL c (s.data.toList.drop (i + 1))) := by
 rw [List.drop_eq_getElem_cons (by simpa using h), splitL]; rfl
theorem pieces_end (c : UInt8) (s : ByteArray) : splitL c (s.data.toList.drop s.size) = [[]] := by
 rw [List.drop_of_length_le (by simp)]; rfl
theorem extract_ofL (s : ByteArray) (a b : Nat) : s.extract a b = ofL ((s.data.toList.drop a).take (b - a)) := ba_ext (by rw [ofL_list, Lib.extract_data])
theorem drop_take_snoc (s : ByteArray) (a i : Nat) (ha : a ≤ i) (h : i < s.size) : (s.data.toList.drop a).take (i + 1 - a) = (s.data.toList.drop a).take (i - a) ++ [s[i]] := by
 have e : i + 1 - a = (i - a) + 1 := by omega
 have hl : s.data.toList.length = s.size := by simp
 rw [e, List.take_succ_eq_append_getElem (by rw [List.length_drop, hl]; omega), List.getElem_drop]
 have e2 : a + (i - a) = i := by omega
 simp only [e2]
 rfl
set_option maxHeartbeats 1000000 in
theorem refSplit_any (s : ByteArray) (c : UInt8) (w : World) (hs : s.size ≤ 4000000000) :
  Calls Tryd.prog 30 #[.string s, .int .u8 c.toNat] w fun e w' => RetFresh w (splitS c s) e w' := by
 go_enter Tryd.func30, Tryd.ntmps30
 go_wp2
 go_loopw [5, 6, 7] (fun v f i wr => ∃ k a : Nat, ∃ done : List (List UInt8), k ≤ s.size + 1 ∧ a ≤ k ∧ i = .int .i64 k ∧ f = .int .i64 a ∧ done.length ≤ k ∧ Hid (Acc w wr v (done.map ofL)) ∧
   Hid ((k ≤ s.size → done ++ front ((s.data.toList.drop a).take (k - a)) (splitL c (s.data.toList.drop k)) = splitL c s.data.toList) ∧ (¬ k ≤ s.size → done = splitL c s.data.toList))) (fun _ _ i _ => s.size + 1 - (intOf i).toNat)
 case atStart => exact ⟨0, 0, [], by omega, Nat.le_refl _, rfl, rfl, Nat.le_refl _, Lib.hid (Acc.start w), Lib.hid ⟨fun _ => by simp [front_nil _ (splitL_ne c _)], fun h => absurd (Nat.zero_le _) h⟩⟩
 case round =>
  obtain ⟨k, a, done, hk, hak, rfl, rfl, hdl, HA, HP⟩ := hrel
  by_cases hle : k ≤ s.size
  · have cont : ∀ (_ : k = s.size ∨ ∃ h : k < s.size, s[k] = c), Hid (done ++ [(s.data.toList.drop a).take (k - a)] ++ (if k < s.size then splitL c (s.data.toList.drop (k + 1)) else []) = splitL c s.data.toList) := by
     intro h
     have h1 := HP.out.1 hle
     rcases h with e | ⟨h, e⟩
     · subst e
       rw [pieces_end] at h1
       rw [if_neg (by omega), List.append_nil]
       simpa [Hid, front] using h1
     · rw [pieces_step h, if_pos e] at h1
       rw [if_pos h, List.append_assoc]
       simpa [Hid, front] using h1
    have CONT := Lib.hid cont
    clear cont
    by_cases hend : k = s.size
    · have HEND := Lib.hid hend
      have he1 : ((k : Int) == (s.size : Int)) = true := by simp [hend]
      clear hend
      go_wp2_with (at_builtin; refine wpList_append_acc _ rfl _ _ rfl rfl (HA.out.keep ((Below.refl _ _).alloc (Nat.le_refl _) _)) rfl (y := s.extract a k) ?c1 ?c2 ?c3)
      case c1 => simp
      case c2 => simp; omega
      case c3 =>
       intro g cap w' hacc has
       have HACC := Lib.hid hacc
       clear hacc has
       go_wp2_with fail
       go_roundw
       case rel => exact ⟨k + 1, k + 1, done ++ [(s.data.toList.drop a).take (k - a)], by omega, Nat.le_refl _, by go_num, by go_num, by simp; omega, Lib.hid (by
        have := HACC.out
        rw [extract_ofL] at this
        rw [List.map_append]; simpa using this), Lib.hid ⟨fun h => absurd h (by have := HEND.out; omega), fun _ => by
         have := (CONT.out (.inl HEND.out)).out
         rw [if_neg (by have := HEND.out; omega), List.append_nil] at this; exact this⟩⟩
       case measure => simp [intOf]; omega
    · have hlt : k < s.size := by omega
      have he1 : ((k : Int) == (s.size : Int)) = false := by rw [beq_eq_false_iff_ne]; omega
      clear hend
      by_cases hc : s[k] = c
      · have HC := Lib.hid hc
        have hb : ((s[k].toNat : Int) == (c.toNat : Int)) = true := by simp [hc]
        clear hc
        go_wp2_with (at_builtin; refine wpList_append_acc _ rfl _ _ rfl rfl (HA.out.keep ((Below.refl _ _).alloc (Nat.le_refl _) _)) rfl (y := s.extract a k) ?c1 ?c2 ?c3)
        case c1 => simp
        case c2 => simp; omega
        case c3 =>
         intro g cap w' hacc has
         have HACC := Lib.hid hacc
         clear hacc has
         go_wp2_with fail
         go_roundw
         case rel => exact ⟨k + 1, k + 1, done ++ [(s.data.toList.drop a).take (k - a)], by omega, Nat.le_refl _, by go_num, by go_num, by simp; omega, Lib.hid (by
          have := HACC.out
          rw [extract_ofL] at this
          rw [List.map_append]; simpa using this), Lib.hid ⟨fun _ => by
           have := (CONT.out (.inr ⟨hlt, HC.out⟩)).out
           rw [if_pos hlt] at this
           rw [Nat.sub_self, List.take_zero, front_nil _ (splitL_ne c _)]; exact this, fun h => absurd (show k + 1 ≤ s.size by omega) h⟩⟩
         case measure => simp [intOf]; omega
      · have HC := Lib.hid hc
        have hb : ((s[k].toNat : Int) == (c.toNat : Int)) = false := by
         rw [Bool.eq_false_iff]; intro h; exact hc (eqb_of h)
        clear hc
        go_wp2_with fail
        go_roundw
        case rel => exact ⟨k + 1, a, done, by omega, by omega, by go_num, rfl, by omega, HA, Lib.hid ⟨fun _ => by
         have h1 := HP.out.1 hle
         rw [pieces_step hlt, if_neg HC.out, front_front, ← drop_take_snoc s a k hak hlt] at h1
         exact h1, fun h => absurd (show k + 1 ≤ s.size by omega) h⟩⟩
        case measure => simp [intOf]; omega
  · have hdone := Lib.hid (HP.out.2 hle)
    go_wp2_with fail
    go_ret
    obtain ⟨g, cap, rfl, h1, h2, h3⟩ := HA.out.isNew (by rw [hdone.out]; simpa using splitL_ne c s.data.toList)
    have e : done.map ofL = splitS c s := by rw [hdone.out]; rfl
    rw [e] at h3 ⊢
    exact ⟨g, cap, rfl, h1, h2, h3, HA.out.2⟩
end Go.Proofs.YthgiplnidnkajaaDoor
namespace Go.Proofs.YthgiplnidnkajaaDoor
open Go.ChangeShapes Go.WideShapes Go.ChangeAt Go.RowKit
theorem byte_of {x : Int} (h : (Lit.int .u8 x).wf = true) : ∃ c : UInt8, x = (c.toNat : Int) := by
 have hb : 0 ≤ x ∧ x ≤ 255 := bounds_u8 h
 refine ⟨x.toNat.toUInt8, ?_⟩
 have : (x.toNat.toUInt8).toNat = x.toNat := by rw [Nat.toUInt8_eq, UInt8.toNat_ofNat']; omega
 omega
def IsBytes (w : World) (a : Option Addr) (l : List UInt8) (cap : Nat) : Prop :=
 (a = none ∧ l = [] ∧ cap = 0) ∨ ∃ x, a = some x ∧ l.length ≤ cap ∧ cap ≤ maxLen ∧ ∀ j (hj : j < l.length), w.cell? (x.add j) = some (.int .u8 (l[j].toNat : Int))
theorem open_bytes {H : Type} {enc : TypeId × Value → H} {W : World} {a : Option Addr} {len cap : Nat} {d : DataW H} {ps : List MemPlace} {base : Nat}
  (h : DataW.Trod enc Tryd.prog W base (fun _ => true) true 33 (.slice a len cap) d ps) : ∃ l : List UInt8, len = l.length ∧ IsBytes W a l cap := by
 obtain ⟨fuel, hf⟩ := h
 rcases open_ints Tryd.underlying33 Tryd.underlying5 (by kernel_rfl) hf with ⟨hcs, _⟩ | ⟨x, l, c, zs, hcs, _, hl, hm, hz, _, hcell, hwz⟩
 · simp [Value.cells] at hcs
   obtain ⟨rfl, rfl, rfl⟩ := hcs
   exact ⟨[], rfl, .inl ⟨rfl, rfl, rfl⟩⟩
 · simp [Value.cells] at hcs
   obtain ⟨rfl, rfl, rfl⟩ := hcs
   have hz' : zs.length = cap := by simpa using hz
   have hlen : ((zs.take len).map fun z => z.toNat.toUInt8).length = len := by simp; omega
   refine ⟨(zs.take len).map fun z => z.toNat.toUInt8, hlen.symm, .inr ⟨x, rfl, by rw [hlen]; exact hl, hm, fun j hj => ?_⟩⟩
   rw [hlen] at hj
   have hj' : j < zs.length := by omega
   rw [hcell j hj']
   have hw := hwz zs[j] (List.getElem_mem _)
   obtain ⟨c, hc⟩ := byte_of hw
   have e : zs.getD j 0 = zs[j] := by rw [List.getD_eq_getElem?_getD, List.getElem?_eq_getElem hj']; rfl
   rw [e]
   have e2 : ((zs.take len).map fun z => z.toNat.toUInt8)[j]'(by rw [hlen]; exact hj) = zs[j].toNat.toUInt8 := by simp
   rw [e2, hc]
   simp
theorem conv_bytes {W : World} {a : Option Addr} {l : List UInt8} {cap : Nat} (h : IsBytes W a l cap) :
  (convert 33 9 (.slice a l.length cap)).run Tryd.prog W = .ok (.string ⟨l.toArray⟩) W := by
 rcases h with ⟨rfl, rfl, rfl⟩ | ⟨x, rfl, _, _, hc⟩
 · simp [convert, run_underlying Tryd.underlying33, run_underlying Tryd.underlying9, run_underlying Tryd.underlying5, Conv.bytesToString]
   rfl
 · exact run_convert_bytes_back (P := Tryd.prog) W 33 9 5 x cap l Tryd.underlying33 Tryd.underlying5 Tryd.underlying9 hc
def StrsIn (w : World) (a : Option Addr) (l : List ByteArray) : Prop :=
 ∀ j (hj : j < l.length), ∃ x, a = some x ∧ w.cell? (x.add j) = some (.string l[j])
theorem StrsIn.keep {w w' : World} {a : Option Addr} {l : List ByteArray} (h : StrsIn w a l) (hb : Below w.heap.size w w') : StrsIn w' a l := fun j hj => by
 obtain ⟨x, e, hc⟩ := h j hj
 exact ⟨x, e, below_cell hb hc⟩
end Go.Proofs.YthgiplnidnkajaaDoor
namespace Go.Proofs.YthgiplnidnkajaaDoor
open Go.RowKit
theorem Tryd.info5 : (Tryd.prog.info? 5).map (fun i => (i.zero, i.size, i.bytes)) = some (some (.int .u8 0), 1, 1) := by kernel_rfl
def bytesV (l : List UInt8) : List Value := l.map fun c => .int .u8 (c.toNat : Int)
theorem bytesV_len (l : List UInt8) : (bytesV l).length = l.length := by simp [bytesV]
def AccB (w0 w : World) (v : Value) (l : List UInt8) : Prop :=
 w.ownsRow w0.heap.size 5 1 v l.length (bytesV l) ∧ Below w0.heap.size w0 w
theorem AccB.start (w : World) : AccB w w (.slice none 0 0) [] := ⟨World.ownsRow_nil _ _ _ _, Below.refl _ _⟩
theorem AccB.keep {w0 w w' : World} {v : Value} {l : List UInt8} (h : AccB w0 w v l) (hb : Below w.heap.size w w') : AccB w0 w' v l :=
 ⟨ownsRow_keep h.1 hb, h.2.trans (hb.mono h.2.size)⟩
theorem AccB.shape {w0 w : World} {v : Value} {l : List UInt8} (h : AccB w0 w v l) : ∃ a cap, v = .slice a l.length cap ∧ IsBytes w a l cap := by
 obtain ⟨⟨h1, h2⟩, _⟩ := h
 rcases h2 with ⟨rfl, h2⟩ | ⟨g, cap, cur, rfl, hg, hc, hcap, hm, hsz, ht⟩
 · have : l = [] := List.eq_nil_of_length_eq_zero h2
   subst this
   exact ⟨none, 0, rfl, .inl ⟨rfl, rfl, rfl⟩⟩
 · refine ⟨_, cap, rfl, .inr ⟨_, rfl, hcap, hm, fun j hj => ?_⟩⟩
   have e : cur.toList[j]? = some (Value.int .u8 (l[j].toNat : Int)) := by
    have := congrArg (fun x => x[j]?) ht
    simp only [Nat.mul_one, bytesV] at this
    rw [List.getElem?_take_of_lt hj, List.getElem?_map, List.getElem?_eq_getElem hj] at this
    exact this
   rw [Addr.add_lit]
   simp only [World.cell?, hc, Nat.zero_add]
   simpa using e
section
variable {ops : Array Oper} {rest : List Oper} {o : Oper} {act : Act} {Q : Exit → Act → World → Prop}
theorem wpList_append_accb (w : World) (hgd : o.guard = none) (s x : Operand) (ho : o.op = .call { callee := .builtin .append, args := #[s, x], argTypes := #[33, 33] })
  {w0 : World} {v : Value} {l : List UInt8} (hs : act.eval s = v) (h : AccB w0 w v l) {b c : Nat} (hx : act.eval x = .slice (some ⟨b, 0, none⟩) 1 c) {y : UInt8} (hy : w.cell? ⟨b, 0, none⟩ = some (.int .u8 (y.toNat : Int)))
  (hn : l.length + 1 ≤ 140737488355328)
  (K : ∀ g cap w', AccB w0 w' (.slice (some ⟨g, 0, none⟩) (l.length + 1) cap) (l ++ [y]) →
   wpList Tryd.prog ops Q rest (act.put o.dst (.slice (some ⟨g, 0, none⟩) (l.length + 1) cap)) w') : wpList Tryd.prog ops Q (o :: rest) act w := by
 obtain ⟨i0, hi, hz0, hz1, hz2⟩ := info_parts Tryd.info5
 refine wpList_append_lies w hgd s x 33 ho w0.heap.size 5 i0 (.int .u8 0) 1 1 Tryd.underlying33 hi hz0 hz1 hz2 rfl (by decide) v l.length (bytesV l) hs h.1 ⟨b, 0, none⟩ 1 c [.int .u8 (y.toNat : Int)] hx rfl ?_ ?_ (by decide) (by unfold maxLen; omega) (by omega) h.2.size w.heap.size rfl ?_
 · intro j u hj
   match j, hj with
   | 0, hj => simp at hj; subst hj; rw [Addr.add_lit]; exact hy
   | j + 1, hj => simp at hj
 · intro u hu; simp at hu; subst hu; rfl
 · intro g cap w' hown hgrow hg hlt
   refine K g cap w' ⟨by simpa [bytesV] using hown, h.2.grown hgrow h.2.size fun k hk => ?_⟩
   exact (World.ownsRow.lt h.1 k hk).1
end
end Go.Proofs.YthgiplnidnkajaaDoor
namespace Go.Proofs.YthgiplnidnkajaaDoor
section
variable {P : Program} {md : Region.Mode} {C : World → Prop} {l : List Oper} {o : Oper}
end
section
variable {P : Program} {md : Region.Mode} {ops : Array Oper} {Q : Exit → Act → World → Prop}
theorem count_set : ∀ (l : List Bool) (i : Nat), i < l.length → l.getD i true = false → (l.set i true).countP (!·) + 1 = l.countP (!·)
 | b :: l, 0, _, h => by
  have : b = false := h
  subst this
  simp
 | b :: l, i + 1, hi, h => by
  have := count_set l i (by simpa using hi) (by simpa using h)
  rw [List.set_cons_succ, List.countP_cons, List.countP_cons]
  omega
theorem wpAny_inv (J : Array Bool → Act → World → Prop) (hstep : ∀ m a w, m.size = ops.size → J m a w → ∀ i, i ∈ Region.ready md ops m → wpOp P ops Q i (J (m.setIfInBounds i true)) a w)
  (hdone : ∀ m a w, m.size = ops.size → J m a w → Region.ready md ops m = [] → Q .normal a w) :
  ∀ (f : Nat) (m : Array Bool) (a : Act) (w : World), m.size = ops.size → m.toList.countP (!·) ≤ f → J m a w → wpAny P md ops Q f m a w
 | 0, m, a, w, hs, hc, hJ => by
  have hr : Region.ready md ops m = [] := by
   rw [List.eq_nil_iff_forall_not_mem]
   intro i hi
   obtain ⟨h1, x, hx, _⟩ := mem_ready.1 hi
   have hlt : i < m.size := by rw [hs]; exact (Array.getElem?_eq_some_iff.1 hx).1
   have h2 : m.toList.getD i true = false := by simpa [List.getD_eq_getElem?_getD, hlt] using h1
   have := count_set m.toList i (by simpa using hlt) h2
   omega
  exact ⟨hr, hdone m a w hs hJ hr⟩
 | f + 1, m, a, w, hs, hc, hJ => by
  refine ⟨fun hr => hdone m a w hs hJ hr, fun i hi => ?_⟩
  refine wpOp_mono (fun a' w' hJ' => wpAny_inv J hstep hdone f _ a' w' (by simpa using hs) ?_ hJ') (hstep m a w hs hJ i hi)
  obtain ⟨h1, x, hx, _⟩ := mem_ready.1 hi
  have hlt : i < m.size := by rw [hs]; exact (Array.getElem?_eq_some_iff.1 hx).1
  have h2 : m.toList.getD i true = false := by simpa [List.getD_eq_getElem?_getD, hlt] using h1
  have := count_set m.toList i (by simpa using hlt) h2
  rw [Array.toList_setIfInBounds]
  omega
theorem wp_region_inv {id : Nat} {a : Act} {w : World} (hm : P.follows .mixedOrders = true) (J : Array Bool → Act → World → Prop)
  (hstep : ∀ m a w, m.size = ops.size → J m a w → ∀ i, i ∈ Region.ready .any ops m → wpOp P ops Q i (J (m.setIfInBounds i true)) a w)
  (hdone : ∀ m a w, m.size = ops.size → J m a w → Region.ready .any ops m = [] → Q .normal a w) (h0 : J (Array.replicate ops.size false) a { w with drawn := w.drawn + 1 }) : (Code.region id ops true).wp P Q a w := by
 refine wp_region_any hm (wpAny_inv J hstep hdone _ _ _ _ (by simp) ?_ h0)
 have := List.countP_le_length (p := (!·)) (l := (Array.replicate ops.size false).toList)
 simpa using this
end
end Go.Proofs.YthgiplnidnkajaaDoor
namespace Go.Proofs.YthgiplnidnkajaaDoor
open Go.RowKit
structure Spec where
 p : Value → World → Prop
 mono : ∀ v w w', p v w → Below w.heap.size w w' → p v w'
def Spec.val (v : Value) : Spec := ⟨fun x _ => x = v, fun _ _ _ h _ => h⟩
def Spec.any : Spec := ⟨fun _ _ => True, fun _ _ _ h _ => h⟩
def Holds (ops : Array Oper) (S : List Spec) (a : Act) (w : World) (j : Nat) : Prop :=
 match ops[j]?, S[j]? with
 | some o, some s => (match o.dst with | some d => s.p (a.eval (.tmp d)) w | none => True)
 | _, _ => True
def isDst (ops : Array Oper) (k : Nat) : Bool := ops.toList.any fun o => o.dst == some k
def waitsFor (o : Oper) (j : Nat) : Bool := o.after.toList.any fun e => Region.binds .any e && e.on == j
def dstsOk (ops : Array Oper) (n : Nat) : Bool :=
 (List.range ops.size).all fun i => match (ops[i]?).bind (·.dst) with
  | some d => decide (d < n) && (List.range ops.size).all fun j => decide (i = j) || !((ops[j]?).bind (·.dst) == some d)
  | none => true
structure Fr (ops : Array Oper) (a0 a : Act) : Prop where
 defers : a.defers = a0.defers
 size : a.tmps.size = a0.tmps.size
 base : ∀ k, isDst ops k = false → a.eval (.tmp k) = a0.eval (.tmp k)
def StepOK (P : Program) (Q : Exit → Act → World → Prop) (ops : Array Oper) (S : List Spec) (a0 : Act) (w0 : World) (o : Oper) (s : Spec) : Prop :=
 ∀ a w, Below w0.heap.size w0 w → Fr ops a0 a → (∀ j, waitsFor o j = true → Holds ops S a w j) →
  Region.wanted o (yielded ops a.tmps) = true ∧ o.wp P a w (fun a' w' => ∃ v, a' = a.put o.dst v ∧ Below w.heap.size w w' ∧ s.p v w') Q
def StepsOK (P : Program) (Q : Exit → Act → World → Prop) (ops : Array Oper) (S : List Spec) (a0 : Act) (w0 : World) : List Oper → List Spec → Prop
 | o :: os, s :: ss => StepOK P Q ops S a0 w0 o s ∧ StepsOK P Q ops S a0 w0 os ss
 | [], [] => True
 | _, _ => False
section
variable {P : Program} {Q : Exit → Act → World → Prop} {ops : Array Oper} {S : List Spec} {a0 : Act} {w0 : World}
theorem stepsOK_at : ∀ {os : List Oper} {ss : List Spec}, StepsOK P Q ops S a0 w0 os ss → ∀ (i : Nat) (o : Oper), os[i]? = some o → ∃ s, ss[i]? = some s ∧ StepOK P Q ops S a0 w0 o s
 | o :: os, s :: ss, h, 0, _, rfl => ⟨s, rfl, h.1⟩
 | o :: os, s :: ss, h, i + 1, o', ho => stepsOK_at h.2 i o' ho
 | [], _, _, i, _, ho => by simp at ho
theorem eval_put_same {a : Act} {d : Nat} {v : Value} (h : d < a.tmps.size) : (a.put (some d) v).eval (.tmp d) = v := by
 simp [Act.put, Act.eval, h]
theorem eval_put_other {a : Act} {d : Option Tmp} {k : Nat} {v : Value} (h : d ≠ some k) : (a.put d v).eval (.tmp k) = a.eval (.tmp k) := by
 cases d with
 | none => rfl
 | some d =>
  have hne : d ≠ k := fun e => h (by rw [e])
  simp [Act.put, Act.eval, Array.getElem?_setIfInBounds_ne hne]
theorem dsts_lt {n : Nat} (h : dstsOk ops n = true) {i : Nat} {o : Oper} {d : Nat} (ho : ops[i]? = some o) (hd : o.dst = some d) : d < n ∧ ∀ j o', ops[j]? = some o' → j ≠ i → o'.dst ≠ some d := by
 have hi : i < ops.size := (Array.getElem?_eq_some_iff.1 ho).1
 have h1 := List.all_eq_true.1 h i (List.mem_range.2 hi)
 rw [ho] at h1
 simp only [Option.bind_some, hd, Bool.and_eq_true, decide_eq_true_eq] at h1
 refine ⟨h1.1, fun j o' ho' hji hd' => ?_⟩
 have hj : j < ops.size := (Array.getElem?_eq_some_iff.1 ho').1
 have h2 := List.all_eq_true.1 h1.2 j (List.mem_range.2 hj)
 rw [ho'] at h2
 simp [hd'] at h2
 exact hji h2.symm
theorem holds_mono {a : Act} {w w' : World} {j : Nat} (h : Holds ops S a w j) (hb : Below w.heap.size w w') : Holds ops S a w' j := by
 unfold Holds at *
 split
 · rename_i o s ho hs
   rw [ho, hs] at h
   cases hd : o.dst with
   | none => trivial
   | some d => simp only [hd] at h; exact s.mono _ _ _ h hb
 · trivial
theorem wp_region_local {id : Nat} (S : List Spec) (hm : P.follows .mixedOrders = true) (hB : (List.range ops.size).all (fun i => match ops[i]? with | some x => x.after.all (fun e => decide (e.on < i)) | none => true) = true)
  (hd : dstsOk ops a0.tmps.size = true) (h : StepsOK P Q ops S a0 w0 ops.toList S)
  (hQ : ∀ a w, Below w0.heap.size w0 w → Fr ops a0 a → (∀ j, j < ops.size → Holds ops S a w j) → Q .normal a w) : (Code.region id ops true).wp P Q a0 w0 := by
 refine wp_region_inv hm (fun m a w => Below w0.heap.size w0 w ∧ Fr ops a0 a ∧ ∀ j, m.getD j false = true → Holds ops S a w j) ?_ ?_ ?_
 · rintro m a w hs ⟨hb, hf, hh⟩ i hi
   obtain ⟨h1, o, ho, hall⟩ := mem_ready.1 hi
   have hil : i < ops.size := (Array.getElem?_eq_some_iff.1 ho).1
   obtain ⟨s, hsi, hstep⟩ := stepsOK_at h i o (by simpa using ho)
   obtain ⟨hw, hwp⟩ := hstep a w hb hf fun j hj => by
    obtain ⟨e, he, h2⟩ := List.any_eq_true.1 hj
    simp only [Bool.and_eq_true, beq_iff_eq] at h2
    obtain ⟨h3, rfl⟩ := h2
    exact hh _ (hall e (Array.mem_toList_iff.1 he) h3)
   unfold wpOp
   simp only [ho]
   rw [if_pos hw]
   refine .inl (Oper.wp_mono ?_ hwp)
   rintro a' w' ⟨v, rfl, hb', hsp⟩
   refine ⟨hb.trans (hb'.mono hb.size), ⟨?_, ?_, fun k hk => ?_⟩, fun j hj => ?_⟩
   · have := hf.defers
     cases o.dst <;> simpa [Act.put] using this
   · have := hf.size
     cases o.dst <;> simpa [Act.put] using this
   · rw [eval_put_other, hf.base k hk]
     intro hk2
     have : isDst ops k = true := by
      unfold isDst
      exact List.any_eq_true.2 ⟨o, Array.mem_toList_iff.2 (Array.mem_of_getElem? ho), by rw [hk2]; simp⟩
     rw [hk] at this; cases this
   · by_cases hji : j = i
     · subst hji
       unfold Holds
       simp only [ho, hsi]
       cases hdo : o.dst with
       | none => trivial
       | some d =>
        show s.p ((a.put (some d) v).eval (.tmp d)) w'
        rw [eval_put_same]
        · exact hsp
        · rw [hf.size]; exact (dsts_lt hd ho hdo).1
     · have hj' : m.getD j false = true := by rw [getD_set_ne false (fun e => hji e.symm)] at hj; exact hj
       have h5 := holds_mono (hh j hj') hb'
       unfold Holds at *
       cases hoj : ops[j]? with
       | none => simp
       | some o' =>
        cases hsj : S[j]? with
        | none => simp
        | some s' =>
         simp only [hoj, hsj] at h5 ⊢
         cases hdo : o'.dst with
         | none => trivial
         | some d =>
          simp only [hdo] at h5 ⊢
          show s'.p ((a.put o.dst v).eval (.tmp d)) w'
          rw [eval_put_other]
          · exact h5
          · intro e
            exact (dsts_lt hd ho e).2 j o' hoj hji hdo
 · rintro m a w hs ⟨hb, hf, hh⟩ hr
   refine hQ a w hb hf fun j hj => hh j ?_
   induction j using Nat.strongRecOn with
   | _ j ih =>
    cases hmj : m.getD j false with
    | true => rfl
    | false =>
     exfalso
     have hoj : ops[j]? = some ops[j] := Array.getElem?_eq_getElem hj
     have hbk := List.all_eq_true.1 hB j (List.mem_range.2 hj)
     rw [hoj] at hbk
     simp only [Array.all_eq_true_iff_forall_mem, decide_eq_true_eq] at hbk
     have : j ∈ Region.ready .any ops m := mem_ready.2 ⟨by
      have hs' : j < m.size := by rw [hs]; exact hj
      simp [hs'] at hmj ⊢; exact hmj, ops[j], hoj, fun e he _ => ih _ (hbk e he) (by have := hbk e he; omega)⟩
     rw [hr] at this; cases this
 · refine ⟨(Below.refl _ _).drew, ⟨rfl, rfl, fun _ _ => rfl⟩, fun j hj => ?_⟩
   exfalso
   simp only [Array.getD_eq_getD_getElem?, Array.getElem?_replicate] at hj
   split at hj <;> simp at hj
end
theorem act_eq {a a0 : Act} {n : Nat} (h : a.tmps.size = n) (hd : a.defers = a0.defers) : a = ⟨((List.range n).map fun k => a.eval (.tmp k)).toArray, a0.defers⟩ := by
 obtain ⟨t, d⟩ := a
 simp only at h hd
 subst h hd
 congr 1
 apply Array.ext
 · simp
 · intro i h1 h2
   simp [Act.eval, Array.getElem?_eq_getElem h1]
section
variable {P : Program} {Q : Exit → Act → World → Prop} {ops : Array Oper} {S : List Spec} {a : Act} {w : World} {o : Oper} {s : Spec}
theorem wanted_none (h : o.guard = none) : Region.wanted o (yielded ops a.tmps) = true := by unfold Region.wanted; rw [h]
theorem wanted_true {j d : Nat} (h : o.guard = some (j, true)) (hd : (ops[j]?).bind (·.dst) = some d) (hv : a.eval (.tmp d) = .bool true) : Region.wanted o (yielded ops a.tmps) = true := by
 have e : a.tmps[d]? = some (.bool true) := by
  unfold Act.eval at hv
  simp only [Array.getD_eq_getD_getElem?] at hv
  cases hq : a.tmps[d]? with
  | none => rw [hq] at hv; cases hv
  | some x => rw [hq] at hv; simp at hv; rw [hv]
 unfold Region.wanted yielded
 rw [h]
 simp [hd, e]
theorem loc_run {v : Value} {w' : World} (h : (execOp a.eval o).run P w = .ok (.value v) w') (hb : Below w.heap.size w w') (hs : s.p v w') : o.wp P a w (fun a' w' => ∃ v, a' = a.put o.dst v ∧ Below w.heap.size w w' ∧ s.p v w') Q := by
 unfold Oper.wp
 rw [h]
 exact ⟨v, rfl, hb, hs⟩
theorem loc_move {x : Operand} (ho : o.op = .move x) (hs : s.p (a.eval x) w) : o.wp P a w (fun a' w' => ∃ v, a' = a.put o.dst v ∧ Below w.heap.size w w' ∧ s.p v w') Q :=
 loc_run (by unfold execOp; rw [ho]; rfl) (Below.refl _ _) hs
theorem loc_assign {x : Operand} (ho : o.op = .assign x) (hs : s.p (a.eval x) w) : o.wp P a w (fun a' w' => ∃ v, a' = a.put o.dst v ∧ Below w.heap.size w w' ∧ s.p v w') Q :=
 loc_run (by unfold execOp; rw [ho]; rfl) (Below.refl _ _) hs
theorem loc_pick {c x y : Operand} (ho : o.op = .pick c x y) (hc : a.eval c = .bool true) (hs : s.p (a.eval x) w) : o.wp P a w (fun a' w' => ∃ v, a' = a.put o.dst v ∧ Below w.heap.size w w' ∧ s.p v w') Q :=
 loc_run (by unfold execOp; rw [ho]; simp only [hc]; rfl) (Below.refl _ _) hs
theorem loc_convert {x : Operand} {t1 t2 : TypeId} (ho : o.op = .convert t1 t2 x) {v : Value} (h : (convert t1 t2 (a.eval x)).run P w = .ok v w) (hs : s.p v w) : o.wp P a w (fun a' w' => ∃ v, a' = a.put o.dst v ∧ Below w.heap.size w w' ∧ s.p v w') Q :=
 loc_run (v := v) (by unfold execOp; rw [ho]; simp only [Sem.run_bind, h, Result.andThen_ok, Sem.run_pure]) (Below.refl _ _) hs
theorem loc_load {x : Operand} {t : TypeId} (ho : o.op = .load t x) {v : Value} (h : (Instr.loadAt t (a.eval x)).run P w = .ok v w) (hs : s.p v w) : o.wp P a w (fun a' w' => ∃ v, a' = a.put o.dst v ∧ Below w.heap.size w w' ∧ s.p v w') Q :=
 loc_run (v := v) (by unfold execOp; rw [ho]; simp only [Sem.run_bind, h, Result.andThen_ok, Sem.run_pure]) (Below.refl _ _) hs
theorem loc_call {f : FuncId} {args : List Operand} {ts : Array TypeId} (ho : o.op = .call { callee := .value (.func f), args := args.toArray, argTypes := ts })
  (hf : (P.funcs[f]?).map (fun fn => fn.name != "runtime.NumGoroutine" && fn.body.isSome) = some true) (h : Calls P f (args.map a.eval).toArray w fun e w' => ∃ v, e = .returned v ∧ Below w.heap.size w w' ∧ s.p v w') : o.wp P a w (fun a' w' => ∃ v, a' = a.put o.dst v ∧ Below w.heap.size w w' ∧ s.p v w') Q := by
 have hrun : (execOp a.eval o).run P w = .ok (.enter f (args.map a.eval).toArray) w := by
  unfold execOp; rw [ho]
  cases hfn : P.funcs[f]? with
  | none => rw [hfn] at hf; cases hf
  | some fn =>
   rw [hfn] at hf
   simp only [Option.map_some, Option.some.injEq, Bool.and_eq_true, bne_iff_ne, ne_eq] at hf
   have hb : fn.body ≠ none := fun e => by rw [e] at hf; exact absurd hf.2 (by simp)
   simp [resolve, Deferred.ofValue, invoke, callFunc, show a.eval (.func f) = .func (.func f) #[] #[] from rfl, hfn, hf.1, hb]
 unfold Oper.wp
 rw [hrun, Oper.upon_enter]
 refine h.mono ?_
 rintro e w' ⟨v, rfl, hb, hs⟩
 exact ⟨v, rfl, hb, hs⟩
end
section
variable {P : Program} {ops : Array Oper} {Q : Exit → Act → World → Prop} {a : Act} {w : World} {rest : List Oper}
theorem local_ret {fn : Func} {R : Ending → World → Prop} {t : Tmp} {v : Value} (h : fn.results = #[.tmp t]) (hd : a.defers = []) (hv : a.eval (.tmp t) = v) (hR : R (.returned v) w) : bodyPost P fn R .ret a w :=
 bodyPost_ret (results_tmp h _ _ _) hd (by rw [show a.tmps.getD t undef = v from hv]; exact hR)
end
end Go.Proofs.YthgiplnidnkajaaDoor
namespace Go.Proofs.YthgiplnidnkajaaDoor
open Go.RowKit
def mixN (h : Nat) (c : Nat) : Nat := ((h ^^^ c) * 1099511628211) % 18446744073709551616
def mixL (h : Nat) (l : List UInt8) : Nat := l.foldl (fun h c => mixN h c.toNat) h
theorem mixN_lt (h c : Nat) : mixN h c < 18446744073709551616 := Nat.mod_lt _ (by decide)
theorem mixL_lt : ∀ (l : List UInt8) (h : Nat), h < 18446744073709551616 → mixL h l < 18446744073709551616
 | [], _, hh => hh
 | c :: r, h, _ => mixL_lt r (mixN h c.toNat) (mixN_lt _ _)
theorem mixL_append (h : Nat) (l r : List UInt8) : mixL h (l ++ r) = mixL (mixL h l) r := List.foldl_append ..
theorem mixL_nil (h : Nat) : mixL h [] = h := rfl
theorem mixL_cons (h : Nat) (c : UInt8) (r : List UInt8) : mixL h (c :: r) = mixL (mixN h c.toNat) r := rfl
theorem mixL_snoc (h : Nat) (l : List UInt8) (k : Nat) (hk : k < l.length) : mixL h (l.take (k + 1)) = mixN (mixL h (l.take k)) l[k].toNat := by
 rw [List.take_succ_eq_append_getElem hk, mixL_append, mixL_cons, mixL_nil]
theorem two64 : (18446744073709551616 : Nat) = 2 ^ 64 := by decide
theorem xor_lt (h c : Nat) (hh : h < 18446744073709551616) (hc : c < 18446744073709551616) : h ^^^ c < 18446744073709551616 := by
 rw [two64] at hh hc ⊢
 exact Nat.xor_lt_two_pow hh hc
theorem mix_bits (h : Nat) (c : UInt8) (hh : h < 18446744073709551616) : bits BinOp.xor IntKind.u64 (h : Int) (c.toNat : Int) = ((h ^^^ c.toNat : Nat) : Int) :=
 bits_xor_u64_nat _ _ hh (by have := c.toNat_lt; omega)
theorem mix_wrap (X : Nat) : IntKind.u64.wrap ((X : Int) * 1099511628211) = (((X * 1099511628211) % 18446744073709551616 : Nat) : Int) := by
 rw [IntKind.wrap_u64]; omega
def BytesIn (w : World) (a : Option Addr) (l : List UInt8) : Prop :=
 ∀ j (hj : j < l.length), ∃ x, a = some x ∧ w.cell? (x.add j) = some (.int .u8 (l[j].toNat : Int))
set_option maxHeartbeats 1000000 in
theorem refHashWrite_any (h : Nat) (l : List UInt8) (a : Option Addr) (cap : Nat) (w : World) (hh : h < 18446744073709551616) (hlen : l.length ≤ maxLen) (ha : BytesIn w a l) :
  Calls Tryd.prog 51 #[.int .u64 h, .slice a l.length cap] w fun e w' => e = .returned (.int .u64 (mixL h l : Nat)) ∧ w = w' := by
 unfold maxLen at hlen
 have HA := Lib.hid ha
 clear ha
 go_enter Tryd.func51, Tryd.ntmps51
 go_wp2
 go_loop [0, 5] (fun n i => ∃ (k X : Nat), k ≤ l.length ∧ i = .int .i64 k ∧ n = .int .u64 X ∧ X < 18446744073709551616 ∧ Hid (X = mixL h (l.take k))) (fun _ i => l.length - (intOf i).toNat)
 case atStart => exact ⟨0, h, Nat.zero_le _, rfl, rfl, hh, Lib.hid (by rw [List.take_zero, mixL_nil])⟩
 case round =>
  obtain ⟨k, X, hk, rfl, rfl, hX, HG⟩ := hrel
  by_cases hlt : k < l.length
  · obtain ⟨x, rfl, hc⟩ := HA.out k hlt
    have b1 : (l[k].toNat : Int) ≤ 255 := by have := l[k].toNat_lt; omega
    have hb := mix_bits X l[k] hX
    have hxl := xor_lt X l[k].toNat hX (by have := l[k].toNat_lt; omega)
    have HN : Hid (mixN X l[k].toNat = ((X ^^^ l[k].toNat) * 1099511628211) % 18446744073709551616) := Lib.hid rfl
    have HX := Lib.hid (mixN_lt X l[k].toNat)
    generalize X ^^^ l[k].toNat = Y at *
    have hw := mix_wrap Y
    go_wp2
    go_round
    case rel => exact ⟨k + 1, mixN X l[k].toNat, by omega, by go_num, congrArg (Value.int .u64) (by rw [HN.out]; omega), HX.out, Lib.hid (by rw [mixL_snoc h l k hlt, HG.out])⟩
    case measure => simp [intOf]; omega
  · go_wp2
    go_ret
    exact ⟨ret_int (by rw [HG.out, List.take_of_length_le (by omega)]), rfl⟩
def sumN (h : Nat) (s : ByteArray) : Nat := mixN (mixL h s.data.toList) 0
def sumL (l : List ByteArray) : Nat := l.foldl sumN 14695981039346656037
theorem sumN_lt (h : Nat) (s : ByteArray) : sumN h s < 18446744073709551616 := mixN_lt _ _
theorem sumL_nil : sumL [] = 14695981039346656037 := by unfold sumL; rw [List.foldl_nil]
theorem sumL_snoc (l : List ByteArray) (k : Nat) (hk : k < l.length) : sumL (l.take (k + 1)) = sumN (sumL (l.take k)) l[k] := by
 unfold sumL
 rw [List.take_succ_eq_append_getElem hk, List.foldl_append, List.foldl_cons, List.foldl_nil]
theorem refStart_any (w : World) : Calls Tryd.prog 50 #[] w fun e w' => e = .returned (.int .u64 14695981039346656037) ∧ w = w' := by
 go_enter Tryd.func50, Tryd.ntmps50
 go_wp2
 go_ret
 exact ⟨rfl, rfl⟩
theorem bytesIn_new (w : World) (s : ByteArray) (cap : Nat) :
  BytesIn (w.alloc (.cells (bytesRow s cap) 5 ((bytesRow s cap).size, (bytesRow s cap).size + 1))).drew (some ⟨w.heap.size, 0, none⟩) s.data.toList := fun j hj => by
 refine ⟨_, rfl, ?_⟩
 rw [Addr.add_lit, Nat.zero_add]
 exact (bytesAt_new w s cap j hj).1
theorem byteIn_new (w : World) (c : UInt8) (fr : Nat × Nat) : BytesIn (w.alloc (.cells #[.int .u8 (c.toNat : Int)] 5 fr)) (some ⟨w.heap.size, 0, none⟩) [c] := fun j hj => by
 have : j = 0 := by simpa using hj
 subst this
 refine ⟨_, rfl, ?_⟩
 rw [Addr.add_lit, Nat.zero_add, World.cell?_alloc_mark]; rfl
theorem len_toList (s : ByteArray) : s.data.toList.length = s.size := by simp
theorem refWrite_str (h : Nat) (s : ByteArray) (a : Option Addr) (cap : Nat) (w : World) (hh : h < 18446744073709551616) (hs : s.size ≤ maxLen) (ha : BytesIn w a s.data.toList) :
  Calls Tryd.prog 51 #[.int .u64 h, .slice a s.size cap] w fun e w' => e = .returned (.int .u64 (mixL h s.data.toList : Nat)) ∧ w = w' := by
 have := refHashWrite_any h s.data.toList a cap w hh (by rw [len_toList]; exact hs) ha
 rw [len_toList] at this; exact this
theorem refWrite_byte (h : Nat) (c : UInt8) (z : Int) (hz : z = (c.toNat : Int)) (w : World) (fr : Nat × Nat) (hh : h < 18446744073709551616) :
  Calls Tryd.prog 51 #[.int .u64 h, .slice (some ⟨w.heap.size, 0, none⟩) 1 1] (w.alloc (.cells #[.int .u8 z] 5 fr)) fun e w' => e = .returned (.int .u64 (mixN h c.toNat : Nat)) ∧ (w.alloc (.cells #[.int .u8 z] 5 fr)) = w' := by
 subst hz
 have := refHashWrite_any h [c] _ 1 _ hh (show 1 ≤ maxLen by decide) (byteIn_new w c fr)
 rw [mixL_cons, mixL_nil] at this
 exact this
set_option maxHeartbeats 1000000 in
theorem refSum_any (l : List ByteArray) (a : Option Addr) (cap : Nat) (w : World) (hlen : l.length ≤ maxLen) (hz : ∀ s ∈ l, s.size ≤ maxLen) (ha : StrsIn w a l) :
  Calls Tryd.prog 36 #[.slice a l.length cap] w fun e w' => e = .returned (.int .u64 (sumL l : Nat)) ∧ Below w.heap.size w w' := by
 unfold maxLen at hlen
 have HA := Lib.hid ha
 have HZ := Lib.hid hz
 clear ha hz
 have hcv := fun (w : World) (s : ByteArray) => run_bytes_of_string (P := Tryd.prog) w 9 33 5 s Tryd.underlying9 Tryd.underlying33 Tryd.underlying5
 go_enter Tryd.func36, Tryd.ntmps36
 go_wp2_with (go_at_call 50; refine (refStart_any _).mono ?_; rintro e w' ⟨rfl, rfl⟩)
 go_loopw [3, 4] (fun n i wr => ∃ (k X : Nat), k ≤ l.length ∧ i = .int .i64 k ∧ n = .int .u64 X ∧ X < 18446744073709551616 ∧ Hid (X = sumL (l.take k)) ∧ Hid (Below w.heap.size w wr)) (fun _ i _ => l.length - (intOf i).toNat)
 case atStart => exact ⟨0, 14695981039346656037, Nat.zero_le _, rfl, rfl, by decide, Lib.hid (by rw [List.take_zero, sumL_nil]), Lib.hid (Below.refl _ _)⟩
 case round =>
  obtain ⟨k, X, hk, rfl, rfl, hX, HG, HB⟩ := hrel
  by_cases hlt : k < l.length
  · obtain ⟨x, rfl, hc⟩ := HA.out.keep HB.out k hlt
    have hs := HZ.out _ (List.getElem_mem hlt)
    have HS := Lib.hid (sumL_snoc l k hlt)
    generalize l[k] = s at *
    go_wp2_with fail
    have HC := Lib.hid (bytesIn_new wr s (grownCap wr s.size 0 5))
    have HN := Lib.hid (below_trans HB.out (((Below.refl wr.heap.size wr).alloc (Nat.le_refl _) (.cells (bytesRow s (grownCap wr s.size 0 5)) 5 ((bytesRow s (grownCap wr s.size 0 5)).size, (bytesRow s (grownCap wr s.size 0 5)).size + 1))).drew))
    generalize (wr.alloc (.cells (bytesRow s (grownCap wr s.size 0 5)) 5 ((bytesRow s (grownCap wr s.size 0 5)).size, (bytesRow s (grownCap wr s.size 0 5)).size + 1))).drew = W1 at *
    refine (refWrite_str X s _ _ W1 hX hs HC.out).mono ?_
    rintro e w1 ⟨rfl, rfl⟩
    go_wp2_with fail
    refine (refWrite_byte _ 0 0 rfl W1 _ (mixL_lt _ _ hX)).mono ?_
    rintro e w1 ⟨rfl, rfl⟩
    go_wp2_with fail
    go_roundw
    case rel => exact ⟨k + 1, sumN X s, by omega, by go_num, rfl, sumN_lt _ _, Lib.hid (by rw [HS.out, HG.out]), Lib.hid (HN.out.alloc HN.out.size _)⟩
    case measure => simp [intOf]; omega
  · go_wp2
    go_ret
    exact ⟨ret_int (by rw [HG.out, List.take_of_length_le (by omega)]), HB.out⟩
end Go.Proofs.YthgiplnidnkajaaDoor
namespace Go.Proofs.YthgiplnidnkajaaDoor
open Go.ChangeShapes Go.WideShapes Go.ChangeAt Go.RowKit
theorem IsBytes.keep {w w' : World} {a : Option Addr} {l : List UInt8} {cap : Nat} (h : IsBytes w a l cap) (hb : Below w.heap.size w w') : IsBytes w' a l cap := by
 rcases h with h | ⟨x, h1, h2, h3, h4⟩
 · exact .inl h
 · exact .inr ⟨x, h1, h2, h3, fun j hj => below_cell hb (h4 j hj)⟩
section
variable {ops : Array Oper} {rest : List Oper} {o : Oper} {act : Act} {Q : Exit → Act → World → Prop}
end
theorem bulk_one {H : Type} (d : DataW H) : 1 ≤ Rows.uptoBulk d := by
 cases d with
 | lit l => cases l <;> simp [Rows.uptoBulk]
 | nil => simp [Rows.uptoBulk]
 | ptr d => simp [Rows.uptoBulk]
 | slice elems spare => simp [Rows.uptoBulk]
 | agg parts => simp [Rows.uptoBulk]
 | iface t d => simp [Rows.uptoBulk]
 | map entries => simp [Rows.uptoBulk]
 | held h => simp [Rows.uptoBulk]
theorem bulk_length {H : Type} : ∀ l : List (DataW H), l.length ≤ Rows.uptoBulkAll l
 | [] => Nat.zero_le _
 | x :: r => by have := bulk_one x; have := bulk_length r; simp only [Rows.uptoBulkAll, List.length_cons]; omega
theorem open_bytes_bulk {H : Type} {enc : TypeId × Value → H} {W : World} {a : Option Addr} {len cap : Nat} {d : DataW H} {ps : List MemPlace} {base : Nat}
  (h : DataW.Trod enc Tryd.prog W base (fun _ => true) true 33 (.slice a len cap) d ps) : ∃ l : List UInt8, len = l.length ∧ IsBytes W a l cap ∧ l.length ≤ Rows.uptoBulk d := by
 obtain ⟨l, hl, hb⟩ := open_bytes h
 refine ⟨l, hl, hb, ?_⟩
 obtain ⟨fuel, hf⟩ := h
 rcases open_ints Tryd.underlying33 Tryd.underlying5 (by kernel_rfl) hf with ⟨hcs, _⟩ | ⟨x, n, c, zs, hcs, _, hn, hm, hz, hx, _, _⟩
 · simp [Value.cells] at hcs
   omega
 · simp [Value.cells] at hcs
   obtain ⟨rfl, rfl, rfl⟩ := hcs
   have hz' : zs.length = cap := by simpa using hz
   have h1 := bulk_length (lits (H := H) .u8 (zs.take len))
   have h2 : (lits (H := H) .u8 (zs.take len)).length = len := by simp [lits]; omega
   have e := congrArg Prod.fst hx
   simp only at e
   rw [e]
   simp only [Rows.uptoBulk]
   omega
end Go.Proofs.YthgiplnidnkajaaDoor
namespace Go.Proofs.YthgiplnidnkajaaDoor
open Go.RowKit
def BytesV (w : World) (v : Value) (l : List UInt8) : Prop := ∃ a c, v = .slice a l.length c ∧ IsBytes w a l c
theorem BytesV.keep {w w' : World} {v : Value} {l : List UInt8} (h : BytesV w v l) (hb : Below w.heap.size w w') : BytesV w' v l := by
 obtain ⟨a, c, h1, h2⟩ := h
 exact ⟨a, c, h1, h2.keep hb⟩
def Spec.bytes (l : List UInt8) : Spec := ⟨fun v w => BytesV w v l, fun _ _ _ h hb => h.keep hb⟩
section
variable {Q : Exit → Act → World → Prop} {a : Act} {w : World} {o : Oper} {s : Spec}
theorem loc_string {x : Operand} (ho : o.op = .convert 33 9 x) {l : List UInt8} (h : BytesV w (a.eval x) l) (hs : s.p (.string ⟨l.toArray⟩) w) :
  o.wp Tryd.prog a w (fun a' w' => ∃ v, a' = a.put o.dst v ∧ Below w.heap.size w w' ∧ s.p v w') Q := by
 obtain ⟨ad, c, h1, h2⟩ := h
 refine loc_convert ho ?_ hs
 rw [h1]
 exact conv_bytes h2
end
end Go.Proofs.YthgiplnidnkajaaDoor
namespace Go.Proofs.YthgiplnidnkajaaDoor
open Go.RowKit
structure SpecQ extends Spec where
 q : Value → Prop
 weak : ∀ v w, p v w → q v
section
variable {P : Program} {Q : Exit → Act → World → Prop} {ops : Array Oper} {S : List (Option SpecQ)} {a0 : Act} {w0 : World}
theorem holds_put {a : Act} {o : Oper} {i j : Nat} {w : World} {T : List Spec} (hd : dstsOk ops a0.tmps.size = true) (ho : ops[i]? = some o) (hji : j ≠ i) {v : Value} (h : Holds ops T a w j) : Holds ops T (a.put o.dst v) w j := by
 unfold Holds at *
 cases hoj : ops[j]? with
 | none => simp
 | some o' =>
  cases hsj : T[j]? with
  | none => simp
  | some s' =>
   simp only [hoj, hsj] at h ⊢
   cases hdo : o'.dst with
   | none => trivial
   | some d =>
    simp only [hdo] at h ⊢
    show s'.p ((a.put o.dst v).eval (.tmp d)) w
    rw [eval_put_other]
    · exact h
    · intro e
      exact (dsts_lt hd ho e).2 j o' hoj hji hdo
end
section
variable {P : Program} {Q : Exit → Act → World → Prop} {ops : Array Oper} {a : Act} {w : World} {o : Oper} {s : SpecQ}
end
end Go.Proofs.YthgiplnidnkajaaDoor
namespace Go.Proofs.YthgiplnidnkajaaDoor
structure Box (p : Prop) : Prop where
 out : p
def w4 (l : List UInt8) : UInt32 := l.foldl (fun x c => (x <<< 8) ||| c.toUInt32) 0
end Go.Proofs.YthgiplnidnkajaaDoor
namespace Go.Proofs.YthgiplnidnkajaaDoor
open Go.RowKit
theorem below_oneF (w : World) (o : Obj) : Below w.heap.size w (w.alloc o) := (Below.refl _ _).alloc (Nat.le_refl _) _
def fldB (n v : ByteArray) : Bool := tokS n && valS v
theorem fldB_val {n v : ByteArray} (h : tokS n = true) : fldB n v = valS v := by unfold fldB; rw [h]; rfl
end Go.Proofs.YthgiplnidnkajaaDoor
namespace Go.Proofs.YthgiplnidnkajaaDoor
open Go.RowKit
open Go.Maps (Keyed string_keyed)
theorem keyedF : Keyed Tryd.prog 9 := string_keyed Tryd.underlying9
theorem zeroBF (w : World) : (zeroValue 4).run Tryd.prog w = .ok (.bool false) w := by kernel_rfl
def inS (s : ByteArray) (S : List ByteArray) : Bool := S.any fun x => x.toList == s.toList
def SetIn (w : World) (b n : Nat) (S : List ByteArray) : Prop :=
 ∃ D : DataW Unit, w.ownsMap Tryd.prog 9 (plainElem Tryd.prog 4) b n D ∧ ∀ s : ByteArray, D.atKey (.string s.data.toList) (.lit (.bool false)) = .lit (.bool (inS s S))
theorem SetIn.keep {w w' : World} {b n : Nat} {S : List ByteArray} (h : SetIn w b n S) (hb : Below w.heap.size w w') : SetIn w' b n S := by
 obtain ⟨D, h1, h2⟩ := h
 have hlt := h1.lt
 obtain ⟨es, clock, hbk, F, hs, hD⟩ := h1
 exact ⟨D, ⟨es, clock, by rw [hb.block b hlt]; exact hbk, F, hs, hD⟩, h2⟩
theorem SetIn.lt {w : World} {b n : Nat} {S : List ByteArray} (h : SetIn w b n S) : b < w.heap.size := by
 obtain ⟨D, h1, _⟩ := h; exact h1.lt
theorem SetIn.made (w : World) : SetIn (w.alloc (.map #[] 0)) w.heap.size 0 [] :=
 ⟨.map [], World.ownsMap_made _ _ _ _, fun s => by simp [DataW.atKey, inS]⟩
section
variable {ops : Array Oper} {rest : List Oper} {o : Oper} {act : Act} {Q : Exit → Act → World → Prop}
set_option maxRecDepth 100000 in
theorem SetIn.run {w : World} {b n : Nat} {S : List ByteArray} (h : SetIn w b n S) (s : ByteArray) (hs : s.size ≤ maxLen) :
  (Instr.lookup 66 (.map (some b)) (.string s) false).run Tryd.prog w = .ok (.bool (inS s S)) w := by
 obtain ⟨D, h1, h2⟩ := h
 obtain ⟨v, ps, hrun, hv⟩ := h1.lookup (t := 66) (e := 4) keyedF Tryd.underlying66 (zeroBF w) (plainElem_bool Tryd.underlying4 false) (key := .string s) (kl := .string s.data.toList) (WideMaps.keyOf_string_mk Tryd.underlying9 hs)
 rw [h2 s] at hv
 have : v = .bool (inS s S) := by
  unfold plainElem at hv
  rw [Tryd.underlying4] at hv
  generalize inS s S = r at *
  cases v <;> simp at hv
  rw [hv.1]
 rw [hrun, this]
theorem wpList_update_set (w : World) (hg : o.guard = none) (m x : Operand) (hop : o.op = Op.mapUpdate 66 m x (.const (.bool true))) {b n : Nat} {S : List ByteArray} {s : ByteArray}
  (hm : act.eval m = .map (some b)) (hS : SetIn w b n S) (hn : n < maxLen) (hx : act.eval x = .string s) (hs : s.size ≤ maxLen)
  (hK : ∀ w', SetIn w' b (n + 1) (S ++ [s]) → w.grownBy w' (some b) → wpList Tryd.prog ops Q rest (act.put o.dst undef) w') : wpList Tryd.prog ops Q (o :: rest) act w := by
 obtain ⟨D, h1, h2⟩ := hS
 refine wpList_mapUpdate_own w hg m x (.const (.bool true)) 66 hop 9 4 keyedF Tryd.underlying66 _ b n D hm h1 hn (.string s) (.bool true) (.string s.data.toList) hx rfl (WideMaps.keyOf_string_mk Tryd.underlying9 hs)
  (.lit (.bool true)) [] (plainElem_bool Tryd.underlying4 true) ?_
 intro w' h3 h4
 refine hK w' ⟨_, h3, fun s' => ?_⟩ h4
 by_cases he : s' = s
 · subst he
   rw [Maps.atKey_put_same (h1.isMap) (show WideAt.IsKeyLit (.string s'.data.toList) from trivial)]
   simp [inS]
 · rw [Maps.atKey_put_other (fun e => he (ba_ext (by injection e)))]
   rw [h2 s']
   have : (s.toList == s'.toList) = false := by rw [toList_eq]; simp; exact fun e => he e.symm
   simp [inS, this]
end
theorem lowS_sizeF (s : ByteArray) : (lowS s).size = s.size := by
 show (lowS s).data.size = s.data.size
 simp [lowS]
def RetSet (w : World) (S : List ByteArray) (e : Ending) (w' : World) : Prop :=
 ∃ b n, e = .returned (.map (some b)) ∧ SetIn w' b n S ∧ Below w.heap.size w w'
set_option maxRecDepth 100000 in
set_option maxHeartbeats 1000000 in
theorem setOf_any (l : List ByteArray) (a : Option Addr) (cap : Nat) (w : World) (h : StrsIn w a l) (hz : ∀ s ∈ l, s.size ≤ maxLen) (hl : l.length ≤ 140737488355328) :
  Calls Tryd.prog 41 #[.slice a l.length cap] w (RetSet w (l.map lowS)) := by
 have H0 := Box.mk h
 have HZ := Box.mk hz
 clear h hz
 have hmm := @run_makeMap Tryd.prog
 go_enter Tryd.func41, Tryd.ntmps41
 go_wp2_with fail
 obtain ⟨W, hW⟩ : ∃ W, W = w.alloc (.map #[] 0) := ⟨_, rfl⟩
 have HS := Box.mk (SetIn.made w)
 have HB := Box.mk (below_oneF w (.map #[] 0))
 rw [← hW] at HS HB ⊢
 clear hW
 generalize hb : w.heap.size = b at HS ⊢
 have HBS := Box.mk hb
 clear hb
 go_loopw [9] (fun iv wr => ∃ k : Nat, k ≤ l.length ∧ iv = .int .i64 k ∧ Box (SetIn wr b k ((l.take k).map lowS) ∧ Below w.heap.size w wr)) (fun iv _ => l.length - (intOf iv).toNat)
 case atStart => exact ⟨0, Nat.zero_le _, rfl, ⟨by simpa using HS.out, HB.out⟩⟩
 case round =>
  clear HS HB
  obtain ⟨k, hk, rfl, HM⟩ := hrel
  by_cases hlt : k < l.length
  · obtain ⟨x, rfl, hx⟩ := (H0.out.keep HM.out.2) k hlt
    have HT := Box.mk (show (l.take (k + 1)).map lowS = (l.take k).map lowS ++ [lowS l[k]] by rw [List.take_succ_eq_append_getElem hlt, List.map_append]; rfl)
    have HSZ := Box.mk (HZ.out _ (List.getElem_mem hlt))
    generalize l[k] = s at *
    go_wp2_with fail
    refine (lower_any s _ HSZ.out).mono ?_
    rintro e w1 ⟨rfl, hb1⟩
    have HS1 := Box.mk (HM.out.1.keep hb1)
    have HB1 := Box.mk (below_trans HM.out.2 hb1)
    have HLZ := Box.mk (show (lowS s).size ≤ maxLen by rw [lowS_sizeF]; exact HSZ.out)
    clear hb1
    go_wp2_with (at_mapUpdate; refine wpList_update_set _ rfl _ _ rfl rfl HS1.out (by unfold maxLen; omega) rfl HLZ.out ?c1)
    case c1 =>
     intro w2 hs2 hg2
     have HM2 := Box.mk (show SetIn w2 b (k + 1) ((l.take (k + 1)).map lowS) ∧ Below w.heap.size w w2 from ⟨by rw [HT.out, List.map_take]; exact hs2, HB1.out.grown hg2 HB1.out.size (fun j hj => by injection hj with hj; have := HBS.out; omega)⟩)
     clear hs2 hg2 HS1 HB1 HT
     go_wp2_with fail
     go_roundw
     case rel => exact ⟨k + 1, by omega, by go_num, HM2⟩
     case measure => simp [intOf]; omega
  · have HE := Box.mk (show SetIn wr b k (l.map lowS) by have := HM.out.1; rw [List.take_of_length_le (by omega)] at this; exact this)
    go_wp2_with fail
    go_ret
    exact ⟨b, k, rfl, HE.out, HM.out.2⟩
set_option maxHeartbeats 1000000 in
theorem hdrIn_any (n v : ByteArray) (b m : Nat) (S : List ByteArray) (w : World) (h : SetIn w b m S) (hn : n.size ≤ maxLen) :
  Calls Tryd.prog 42 #[.agg #[.string n, .string v], .map (some b)] w fun e w' => e = .returned (.bool (inS (lowS n) S)) ∧ Below w.heap.size w w' := by
 have H0 := Box.mk (h.keep (below_oneF w (.cells #[.string n, .string v] 69)))
 clear h
 go_enter Tryd.func42, Tryd.ntmps42
 go_wp2_with fail
 refine (lower_any n _ hn).mono ?_
 rintro e w1 ⟨rfl, hb⟩
 have hrun := (H0.out.keep hb).run (lowS n) (by rw [lowS_sizeF]; exact hn)
 have HB := Box.mk (below_trans (below_oneF w (.cells #[.string n, .string v] 69)) hb)
 clear hb
 generalize hr : inS (lowS n) S = r at *
 have HR := Box.mk hr
 clear hr
 go_wp2_with fail
 go_ret
 exact ⟨ret_bool HR.out.symm, HB.out⟩
end Go.Proofs.YthgiplnidnkajaaDoor
namespace Go.Proofs.YthgiplnidnkajaaDoor
open Go.ChangeShapes Go.WideShapes Go.ChangeAt Go.RowKit
abbrev Fld := ByteArray × ByteArray
def cellsF (l : List Fld) : List Value := l.flatMap fun f => [.string f.1, .string f.2]
theorem cellsF_len (l : List Fld) : (cellsF l).length = l.length * 2 := by
 induction l with
 | nil => rfl
 | cons a t ih =>
  have : cellsF (a :: t) = .string a.1 :: .string a.2 :: cellsF t := rfl
  rw [this]; simp only [List.length_cons, ih]; omega
theorem cellsF_app (a b : List Fld) : cellsF (a ++ b) = cellsF a ++ cellsF b := by unfold cellsF; rw [List.flatMap_append]
theorem cellsF_get : ∀ (l : List Fld) (j : Nat) (hj : j < l.length), (cellsF l)[j * 2]? = some (.string l[j].1) ∧ (cellsF l)[j * 2 + 1]? = some (.string l[j].2)
 | a :: t, 0, _ => ⟨rfl, rfl⟩
 | a :: t, j + 1, hj => by
  have ih := cellsF_get t j (by simpa using hj)
  have e : cellsF (a :: t) = .string a.1 :: .string a.2 :: cellsF t := rfl
  rw [e, show (j + 1) * 2 = j * 2 + 1 + 1 by omega, show j * 2 + 1 + 1 + 1 = (j * 2 + 1) + 1 + 1 by omega]
  simpa using ih
theorem cell_next {w : World} {x : Addr} {i : Nat} {v : Value} (h : w.cell? (x.add (i + 1)) = some v) : w.cell? ⟨(x.add i).block, (x.add i).off + 1, none⟩ = some v := by
 rw [← Go.Deep.add_add] at h
 rw [← h]; rfl
def FldsIn (w : World) (a : Option Addr) (l : List Fld) : Prop :=
 ∀ j (hj : j < l.length), ∃ x, a = some x ∧ w.cell? (x.add (j * 2)) = some (.string l[j].1) ∧ w.cell? (x.add (j * 2 + 1)) = some (.string l[j].2)
theorem FldsIn.keep {w w' : World} {a : Option Addr} {l : List Fld} (h : FldsIn w a l) (hb : Below w.heap.size w w') : FldsIn w' a l := fun j hj => by
 obtain ⟨x, e, h1, h2⟩ := h j hj
 exact ⟨x, e, below_cell hb h1, below_cell hb h2⟩
theorem FldsIn.nil (w : World) (a : Option Addr) : FldsIn w a [] := fun _ hj => absurd hj (Nat.not_lt_zero _)
theorem FldsIn.cells {w : World} {x : Addr} {l : List Fld} (h : FldsIn w (some x) l) : ∀ j u, (cellsF l)[j]? = some u → w.cell? (x.add j) = some u := fun j u hj => by
 have hlt : j < l.length * 2 := by rw [← cellsF_len]; exact (List.getElem?_eq_some_iff.1 hj).1
 have hk : j / 2 < l.length := by omega
 obtain ⟨y, e, h1, h2⟩ := h (j / 2) hk
 obtain rfl := Option.some.inj e
 obtain ⟨g1, g2⟩ := cellsF_get l (j / 2) hk
 rcases Nat.mod_two_eq_zero_or_one j with hm | hm
 · have : j / 2 * 2 = j := by omega
   rw [this] at h1 g1
   rw [hj] at g1; rw [h1, ← g1]
 · have : j / 2 * 2 + 1 = j := by omega
   rw [this] at h2 g2
   rw [hj] at g2; rw [h2, ← g2]
theorem FldsIn.of_cells {w : World} {x : Addr} {l : List Fld} (h : ∀ j u, (cellsF l)[j]? = some u → w.cell? (x.add j) = some u) : FldsIn w (some x) l := fun j hj =>
 ⟨x, rfl, h _ _ (cellsF_get l j hj).1, h _ _ (cellsF_get l j hj).2⟩
theorem Tryd.info37 : (Tryd.prog.info? 37).map (fun i => (i.zero, i.size, i.bytes)) = some (some (.agg #[.string ⟨#[]⟩, .string ⟨#[]⟩]), 2, 32) := by kernel_rfl
section
variable {ops : Array Oper} {rest : List Oper} {o : Oper} {act : Act} {Q : Exit → Act → World → Prop}
end
def ShortF (l : List Fld) : Prop := ∀ f ∈ l, f.1.size ≤ maxLen ∧ f.2.size ≤ maxLen
theorem bulk_mem {H : Type} {x : DataW H} : ∀ {l : List (DataW H)}, x ∈ l → Rows.uptoBulk x ≤ Rows.uptoBulkAll l
 | y :: r, h => by
  simp only [Rows.uptoBulkAll]
  rcases List.mem_cons.1 h with rfl | h
  · omega
  · have := bulk_mem h; omega
def strF : Value → ByteArray | .string s => s | _ => ⟨#[]⟩
theorem open_fields {H : Type} {enc : TypeId × Value → H} {W : World} {a : Option Addr} {len cap : Nat} {d : DataW H} {ps : List MemPlace} {base : Nat}
  (h : DataW.Trod enc Tryd.prog W base (fun _ => true) true 23 (.slice a len cap) d ps) :
  ∃ l : List Fld, len = l.length ∧ FldsIn W a l ∧ l.length ≤ cap ∧ cap ≤ maxLen ∧ ShortF l ∧ ∀ f ∈ l, f.1.size ≤ Rows.uptoBulk d ∧ f.2.size ≤ Rows.uptoBulk d := by
 obtain ⟨fuel, hf⟩ := h
 rcases Go.Deep.open_slice_pairs Tryd.underlying23 Tryd.underlying37 (by kernel_rfl) (by kernel_rfl) (by kernel_rfl) (by kernel_rfl) (by kernel_rfl) hf with ⟨hcs, _⟩ | ⟨x, n, c, m, k, V0, V1, D0, D1, P0, P1, hcs, _, hl, hm, hmm, hx, hi⟩
 · simp [Value.cells] at hcs
   obtain ⟨rfl, rfl, rfl⟩ := hcs
   exact ⟨[], rfl, FldsIn.nil _ _, Nat.le_refl _, Nat.zero_le _, (fun f hf => by cases hf), (fun f hf => by cases hf)⟩
 · simp [Value.cells] at hcs
   obtain ⟨rfl, rfl, rfl⟩ := hcs
   have hlm : len ≤ m := by rw [hmm]; split <;> omega
   have each : ∀ i, i < m → ∃ s t : ByteArray, V0 i = .string s ∧ V1 i = .string t ∧ s.size ≤ maxLen ∧ t.size ≤ maxLen ∧ D0 i = .lit (.string s.data.toList) ∧ D1 i = .lit (.string t.data.toList) := fun i him => by
    obtain ⟨_, _, h3, h4⟩ := hi i him
    obtain ⟨s, e1, e2, e3⟩ := DataW.trod_string Tryd.underlying9 h3
    obtain ⟨t, f1, f2, f3⟩ := DataW.trod_string Tryd.underlying9 h4
    injection e1 with e1; injection f1 with f1
    exact ⟨s, t, e1, f1, e3, f3, congrArg Prod.fst e2, congrArg Prod.fst f2⟩
   have hlen : ((List.range len).map fun i => ((strF (V0 i), strF (V1 i)) : Fld)).length = len := by simp
   have hd : d = .slice ((List.range len).map fun i => .agg [D0 i, D1 i]) ((List.range (m - len)).map fun j => .agg [D0 (len + j), D1 (len + j)]) := congrArg Prod.fst hx
   refine ⟨(List.range len).map fun i => (strF (V0 i), strF (V1 i)), hlen.symm, fun j hj => ?_, by rw [hlen]; exact hl, hm, fun f hf => ?_, fun f hf => ?_⟩
   · rw [hlen] at hj
     obtain ⟨h1, h2, _⟩ := hi j (by omega)
     obtain ⟨s, t, e1, e2, _⟩ := each j (by omega)
     refine ⟨x, rfl, ?_, ?_⟩
     · rw [h1, e1]; simp [strF, e1]
     · rw [h2, e2]; simp [strF, e2]
   · obtain ⟨i, hi', rfl⟩ := List.mem_map.1 hf
     obtain ⟨s, t, e1, e2, e3, e4, _⟩ := each i (by have := List.mem_range.1 hi'; omega)
     rw [e1, e2]; exact ⟨e3, e4⟩
   · obtain ⟨i, hi', rfl⟩ := List.mem_map.1 hf
     obtain ⟨s, t, e1, e2, e3, e4, e5, e6⟩ := each i (by have := List.mem_range.1 hi'; omega)
     have hb := bulk_mem (x := (.agg [D0 i, D1 i] : DataW H)) (l := (List.range len).map fun i => .agg [D0 i, D1 i]) (List.mem_map.2 ⟨i, hi', rfl⟩)
     rw [e5, e6] at hb
     simp only [Rows.uptoBulk, Rows.uptoBulkAll] at hb
     have g1 : s.data.toList.length = s.size := by rw [Array.length_toList]; rfl
     have g2 : t.data.toList.length = t.size := by rw [Array.length_toList]; rfl
     rw [e1, e2, hd]
     simp only [strF, Rows.uptoBulk]
     omega
end Go.Proofs.YthgiplnidnkajaaDoor
