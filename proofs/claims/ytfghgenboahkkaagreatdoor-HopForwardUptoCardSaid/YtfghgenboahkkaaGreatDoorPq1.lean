/- Contracts of the small functions of package ascii and of its reference: one byte, and loops over the bytes of a string. Contracts of Lower and Fold, of package ascii and of its reference. Plain facts on lists of bytes: trimming from both ends. Slices of strings in memory: one that is read, one that the call appends to, one that is kept beside it. The numbers that the shelf's contracts of Go's library (package strings, package strconv) have in this seat's translation: nothing is claimed here by itself. Contracts of Fold, Value, Trim, of package ascii and of its reference. Plain facts on lists of bytes: cutting at a byte, and the elements of comma-separated lists. Contracts of Same, Split and List, of package ascii and of its reference. Opening arguments: a byte, a slice of bytes. Opening an argument that is a slice of strings. Slices of bytes in memory: one that the call appends to; slices of numbers that are read. A region that draws its order, whose operations all leave the world in a class, but for the last one, which waits for all of them. A region that draws its order, by what each operation leaves: one fact an operation, whatever the order. FNV-1a in plain words, and the contracts of mix and Write, of package hash and of its reference. The contracts of Sum, of package hash and of its reference. Appending a slice of bytes that came in to a slice of the call's own; the law HashWrite at open arguments; what the bound on the arguments gives. More of a region's single operations: comparisons, lengths, slices of slices that are built. -/
import Derived.Test.YtfghgenboahkkaaGreatDoorRows
import Derived.WalkKit
import Derived.WalkSpells
import Derived.WalkLawsBesides
import Derived.BigQuiet
import Derived.Deep.QuietTactic
import Derived.Lib.Bytealg
import Derived.Lib.IndexLaws
import Derived.Lib.Hide
import Derived.Laws.IdiomStrings
import Derived.Lib.SlTrimSet
import Derived.Lib.IndexBytes
import Derived.Lib.Split
import Derived.Deep.AppendLies
import Derived.Shelf.Strings.SlTrimAscii
import Derived.Shelf.Strings.SplitShaped
import Derived.Shelf.LaysM
import Derived.Shelf.Strings.BuilderK
import Derived.Shelf.Strconv.Itoa4
import Derived.Shelf.Strings.Builder2
import Derived.Test.YtfghgenboahkkaaGreatDoorProg
import Derived.Lib.SplitLaws
import Derived.WalkSmall
import Derived.ProofKit
import Derived.OpenShut
import Derived.Lib.Strings
import Derived.SliceStrings
import Derived.Deep.Quiet
import Derived.Tactics
import Derived.KernelRfl
import Derived.Below
import Derived.Laws.Bits64
import Derived.Lib.SlBytesConst
import Derived.Maps.AppendAt
import Derived.Laws.AppendOwnNone
import Derived.Great.BuildSlice
import Derived.Laws.Rows
namespace Go.Proofs.YtfghgenboahkkaaGreatDoor
open Go.RowKit
theorem ret_bool {a b : Bool} (h : a = b) : Ending.returned (.bool a) = .returned (.bool b) := by rw [h]
theorem ret_int {k : IntKind} {a b : Int} (h : a = b) : Ending.returned (.int k a) = .returned (.int k b) := by rw [h]
theorem ret_str {a b : ByteArray} (h : a = b) : Ending.returned (.string a) = .returned (.string b) := by rw [h]
def upB (c : Int) : Bool := decide (65 ≤ c) && decide (c ≤ 90)
def digB (c : Int) : Bool := decide (48 ≤ c) && decide (c ≤ 57)
def loB (c : Int) : Bool := decide (97 ≤ c) && decide (c ≤ 122)
def marks : ByteArray := ⟨#[33, 35, 36, 37, 38, 39, 42, 43, 45, 46, 94, 95, 96, 124, 126]⟩
def hasS (s : ByteArray) (c : UInt8) : Bool := s.data.toList.contains c
def tokB (c : UInt8) : Bool := upB c.toNat || loB c.toNat || digB c.toNat || hasS marks c
def tokS (s : ByteArray) : Bool := s.data.toList.all tokB && !s.data.toList.isEmpty
theorem take_snoc (s : ByteArray) (k : Nat) (h : k < s.size) : s.data.toList.take (k + 1) = s.data.toList.take k ++ [s[k]] := by
 rw [List.take_succ_eq_append_getElem (by simpa using h)]; rfl
theorem take_all (s : ByteArray) (k : Nat) (h : k ≤ s.size) (h2 : ¬ k < s.size) : s.data.toList.take k = s.data.toList := by
 rw [List.take_of_length_le]; simp; omega
theorem mem_at (s : ByteArray) (k : Nat) (h : k < s.size) : s[k] ∈ s.data.toList := by
 show s.data[k] ∈ s.data.toList
 simp
theorem toList_isEmpty (s : ByteArray) : s.toList.isEmpty = s.data.isEmpty := by
 rw [ByteArray.toList_eq s]; simp
set_option maxHeartbeats 400000 in
theorem isUpper_any (c : Int) (w : World) (h0 : 0 ≤ c) (h1 : c ≤ 255) :
  Calls Tryz.prog 126 #[.int .u8 c] w fun e w' => e = .returned (.bool (upB c)) ∧ w = w' := by
 go_enter Tryz.func126, Tryz.ntmps126
 go_wp2
 all_goals go_ret
 all_goals exact ⟨ret_bool (by unfold upB; rw [Bool.eq_iff_iff]; simp; omega), rfl⟩
theorem eqb_of {a b : UInt8} (h : ((a.toNat : Int) == (b.toNat : Int)) = true) : a = b := by
 apply UInt8.toNat_inj.1; simp at h; omega
def lowB (c : UInt8) : UInt8 := if upB c.toNat then c + 32 else c
def lowS (s : ByteArray) : ByteArray := ⟨(s.data.toList.map lowB).toArray⟩
def foldS (a b : ByteArray) : Bool := (lowS a).toList == (lowS b).toList
def BytesAt (w : World) (B : Nat) (l : List UInt8) : Prop :=
 ∀ j (hj : j < l.length), w.cell? ⟨B, j, none⟩ = some (.int .u8 (l[j].toNat : Int)) ∧ w.frozen? ⟨B, j, none⟩ = false
theorem BytesAt.set {w : World} {B : Nat} {l : List UInt8} (h : BytesAt w B l) {k : Nat} (hk : k < l.length) (c : UInt8) :
  BytesAt (w.setCell ⟨B, k, none⟩ (.int .u8 (c.toNat : Int))) B (l.set k c) := by
 intro j hj
 have hj' : j < l.length := by simpa using hj
 obtain ⟨h1, h2⟩ := h j hj'
 obtain ⟨k1, _⟩ := h k hk
 constructor
 · by_cases e : k = j
   · subst e
     rw [World.cell?_setCell_same _ _ _ k1]; simp
   · rw [World.cell?_setCell_other _ _ _ _ (by intro hh; apply e; cases hh; rfl)]
     rw [h1, List.getElem_set_ne e]
 · rw [← h2]; exact World.frozen?_setCell ..
theorem bytesAt_new (w : World) (s : ByteArray) (cap : Nat) :
  BytesAt (w.alloc (.cells (bytesRow s cap) 5 ((bytesRow s cap).size, (bytesRow s cap).size + 1))).drew w.heap.size s.data.toList := by
 intro j hj
 have hj' : j < s.data.size := by simpa using hj
 constructor
 · show (w.alloc _).cell? _ = _
   rw [World.cell?_alloc_mark, bytesRow_at s _ j hj']; simp
 · show (w.alloc _).frozen? _ = _
   rw [World.frozen?_alloc_mark]
   have : j < (bytesRow s cap).size := by
    have h := bytesRow_at s cap j hj'
    exact (Array.getElem?_eq_some_iff.1 h).1
   simp; omega
def lowRow (s : ByteArray) (k : Nat) : List UInt8 := (s.data.toList.take k).map lowB ++ s.data.toList.drop k
theorem lowRow_length (s : ByteArray) (k : Nat) : (lowRow s k).length = s.size := by
 unfold lowRow
 have : s.data.toList.length = s.size := by simp
 rw [List.length_append, List.length_map, List.length_take, List.length_drop]; omega
theorem lowRow_at (s : ByteArray) (k : Nat) (h : k < s.size) : (lowRow s k)[k]'(by rw [lowRow_length]; exact h) = s[k] := by
 unfold lowRow
 have hl : ((s.data.toList.take k).map lowB).length = k := by simp; omega
 rw [List.getElem_append_right (by omega), List.getElem_drop]
 have e : k + (k - ((s.data.toList.take k).map lowB).length) = k := by omega
 simp only [e]
 show s.data.toList[k] = s.data[k]
 simp
theorem lowRow_set (s : ByteArray) (k : Nat) (h : k < s.size) : lowRow s (k + 1) = (lowRow s k).set k (lowB s[k]) := by
 unfold lowRow
 have hl : ((s.data.toList.take k).map lowB).length = k := by simp; omega
 have hd : s.data.toList.drop k = s[k] :: s.data.toList.drop (k + 1) := by
  rw [List.drop_eq_getElem_cons (by simpa using h)]; rfl
 rw [hd, List.set_append_right _ _ (by omega), hl, Nat.sub_self, List.set_cons_zero, take_snoc s k h]
 simp
theorem lowRow_same (s : ByteArray) (k : Nat) (h : k < s.size) (hb : upB s[k].toNat = false) : lowRow s (k + 1) = lowRow s k := by
 rw [lowRow_set s k h]
 have : lowB s[k] = (lowRow s k)[k]'(by rw [lowRow_length]; exact h) := by rw [lowRow_at s k h]; unfold lowB; rw [hb]; rfl
 rw [this, List.set_getElem_self]
theorem lowRow_zero (s : ByteArray) : lowRow s 0 = s.data.toList := by simp [lowRow]
theorem lowRow_all (s : ByteArray) (k : Nat) (h : k ≤ s.size) (h2 : ¬ k < s.size) : lowRow s k = (s.data.toList.map lowB) := by
 have e : k = s.size := by omega
 unfold lowRow
 rw [take_all s k h h2, List.drop_of_length_le (by simp; omega)]; simp
theorem lowB_val (c : UInt8) (h : upB c.toNat = true) : ((lowB c).toNat : Int) = (c.toNat : Int) - 65 + 97 := by
 unfold lowB; rw [if_pos h]
 unfold upB at h; simp at h
 rw [UInt8.toNat_add]
 have : (32 : UInt8).toNat = 32 := rfl
 omega
theorem lowB_val' (c : UInt8) (h : upB c.toNat = true) : ((lowB c).toNat : Int) = (c.toNat : Int) + 32 := by
 rw [lowB_val c h]; omega
set_option maxHeartbeats 400000 in
theorem lower_any (s : ByteArray) (w : World) (hs : s.size ≤ maxLen) :
  Calls Tryz.prog 94 #[.string s] w fun e w' => e = .returned (.string (lowS s)) ∧ Below w.heap.size w w' := by
 unfold maxLen at hs
 have hcv := fun (w : World) (s : ByteArray) => run_bytes_of_string (P := Tryz.prog) w 9 29 5 s Tryz.underlying9 Tryz.underlying29 Tryz.underlying5
 go_enter Tryz.func94, Tryz.ntmps94
 go_wp2
 generalize grownCap w s.size 0 5 = cap
 have hn := Lib.hid (bytesAt_new w s cap)
 go_loopw [10] (fun i wr => ∃ k : Nat, k ≤ s.size ∧ i = .int .i64 k ∧ Hid (BytesAt wr w.heap.size (lowRow s k)) ∧ Below w.heap.size w wr) (fun i _ => s.size - (intOf i).toNat)
 case atStart => exact ⟨0, Nat.zero_le _, rfl, Lib.hid (by rw [lowRow_zero]; exact hn.out), ((Below.refl _ w).alloc (Nat.le_refl _) _).drew⟩
 case round =>
  obtain ⟨k, hk, rfl, HB, hbel⟩ := hrel
  by_cases hlt : k < s.size
  · obtain ⟨c1, c2⟩ := HB.out k (by rw [lowRow_length]; exact hlt)
    rw [lowRow_at s k hlt] at c1
    have b1 : (s[k].toNat : Int) ≤ 255 := by have := s[k].toNat_lt; omega
    by_cases hu : upB s[k].toNat = true
    · have hl := Lib.hid (lowB_val s[k] hu)
      have b2 : 65 ≤ (s[k].toNat : Int) ∧ (s[k].toNat : Int) ≤ 90 := by unfold upB at hu; simpa using hu
      obtain ⟨b3, b4⟩ := b2
      go_wp2_with (go_at_call 126; refine (isUpper_any _ _ (by omega) (by omega)).mono ?_; rintro e w' ⟨rfl, rfl⟩)
      go_roundw
      case rel => exact ⟨k + 1, by omega, by go_num, Lib.hid (by rw [lowRow_set s k hlt]; have := HB.out.set (by rw [lowRow_length]; exact hlt) (lowB s[k]); rw [hl.out] at this; exact this), hbel.setCell (by simp) _⟩
      case measure => simp [intOf]; omega
    · have hu' : upB s[k].toNat = false := by simpa using hu
      clear hu
      go_wp2_with (go_at_call 126; refine (isUpper_any _ _ (by omega) (by omega)).mono ?_; rintro e w' ⟨rfl, rfl⟩)
      go_roundw
      case rel => exact ⟨k + 1, by omega, by go_num, Lib.hid (by rw [lowRow_same s k hlt hu']; exact HB.out), hbel⟩
      case measure => simp [intOf]; omega
  · have hback := run_convert_bytes_back (P := Tryz.prog) wr 29 9 5 ⟨w.heap.size, 0, none⟩ cap (lowRow s k) Tryz.underlying29 Tryz.underlying5 Tryz.underlying9 (fun j hj => by
     rw [Addr.add_lit, Nat.zero_add]; exact (HB.out j hj).1)
    rw [lowRow_length] at hback
    go_wp2
    go_ret
    exact ⟨ret_str (by rw [lowRow_all s k hk hlt]; rfl), hbel⟩
set_option maxHeartbeats 400000 in
theorem refLower_any (s : ByteArray) (w : World) (hs : s.size ≤ maxLen) :
  Calls Tryz.prog 67 #[.string s] w fun e w' => e = .returned (.string (lowS s)) ∧ Below w.heap.size w w' := by
 unfold maxLen at hs
 have hcv := fun (w : World) (s : ByteArray) => run_bytes_of_string (P := Tryz.prog) w 9 29 5 s Tryz.underlying9 Tryz.underlying29 Tryz.underlying5
 go_enter Tryz.func67, Tryz.ntmps67
 go_wp2
 generalize grownCap w s.size 0 5 = cap
 have hn := Lib.hid (bytesAt_new w s cap)
 go_loopw [4] (fun i wr => ∃ k : Nat, k ≤ s.size ∧ i = .int .i64 k ∧ Hid (BytesAt wr w.heap.size (lowRow s k)) ∧ Below w.heap.size w wr) (fun i _ => s.size - (intOf i).toNat)
 case atStart => exact ⟨0, Nat.zero_le _, rfl, Lib.hid (by rw [lowRow_zero]; exact hn.out), ((Below.refl _ w).alloc (Nat.le_refl _) _).drew⟩
 case round =>
  obtain ⟨k, hk, rfl, HB, hbel⟩ := hrel
  by_cases hlt : k < s.size
  · obtain ⟨c1, c2⟩ := HB.out k (by rw [lowRow_length]; exact hlt)
    rw [lowRow_at s k hlt] at c1
    have b1 : (s[k].toNat : Int) ≤ 255 := by have := s[k].toNat_lt; omega
    by_cases hu : upB s[k].toNat = true
    · have hl := Lib.hid (lowB_val' s[k] hu)
      have b2 : 65 ≤ (s[k].toNat : Int) ∧ (s[k].toNat : Int) ≤ 90 := by unfold upB at hu; simpa using hu
      obtain ⟨b3, b4⟩ := b2
      have HU := Lib.hid hu; clear hu
      go_wp2
      go_roundw
      case rel => exact ⟨k + 1, by omega, by go_num, Lib.hid (by rw [lowRow_set s k hlt]; have := HB.out.set (by rw [lowRow_length]; exact hlt) (lowB s[k]); rw [hl.out] at this; exact this), hbel.setCell (by simp) _⟩
      case measure => simp [intOf]; omega
    · have hu' : upB s[k].toNat = false := by simpa using hu
      clear hu
      have HU := Lib.hid hu'
      have b2 : (s[k].toNat : Int) < 65 ∨ 90 < (s[k].toNat : Int) := by unfold upB at hu'; simp at hu'; omega
      clear hu'
      rcases b2 with b2 | b2
      all_goals
       go_wp2
       go_roundw
       case rel => exact ⟨k + 1, by omega, by go_num, Lib.hid (by rw [lowRow_same s k hlt HU.out]; exact HB.out), hbel⟩
       case measure => simp [intOf]; omega
  · have hback := run_convert_bytes_back (P := Tryz.prog) wr 29 9 5 ⟨w.heap.size, 0, none⟩ cap (lowRow s k) Tryz.underlying29 Tryz.underlying5 Tryz.underlying9 (fun j hj => by
     rw [Addr.add_lit, Nat.zero_add]; exact (HB.out j hj).1)
    rw [lowRow_length] at hback
    go_wp2
    go_ret
    exact ⟨ret_str (by rw [lowRow_all s k hk hlt]; rfl), hbel⟩
end Go.Proofs.YtfghgenboahkkaaGreatDoor
namespace Go.Proofs.YtfghgenboahkkaaGreatDoor
open Go
def blanks : List UInt8 := [32, 9]
def blankB (c : UInt8) : Bool := blanks.contains c
def rdrop (p : UInt8 → Bool) (l : List UInt8) : List UInt8 := (l.reverse.dropWhile p).reverse
theorem rdrop_cons (p : UInt8 → Bool) (a : UInt8) (t : List UInt8) : rdrop p (a :: t) = if (rdrop p t).isEmpty then [a].dropWhile p else a :: rdrop p t := by
 unfold rdrop
 rw [List.reverse_cons, List.dropWhile_append]
 have : (t.reverse.dropWhile p).reverse.isEmpty = (t.reverse.dropWhile p).isEmpty := by simp
 rw [this]
 split
 · cases h : p a <;> simp [List.dropWhile, h]
 · simp
theorem rdrop_empty (p : UInt8 → Bool) : ∀ t : List UInt8, (rdrop p t).isEmpty = t.all p
 | [] => rfl
 | a :: t => by
  rw [rdrop_cons, List.all_cons, rdrop_empty p t]
  cases ht : t.all p <;> cases h : p a <;> simp [List.dropWhile, h]
theorem dropWhile_all (p : UInt8 → Bool) : ∀ t : List UInt8, t.all p = true → t.dropWhile p = []
 | [], _ => rfl
 | a :: t, h => by
  rw [List.all_cons, Bool.and_eq_true] at h
  rw [List.dropWhile_cons, if_pos h.1]; exact dropWhile_all p t h.2
theorem trim_comm (p : UInt8 → Bool) : ∀ l : List UInt8, (rdrop p l).dropWhile p = rdrop p (l.dropWhile p)
 | [] => rfl
 | a :: t => by
  cases h : p a
  · have e : (a :: t).dropWhile p = a :: t := by rw [List.dropWhile_cons, if_neg (by simp [h])]
    rw [e, rdrop_cons]
    split
    · simp [List.dropWhile, h]
    · rw [List.dropWhile_cons, if_neg (by simp [h])]
  · have e : (a :: t).dropWhile p = t.dropWhile p := by rw [List.dropWhile_cons, if_pos h]
    rw [e, rdrop_cons, rdrop_empty]
    split
    · rename_i ht
      rw [dropWhile_all p t ht]; simp [List.dropWhile, h, rdrop]
    · rw [List.dropWhile_cons, if_pos h]; exact trim_comm p t
def trimL (l : List UInt8) : List UInt8 := (rdrop blankB l).dropWhile blankB
theorem length_dropWhile (p : UInt8 → Bool) : ∀ l : List UInt8, (l.dropWhile p).length ≤ l.length
 | [] => Nat.le_refl _
 | a :: t => by
  rw [List.dropWhile_cons]; split
  · have := length_dropWhile p t; simp; omega
  · exact Nat.le_refl _
theorem trimL_length (l : List UInt8) : (trimL l).length ≤ l.length := by
 unfold trimL
 have h1 := length_dropWhile blankB (rdrop blankB l)
 have h2 : (rdrop blankB l).length ≤ l.length := by
  unfold rdrop; rw [List.length_reverse]; have := length_dropWhile blankB l.reverse; simpa using this
 omega
def trimBA (s : ByteArray) : ByteArray := ⟨(trimL s.data.toList).toArray⟩
theorem trimBA_list (s : ByteArray) : (trimBA s).data.toList = trimL s.data.toList := by simp [trimBA]
theorem trimBA_size (s : ByteArray) : (trimBA s).size ≤ s.size := by
 have := trimL_length s.data.toList
 have h1 : (trimBA s).size = (trimL s.data.toList).length := by show (trimBA s).data.size = _; simp [trimBA]
 have h2 : s.size = s.data.toList.length := by simp
 omega
theorem ba_ext {a b : ByteArray} (h : a.data.toList = b.data.toList) : a = b := by
 cases a; cases b; simp at h; simp [h]
theorem drop_step (t : ByteArray) (h : 0 < t.size) (hb : blankB t[0] = true) : (t.extract 1 t.size).data.toList.dropWhile blankB = t.data.toList.dropWhile blankB := by
 rw [Lib.extract_to_end]
 have e : t.data.toList = t[0] :: t.data.toList.drop 1 := by
  have : 0 < t.data.toList.length := by simpa using h
  rw [← List.drop_zero (l := t.data.toList), List.drop_eq_getElem_cons this]; simp; rfl
 conv => rhs; rw [e]
 rw [List.dropWhile_cons, if_pos hb]
theorem drop_end (t : ByteArray) (hb : ∀ h : 0 < t.size, blankB t[0] = false) : t.data.toList.dropWhile blankB = t.data.toList := by
  by_cases h : 0 < t.size
  · have e : t.data.toList = t[0] :: t.data.toList.drop 1 := by
      have : 0 < t.data.toList.length := by simpa using h
      rw [← List.drop_zero (l := t.data.toList), List.drop_eq_getElem_cons this]; simp; rfl
    rw [e, List.dropWhile_cons, if_neg (by simp [hb h])]
  · have : t.data.toList = [] := by apply List.eq_nil_of_length_eq_zero; have hl : t.data.toList.length = t.size := by simp
                                    omega
    rw [this]; rfl
theorem back_eq (t : ByteArray) (h : 0 < t.size) : t.data.toList = t.data.toList.take (t.size - 1) ++ [t[t.size - 1]] := by
 have h1 : t.size - 1 < t.data.toList.length := by simp; omega
 have : t.data.toList.take (t.size - 1 + 1) = t.data.toList := by rw [List.take_of_length_le]; simp; omega
 rw [List.take_succ_eq_append_getElem h1] at this
 exact this.symm
theorem rdrop_step (t : ByteArray) (h : 0 < t.size) (hb : blankB t[t.size - 1] = true) : rdrop blankB (t.extract 0 (t.size - 1)).data.toList = rdrop blankB t.data.toList := by
 rw [Lib.extract_from_zero]
 conv => rhs; rw [back_eq t h]
 unfold rdrop
 rw [List.reverse_append]; simp only [List.reverse_cons, List.reverse_nil, List.nil_append, List.cons_append]
 rw [List.dropWhile_cons, if_pos hb]
theorem rdrop_end (t : ByteArray) (hb : ∀ h : 0 < t.size, blankB t[t.size - 1] = false) : rdrop blankB t.data.toList = t.data.toList := by
  by_cases h : 0 < t.size
  · conv => lhs; rw [back_eq t h]
    unfold rdrop
    rw [List.reverse_append]; simp only [List.reverse_cons, List.reverse_nil, List.nil_append, List.cons_append]
    rw [List.dropWhile_cons, if_neg (by simp [hb h])]
    rw [List.reverse_cons, List.reverse_reverse]; exact (back_eq t h).symm
  · have : t.data.toList = [] := by apply List.eq_nil_of_length_eq_zero; have hl : t.data.toList.length = t.size := by simp
                                    omega
    rw [this]; rfl
end Go.Proofs.YtfghgenboahkkaaGreatDoor
namespace Go.Proofs.YtfghgenboahkkaaGreatDoor
open Go.RowKit
theorem lt_cell {w : World} {a : Addr} {v : Value} (h : w.cell? a = some v) : a.block < w.heap.size := by
 rcases Nat.lt_or_ge a.block w.heap.size with h' | h'
 · exact h'
 · simp [World.cell?, Array.getElem?_eq_none h'] at h
theorem below_trans {w w1 w2 : World} (h : Below w.heap.size w w1) (k : Below w1.heap.size w1 w2) : Below w.heap.size w w2 := h.trans (k.mono h.size)
theorem below_cell {w w' : World} (h : Below w.heap.size w w') {a : Addr} {v : Value} (hc : w.cell? a = some v) : w'.cell? a = some v := by
 rw [h.cell (lt_cell hc)]; exact hc
def StrsAt (w : World) (a : Option Addr) (l : List ByteArray) : Prop :=
 ∀ j (hj : j < l.length), ∃ b off, a = some ⟨b, off, none⟩ ∧ w.cell? ⟨b, off + j, none⟩ = some (.string l[j])
theorem StrsAt.keep {w w' : World} {a : Option Addr} {l : List ByteArray} (h : StrsAt w a l) (hb : Below w.heap.size w w') : StrsAt w' a l := fun j hj => by
 obtain ⟨b, off, e, hc⟩ := h j hj
 exact ⟨b, off, e, below_cell hb hc⟩
theorem StrsAt.nil (w : World) (a : Option Addr) : StrsAt w a [] := fun _ hj => absurd hj (Nat.not_lt_zero _)
def RetStrs (w : World) (l : List ByteArray) (e : Ending) (w' : World) : Prop :=
 ∃ a cap, e = .returned (.slice a l.length cap) ∧ StrsAt w' a l ∧ Below w.heap.size w w'
def RetFresh (w : World) (l : List ByteArray) (e : Ending) (w' : World) : Prop :=
 ∃ g cap, e = .returned (.slice (some ⟨g, 0, none⟩) l.length cap) ∧ w.heap.size ≤ g ∧ g < w'.heap.size ∧ StrsAt w' (some ⟨g, 0, none⟩) l ∧ Below w.heap.size w w'
theorem Tryz.info9 : (Tryz.prog.info? 9).map (fun i => (i.zero, i.size, i.bytes)) = some (some (.string ⟨#[]⟩), 1, 16) := by kernel_rfl
def Acc (w0 w : World) (v : Value) (l : List ByteArray) : Prop :=
 w.ownsRow w0.heap.size 9 1 v l.length (l.map Value.string) ∧ Below w0.heap.size w0 w
def Aside (w : World) (v : Value) (P : Nat) (parts : List ByteArray) : Prop :=
 StrsAt w (some ⟨P, 0, none⟩) parts ∧ v.ownBlock ≠ some P ∧ P < w.heap.size
theorem Acc.start (w : World) : Acc w w (.slice none 0 0) [] := ⟨World.ownsRow_nil _ _ _ _, Below.refl _ _⟩
theorem ownsRow_keep {w w' : World} {base : Nat} {e : TypeId} {size n : Nat} {v : Value} {xs : List Value} (h : w.ownsRow base e size v n xs) (hb : Below w.heap.size w w') : w'.ownsRow base e size v n xs := by
 obtain ⟨h1, h2⟩ := h
 refine ⟨h1, ?_⟩
 rcases h2 with h2 | ⟨g, cap, cur, hv, hg, hc, r⟩
 · exact .inl h2
 · have hlt : g < w.heap.size := by
    rcases Nat.lt_or_ge g w.heap.size with h' | h'
    · exact h'
    · rw [Array.getElem?_eq_none h'] at hc; cases hc
   exact .inr ⟨g, cap, cur, hv, hg, by rw [hb.block g hlt]; exact hc, r⟩
theorem Acc.keep {w0 w w' : World} {v : Value} {l : List ByteArray} (h : Acc w0 w v l) (hb : Below w.heap.size w w') : Acc w0 w' v l :=
 ⟨ownsRow_keep h.1 hb, h.2.trans (hb.mono h.2.size)⟩
theorem Aside.keep {w w' : World} {v : Value} {P : Nat} {parts : List ByteArray} (h : Aside w v P parts) (hb : Below w.heap.size w w') : Aside w' v P parts :=
 ⟨h.1.keep hb, h.2.1, Nat.lt_of_lt_of_le h.2.2 hb.size⟩
theorem Acc.lt {w0 w : World} {v : Value} {l : List ByteArray} (h : Acc w0 w v l) {k : Nat} (hk : v.ownBlock = some k) : k < w.heap.size := (World.ownsRow.lt h.1 k hk).2
theorem Aside.fresh {w0 w w' : World} {v : Value} {l : List ByteArray} (h : Acc w0 w v l) {P : Nat} {parts : List ByteArray} (hP : w.heap.size ≤ P) (hlt : P < w'.heap.size) (hs : StrsAt w' (some ⟨P, 0, none⟩) parts) : Aside w' v P parts :=
 ⟨hs, fun e => by have := h.lt e; omega, hlt⟩
theorem Acc.shape {w0 w : World} {v : Value} {l : List ByteArray} (h : Acc w0 w v l) : ∃ a cap, v = .slice a l.length cap ∧ StrsAt w a l := by
 obtain ⟨⟨h1, h2⟩, _⟩ := h
 rcases h2 with ⟨rfl, h2⟩ | ⟨g, cap, cur, rfl, hg, hc, hcap, hm, hsz, ht⟩
 · have : l = [] := List.eq_nil_of_length_eq_zero h2
   subst this
   exact ⟨none, 0, rfl, StrsAt.nil _ _⟩
 · refine ⟨_, cap, rfl, fun j hj => ⟨g, 0, rfl, ?_⟩⟩
   have e : cur.toList[j]? = some (Value.string l[j]) := by
    have := congrArg (fun x => x[j]?) ht
    simp only [Nat.mul_one] at this
    rw [List.getElem?_take_of_lt hj, List.getElem?_map, List.getElem?_eq_getElem hj] at this
    exact this
   simp only [World.cell?, hc, Nat.zero_add]
   simpa using e
def RetAcc (w : World) (l : List ByteArray) (e : Ending) (w' : World) : Prop := ∃ v, e = .returned v ∧ Acc w w' v l
theorem RetAcc.strs {w w' : World} {l : List ByteArray} {e : Ending} (h : RetAcc w l e w') : RetStrs w l e w' := by
 obtain ⟨v, he, h⟩ := h
 obtain ⟨a, cap, rfl, hs⟩ := h.shape
 exact ⟨a, cap, he, hs, h.2⟩
theorem Acc.lift {w w1 w2 : World} {v : Value} {l : List ByteArray} (h : Below w.heap.size w w1) (k : Acc w1 w2 v l) : Acc w w2 v l := by
 refine ⟨?_, below_trans h k.2⟩
 obtain ⟨⟨h1, h2⟩, _⟩ := k
 refine ⟨h1, ?_⟩
 rcases h2 with h2 | ⟨g, cap, cur, hv, hg, r⟩
 · exact .inl h2
 · exact .inr ⟨g, cap, cur, hv, Nat.le_trans h.size hg, r⟩
theorem Acc.isNew {w0 w : World} {v : Value} {l : List ByteArray} (h : Acc w0 w v l) (hne : l ≠ []) : ∃ g cap, v = .slice (some ⟨g, 0, none⟩) l.length cap ∧ w0.heap.size ≤ g ∧ g < w.heap.size ∧ StrsAt w (some ⟨g, 0, none⟩) l := by
 obtain ⟨a, cap, hv, hs⟩ := h.shape
 have hpos : 0 < l.length := by cases l with
  | nil => exact absurd rfl hne
  | cons _ _ => simp
 obtain ⟨⟨h1, h2⟩, hb⟩ := h
 rcases h2 with ⟨_, h2⟩ | ⟨g, cap', cur, hv', hg, hc, _⟩
 · omega
 · rw [hv] at hv'; cases hv'
   have hlt : g < w.heap.size := by
    rcases Nat.lt_or_ge g w.heap.size with h' | h'
    · exact h'
    · rw [Array.getElem?_eq_none h'] at hc; cases hc
   exact ⟨g, cap, hv, hg, hlt, hs⟩
section
variable {ops : Array Oper} {rest : List Oper} {o : Oper} {act : Act} {Q : Exit → Act → World → Prop}
theorem wpList_append_acc (w : World) (hgd : o.guard = none) (s x : Operand) (ho : o.op = .call { callee := .builtin .append, args := #[s, x], argTypes := #[45, 45] })
  {w0 : World} {v : Value} {l : List ByteArray} (hs : act.eval s = v) (h : Acc w0 w v l) {b c : Nat} (hx : act.eval x = .slice (some ⟨b, 0, none⟩) 1 c) {y : ByteArray} (hy : w.cell? ⟨b, 0, none⟩ = some (.string y))
  (hn : l.length + 1 ≤ 8796093022208)
  (K : ∀ g cap w', Acc w0 w' (.slice (some ⟨g, 0, none⟩) (l.length + 1) cap) (l ++ [y]) → (∀ P parts, Aside w v P parts → Aside w' (.slice (some ⟨g, 0, none⟩) (l.length + 1) cap) P parts) →
   wpList Tryz.prog ops Q rest (act.put o.dst (.slice (some ⟨g, 0, none⟩) (l.length + 1) cap)) w') : wpList Tryz.prog ops Q (o :: rest) act w := by
 obtain ⟨i0, hi, hz0, hz1, hz2⟩ := info_parts Tryz.info9
 refine wpList_append_lies w hgd s x 45 ho w0.heap.size 9 i0 (.string ⟨#[]⟩) 1 16 Tryz.underlying45 hi hz0 hz1 hz2 rfl (by decide) v l.length (l.map Value.string) hs h.1 ⟨b, 0, none⟩ 1 c [.string y] hx rfl ?_ ?_ (by decide) (by unfold maxLen; omega) (by omega) h.2.size w.heap.size rfl ?_
 · intro j u hj
   match j, hj with
   | 0, hj => simp at hj; subst hj; rw [Addr.add_lit]; exact hy
   | j + 1, hj => simp at hj
 · intro u hu; simp at hu; subst hu; rfl
 · intro g cap w' hown hgrow hg hlt
   have hacc : Acc w0 w' (.slice (some ⟨g, 0, none⟩) (l.length + 1) cap) (l ++ [y]) := by
    refine ⟨by simpa using hown, h.2.grown hgrow h.2.size fun k hk => ?_⟩
    exact (World.ownsRow.lt h.1 k hk).1
   refine K g cap w' hacc (fun P parts hP => ⟨fun j hj => ?_, ?_, ?_⟩)
   · obtain ⟨b', off, e, hc⟩ := hP.1 j hj
     cases e
     exact ⟨P, 0, rfl, hgrow.cell hc (fun e => hP.2.1 e.symm)⟩
   · intro e
     have : g = P := by simpa [Value.ownBlock] using e
     subst this
     rcases hg with hg | hg
     · exact hP.2.1 hg
     · have := hP.2.2; omega
   · exact Nat.lt_of_lt_of_le hP.2.2 hgrow.size
end
end Go.Proofs.YtfghgenboahkkaaGreatDoor
namespace Go.Proofs
open Go.Shelf
def Tryz.lays160_ren : Go.Shelf.Ren := ⟨fun | 160 => 157 | 232 => 185 | 231 => 184 | 227 => 186 | 234 => 188 | 233 => 187 | 236 => 190 | 235 => 189 | 228 => 210 | 271 => 212 | 151 => 211 | 197 => 207 | 120 => 230 | 152 => 229 | 260 => 225 | 137 => 241 | 119 => 242 | 224 => 171 | 225 => 227 | 217 => 226 | 266 => 239 | n => n, fun | 9 => 9 | 4 => 4 | 3 => 3 | 5 => 5 | 117 => 209 | 116 => 208 | 0 => 0 | 124 => 212 | 21 => 21 | 105 => 226 | 46 => 85 | 119 => 237 | 139 => 240 | 138 => 239 | n => n, fun | 3 => 4 | 4 => 5 | n => n⟩
theorem Tryz.lays160 : Go.Proofs.Lays.n160 Tryz.prog Tryz.lays160_ren := {
 mixed := by kernel_rfl
 f119 := Tryz.func242.trans (congrArg some (by kernel_rfl))
 f120 := Tryz.func230.trans (congrArg some (by kernel_rfl))
 f137 := Tryz.func241.trans (congrArg some (by kernel_rfl))
 f151 := Tryz.func211.trans (congrArg some (by kernel_rfl))
 f152 := Tryz.func229.trans (congrArg some (by kernel_rfl))
 f160 := Tryz.func157.trans (congrArg some (by kernel_rfl))
 f197 := Tryz.func207.trans (congrArg some (by kernel_rfl))
 f217 := Tryz.func226.trans (congrArg some (by kernel_rfl))
 f224 := Tryz.func171.trans (congrArg some (by kernel_rfl))
 f225 := Tryz.func227.trans (congrArg some (by kernel_rfl))
 f227 := Tryz.func186.trans (congrArg some (by kernel_rfl))
 f228 := Tryz.func210.trans (congrArg some (by kernel_rfl))
 f231 := Tryz.func184.trans (congrArg some (by kernel_rfl))
 f232 := Tryz.func185.trans (congrArg some (by kernel_rfl))
 f233 := Tryz.func187.trans (congrArg some (by kernel_rfl))
 f234 := Tryz.func188.trans (congrArg some (by kernel_rfl))
 f235 := Tryz.func189.trans (congrArg some (by kernel_rfl))
 f236 := Tryz.func190.trans (congrArg some (by kernel_rfl))
 f260 := Tryz.func225.trans (congrArg some (by kernel_rfl))
 f266 := Tryz.func239.trans (congrArg some (by kernel_rfl))
 f271 := Tryz.func212.trans (congrArg some (by kernel_rfl))
 t0 := Tryz.underlying0
 a0 := Tryz.isAgg0
 z0 := Tryz.sizeOf0
 v0 := Tryz.zeroValue0
 t3 := Tryz.underlying3
 a3 := Tryz.isAgg3
 z3 := Tryz.sizeOf3
 v3 := Tryz.zeroValue3
 t4 := Tryz.underlying4
 a4 := Tryz.isAgg4
 z4 := Tryz.sizeOf4
 v4 := Tryz.zeroValue4
 t5 := Tryz.underlying5
 a5 := Tryz.isAgg5
 z5 := Tryz.sizeOf5
 v5 := Tryz.zeroValue5
 t9 := Tryz.underlying9
 a9 := Tryz.isAgg9
 z9 := Tryz.sizeOf9
 v9 := Tryz.zeroValue9
 t21 := Tryz.underlying21
 a21 := Tryz.isAgg21
 z21 := Tryz.sizeOf21
 v21 := Tryz.zeroValue21
 t46 := Tryz.underlying85
 a46 := Tryz.isAgg85
 z46 := Tryz.sizeOf85
 v46 := Tryz.zeroValue85
 t105 := Tryz.underlying226
 a105 := Tryz.isAgg226
 z105 := Tryz.sizeOf226
 v105 := Tryz.zeroValue226
 t116 := Tryz.underlying208
 a116 := Tryz.isAgg208
 z116 := Tryz.sizeOf208
 t117 := Tryz.underlying209
 a117 := Tryz.isAgg209
 z117 := Tryz.sizeOf209
 v117 := Tryz.zeroValue209
 t119 := Tryz.underlying237
 a119 := Tryz.isAgg237
 z119 := Tryz.sizeOf237
 t124 := Tryz.underlying212
 a124 := Tryz.isAgg212
 z124 := Tryz.sizeOf212
 v124 := Tryz.zeroValue212
 t138 := Tryz.underlying239
 a138 := Tryz.isAgg239
 z138 := Tryz.sizeOf239
 v138 := Tryz.zeroValue239
 t139 := Tryz.underlying240
 a139 := Tryz.isAgg240
 z139 := Tryz.sizeOf240
 v139 := Tryz.zeroValue240
 g3 := by kernel_rfl
 g4 := by kernel_rfl }
def Tryz.lays146_ren : Go.Shelf.Ren := ⟨fun | 146 => 127 | 221 => 156 | 268 => 181 | 138 => 182 | 143 => 183 | 195 => 206 | 197 => 207 | 218 => 208 | 219 => 209 | 260 => 225 | 217 => 226 | 225 => 227 | 224 => 171 | 267 => 228 | 266 => 239 | 314 => 240 | n => n, fun | 9 => 9 | 31 => 45 | 3 => 3 | 4 => 4 | 0 => 0 | 105 => 226 | 21 => 21 | 5 => 5 | 46 => 85 | 119 => 237 | 139 => 240 | 138 => 239 | 146 => 219 | 51 => 215 | n => n, fun | 1 => 0 | 3 => 4 | 4 => 5 | n => n⟩
theorem Tryz.lays146 : Go.Proofs.Lays.n146 Tryz.prog Tryz.lays146_ren := {
 mixed := by kernel_rfl
 f138 := Tryz.func182.trans (congrArg some (by kernel_rfl))
 f143 := Tryz.func183.trans (congrArg some (by kernel_rfl))
 f146 := Tryz.func127.trans (congrArg some (by kernel_rfl))
 f195 := Tryz.func206.trans (congrArg some (by kernel_rfl))
 f197 := Tryz.func207.trans (congrArg some (by kernel_rfl))
 f217 := Tryz.func226.trans (congrArg some (by kernel_rfl))
 f218 := Tryz.func208.trans (congrArg some (by kernel_rfl))
 f219 := Tryz.func209.trans (congrArg some (by kernel_rfl))
 f221 := Tryz.func156.trans (congrArg some (by kernel_rfl))
 f224 := Tryz.func171.trans (congrArg some (by kernel_rfl))
 f225 := Tryz.func227.trans (congrArg some (by kernel_rfl))
 f260 := Tryz.func225.trans (congrArg some (by kernel_rfl))
 f266 := Tryz.func239.trans (congrArg some (by kernel_rfl))
 f267 := Tryz.func228.trans (congrArg some (by kernel_rfl))
 f268 := Tryz.func181.trans (congrArg some (by kernel_rfl))
 f314 := Tryz.func240.trans (congrArg some (by kernel_rfl))
 t0 := Tryz.underlying0
 a0 := Tryz.isAgg0
 z0 := Tryz.sizeOf0
 v0 := Tryz.zeroValue0
 t3 := Tryz.underlying3
 a3 := Tryz.isAgg3
 z3 := Tryz.sizeOf3
 v3 := Tryz.zeroValue3
 t4 := Tryz.underlying4
 a4 := Tryz.isAgg4
 z4 := Tryz.sizeOf4
 v4 := Tryz.zeroValue4
 t5 := Tryz.underlying5
 a5 := Tryz.isAgg5
 z5 := Tryz.sizeOf5
 v5 := Tryz.zeroValue5
 t9 := Tryz.underlying9
 a9 := Tryz.isAgg9
 z9 := Tryz.sizeOf9
 v9 := Tryz.zeroValue9
 t21 := Tryz.underlying21
 a21 := Tryz.isAgg21
 z21 := Tryz.sizeOf21
 v21 := Tryz.zeroValue21
 t31 := Tryz.underlying45
 a31 := Tryz.isAgg45
 z31 := Tryz.sizeOf45
 v31 := Tryz.zeroValue45
 t46 := Tryz.underlying85
 a46 := Tryz.isAgg85
 z46 := Tryz.sizeOf85
 v46 := Tryz.zeroValue85
 t51 := Tryz.underlying215
 a51 := Tryz.isAgg215
 z51 := Tryz.sizeOf215
 v51 := Tryz.zeroValue215
 t105 := Tryz.underlying226
 a105 := Tryz.isAgg226
 z105 := Tryz.sizeOf226
 v105 := Tryz.zeroValue226
 t119 := Tryz.underlying237
 a119 := Tryz.isAgg237
 z119 := Tryz.sizeOf237
 t138 := Tryz.underlying239
 a138 := Tryz.isAgg239
 z138 := Tryz.sizeOf239
 v138 := Tryz.zeroValue239
 t139 := Tryz.underlying240
 a139 := Tryz.isAgg240
 z139 := Tryz.sizeOf240
 v139 := Tryz.zeroValue240
 t146 := Tryz.underlying219
 a146 := Tryz.isAgg219
 z146 := Tryz.sizeOf219
 v146 := Tryz.zeroValue219
 g1 := by kernel_rfl
 g3 := by kernel_rfl
 g4 := by kernel_rfl }
def Tryz.laysM146_ren : Go.Shelf.Ren := ⟨fun | 146 => 127 | 221 => 156 | 268 => 181 | 138 => 182 | 143 => 183 | 195 => 206 | 197 => 207 | 218 => 208 | 219 => 209 | 260 => 225 | 217 => 226 | 225 => 227 | 224 => 171 | 267 => 228 | 266 => 239 | 314 => 240 | n => n, fun | 9 => 9 | 31 => 45 | 3 => 3 | 4 => 4 | 0 => 0 | 105 => 226 | 21 => 21 | 5 => 5 | 46 => 85 | 119 => 237 | 139 => 240 | 138 => 239 | 146 => 219 | 51 => 215 | n => n, fun | 1 => 0 | 3 => 4 | 4 => 5 | n => n⟩
theorem Tryz.laysM146 : Go.Proofs.LaysM.n146 Tryz.prog Tryz.laysM146_ren := {
 mixed := by kernel_rfl
 f138 := Tryz.func182.trans (congrArg some (by kernel_rfl))
 f143 := Tryz.func183.trans (congrArg some (by kernel_rfl))
 f146 := Tryz.func127.trans (congrArg some (by kernel_rfl))
 f195 := Tryz.func206.trans (congrArg some (by kernel_rfl))
 f197 := Tryz.func207.trans (congrArg some (by kernel_rfl))
 f217 := Tryz.func226.trans (congrArg some (by kernel_rfl))
 f218 := Tryz.func208.trans (congrArg some (by kernel_rfl))
 f219 := Tryz.func209.trans (congrArg some (by kernel_rfl))
 f221 := Tryz.func156.trans (congrArg some (by kernel_rfl))
 f224 := Tryz.func171.trans (congrArg some (by kernel_rfl))
 f225 := Tryz.func227.trans (congrArg some (by kernel_rfl))
 f260 := Tryz.func225.trans (congrArg some (by kernel_rfl))
 f266 := Tryz.func239.trans (congrArg some (by kernel_rfl))
 f267 := Tryz.func228.trans (congrArg some (by kernel_rfl))
 f268 := Tryz.func181.trans (congrArg some (by kernel_rfl))
 f314 := Tryz.func240.trans (congrArg some (by kernel_rfl))
 t0 := Tryz.underlying0
 a0 := Tryz.isAgg0
 z0 := Tryz.sizeOf0
 v0 := Tryz.zeroValue0
 t3 := Tryz.underlying3
 a3 := Tryz.isAgg3
 z3 := Tryz.sizeOf3
 v3 := Tryz.zeroValue3
 t4 := Tryz.underlying4
 a4 := Tryz.isAgg4
 z4 := Tryz.sizeOf4
 v4 := Tryz.zeroValue4
 t5 := Tryz.underlying5
 a5 := Tryz.isAgg5
 z5 := Tryz.sizeOf5
 v5 := Tryz.zeroValue5
 t9 := Tryz.underlying9
 a9 := Tryz.isAgg9
 z9 := Tryz.sizeOf9
 v9 := Tryz.zeroValue9
 t21 := Tryz.underlying21
 a21 := Tryz.isAgg21
 z21 := Tryz.sizeOf21
 v21 := Tryz.zeroValue21
 t31 := Tryz.underlying45
 a31 := Tryz.isAgg45
 z31 := Tryz.sizeOf45
 v31 := Tryz.zeroValue45
 t46 := Tryz.underlying85
 a46 := Tryz.isAgg85
 z46 := Tryz.sizeOf85
 v46 := Tryz.zeroValue85
 t51 := Tryz.underlying215
 a51 := Tryz.isAgg215
 z51 := Tryz.sizeOf215
 v51 := Tryz.zeroValue215
 t105 := Tryz.underlying226
 a105 := Tryz.isAgg226
 z105 := Tryz.sizeOf226
 v105 := Tryz.zeroValue226
 t119 := Tryz.underlying237
 a119 := Tryz.isAgg237
 z119 := Tryz.sizeOf237
 t138 := Tryz.underlying239
 a138 := Tryz.isAgg239
 z138 := Tryz.sizeOf239
 v138 := Tryz.zeroValue239
 t139 := Tryz.underlying240
 a139 := Tryz.isAgg240
 z139 := Tryz.sizeOf240
 v139 := Tryz.zeroValue240
 t146 := Tryz.underlying219
 a146 := Tryz.isAgg219
 z146 := Tryz.sizeOf219
 v146 := Tryz.zeroValue219
 g1 := by kernel_rfl
 g3 := by kernel_rfl
 g4 := by kernel_rfl
 i0 := by kernel_rfl
 i3 := by kernel_rfl
 i4 := by kernel_rfl
 i5 := by kernel_rfl
 i9 := by kernel_rfl
 i21 := by kernel_rfl
 i31 := by kernel_rfl
 i46 := by kernel_rfl
 i51 := by kernel_rfl
 i105 := by kernel_rfl
 i138 := by kernel_rfl
 i139 := by kernel_rfl
 i146 := by kernel_rfl
 m1 := by kernel_rfl
 s1_3 := fun w h => Go.Proofs.cell_of_shapedOpen_int (zero := #[.int .i64 0]) (t := 3) h (of_decide_eq_true (by kernel_rfl)) (by kernel_rfl) rfl (by kernel_rfl) (by kernel_rfl) Tryz.underlying3
 m3 := by kernel_rfl
 m4 := by kernel_rfl }
def Tryz.laysM173_ren : Go.Shelf.Ren := ⟨fun | 173 => 104 | 246 => 133 | 283 => 160 | 284 => 161 | 285 => 162 | 286 => 163 | 129 => 192 | 317 => 191 | 318 => 193 | 319 => 194 | 320 => 195 | 337 => 213 | 338 => 214 | n => n, fun | 2 => 2 | 3 => 3 | 9 => 9 | 4 => 4 | 171 => 186 | 0 => 0 | 53 => 143 | 37 => 29 | 5 => 5 | 173 => 189 | 212 => 214 | 51 => 215 | 20 => 20 | 213 => 216 | 46 => 85 | 232 => 235 | 233 => 236 | n => n, fun | 17 => 1 | 18 => 2 | 19 => 3 | n => n⟩
theorem Tryz.laysM173 : Go.Proofs.LaysM.n173 Tryz.prog Tryz.laysM173_ren := {
 mixed := by kernel_rfl
 f129 := Tryz.func192.trans (congrArg some (by kernel_rfl))
 f173 := Tryz.func104.trans (congrArg some (by kernel_rfl))
 f246 := Tryz.func133.trans (congrArg some (by kernel_rfl))
 f283 := Tryz.func160.trans (congrArg some (by kernel_rfl))
 f284 := Tryz.func161.trans (congrArg some (by kernel_rfl))
 f285 := Tryz.func162.trans (congrArg some (by kernel_rfl))
 f286 := Tryz.func163.trans (congrArg some (by kernel_rfl))
 f317 := Tryz.func191.trans (congrArg some (by kernel_rfl))
 f318 := Tryz.func193.trans (congrArg some (by kernel_rfl))
 f319 := Tryz.func194.trans (congrArg some (by kernel_rfl))
 f320 := Tryz.func195.trans (congrArg some (by kernel_rfl))
 f337 := Tryz.func213.trans (congrArg some (by kernel_rfl))
 f338 := Tryz.func214.trans (congrArg some (by kernel_rfl))
 t0 := Tryz.underlying0
 a0 := Tryz.isAgg0
 z0 := Tryz.sizeOf0
 v0 := Tryz.zeroValue0
 t2 := Tryz.underlying2
 a2 := Tryz.isAgg2
 z2 := Tryz.sizeOf2
 v2 := Tryz.zeroValue2
 t3 := Tryz.underlying3
 a3 := Tryz.isAgg3
 z3 := Tryz.sizeOf3
 v3 := Tryz.zeroValue3
 t4 := Tryz.underlying4
 a4 := Tryz.isAgg4
 z4 := Tryz.sizeOf4
 v4 := Tryz.zeroValue4
 t5 := Tryz.underlying5
 a5 := Tryz.isAgg5
 z5 := Tryz.sizeOf5
 v5 := Tryz.zeroValue5
 t9 := Tryz.underlying9
 a9 := Tryz.isAgg9
 z9 := Tryz.sizeOf9
 v9 := Tryz.zeroValue9
 t20 := Tryz.underlying20
 a20 := Tryz.isAgg20
 z20 := Tryz.sizeOf20
 v20 := Tryz.zeroValue20
 t37 := Tryz.underlying29
 a37 := Tryz.isAgg29
 z37 := Tryz.sizeOf29
 v37 := Tryz.zeroValue29
 t46 := Tryz.underlying85
 a46 := Tryz.isAgg85
 z46 := Tryz.sizeOf85
 v46 := Tryz.zeroValue85
 t51 := Tryz.underlying215
 a51 := Tryz.isAgg215
 z51 := Tryz.sizeOf215
 v51 := Tryz.zeroValue215
 t53 := Tryz.underlying143
 a53 := Tryz.isAgg143
 z53 := Tryz.sizeOf143
 v53 := Tryz.zeroValue143
 t171 := Tryz.underlying186
 a171 := Tryz.isAgg186
 z171 := Tryz.sizeOf186
 v171 := Tryz.zeroValue186
 t173 := Tryz.underlying189
 a173 := Tryz.isAgg189
 z173 := Tryz.sizeOf189
 v173 := Tryz.zeroValue189
 t212 := Tryz.underlying214
 a212 := Tryz.isAgg214
 z212 := Tryz.sizeOf214
 v212 := Tryz.zeroValue214
 t213 := Tryz.underlying216
 a213 := Tryz.isAgg216
 z213 := Tryz.sizeOf216
 t232 := Tryz.underlying235
 a232 := Tryz.isAgg235
 z232 := Tryz.sizeOf235
 v232 := Tryz.zeroValue235
 t233 := Tryz.underlying236
 a233 := Tryz.isAgg236
 z233 := Tryz.sizeOf236
 v233 := Tryz.zeroValue236
 g17 := by kernel_rfl
 g18 := by kernel_rfl
 g19 := by kernel_rfl
 i0 := by kernel_rfl
 i2 := by kernel_rfl
 i3 := by kernel_rfl
 i4 := by kernel_rfl
 i5 := by kernel_rfl
 i9 := by kernel_rfl
 i20 := by kernel_rfl
 i37 := by kernel_rfl
 i46 := by kernel_rfl
 i51 := by kernel_rfl
 i53 := by kernel_rfl
 i171 := by kernel_rfl
 i173 := by kernel_rfl
 i212 := by kernel_rfl
 i232 := by kernel_rfl
 i233 := by kernel_rfl
 m17 := by kernel_rfl
 m18 := by kernel_rfl
 m19 := by kernel_rfl }
def Tryz.lays156_ren : Go.Shelf.Ren := ⟨fun | 156 => 69 | 165 => 98 | 166 => 99 | 169 => 100 | 240 => 129 | 241 => 130 | 276 => 158 | 277 => 159 | n => n, fun | 31 => 45 | 9 => 9 | 3 => 3 | 4 => 4 | 0 => 0 | 20 => 20 | 72 => 137 | 76 => 141 | 70 => 135 | 37 => 29 | 75 => 140 | 127 => 168 | 164 => 184 | 5 => 5 | 80 => 76 | n => n, fun | n => n⟩
theorem Tryz.lays156 : Go.Proofs.Lays.n156 Tryz.prog Tryz.lays156_ren := {
 mixed := by kernel_rfl
 f156 := Tryz.func69.trans (congrArg some (by kernel_rfl))
 f165 := Tryz.func98.trans (congrArg some (by kernel_rfl))
 f166 := Tryz.func99.trans (congrArg some (by kernel_rfl))
 f169 := Tryz.func100.trans (congrArg some (by kernel_rfl))
 f240 := Tryz.func129.trans (congrArg some (by kernel_rfl))
 f241 := Tryz.func130.trans (congrArg some (by kernel_rfl))
 f276 := Tryz.func158.trans (congrArg some (by kernel_rfl))
 f277 := Tryz.func159.trans (congrArg some (by kernel_rfl))
 t0 := Tryz.underlying0
 a0 := Tryz.isAgg0
 z0 := Tryz.sizeOf0
 v0 := Tryz.zeroValue0
 t3 := Tryz.underlying3
 a3 := Tryz.isAgg3
 z3 := Tryz.sizeOf3
 v3 := Tryz.zeroValue3
 t4 := Tryz.underlying4
 a4 := Tryz.isAgg4
 z4 := Tryz.sizeOf4
 v4 := Tryz.zeroValue4
 t9 := Tryz.underlying9
 a9 := Tryz.isAgg9
 z9 := Tryz.sizeOf9
 v9 := Tryz.zeroValue9
 t20 := Tryz.underlying20
 a20 := Tryz.isAgg20
 z20 := Tryz.sizeOf20
 v20 := Tryz.zeroValue20
 t31 := Tryz.underlying45
 a31 := Tryz.isAgg45
 z31 := Tryz.sizeOf45
 v31 := Tryz.zeroValue45
 t37 := Tryz.underlying29
 a37 := Tryz.isAgg29
 z37 := Tryz.sizeOf29
 v37 := Tryz.zeroValue29
 t70 := Tryz.underlying135
 a70 := Tryz.isAgg135
 z70 := Tryz.sizeOf135
 v70 := Tryz.zeroValue135
 t72 := Tryz.underlying137
 a72 := Tryz.isAgg137
 z72 := Tryz.sizeOf137
 v72 := Tryz.zeroValue137
 t75 := Tryz.underlying140
 a75 := Tryz.isAgg140
 z75 := Tryz.sizeOf140
 v75 := Tryz.zeroValue140
 t76 := Tryz.underlying141
 a76 := Tryz.isAgg141
 z76 := Tryz.sizeOf141
 v76 := Tryz.zeroValue141
 t127 := Tryz.underlying168
 a127 := Tryz.isAgg168
 z127 := Tryz.sizeOf168
 v127 := Tryz.zeroValue168
 t164 := Tryz.underlying184
 a164 := Tryz.isAgg184
 z164 := Tryz.sizeOf184
 v164 := Tryz.zeroValue184 }
end Go.Proofs
namespace Go.Proofs.YtfghgenboahkkaaGreatDoor
open Go.RowKit
set_option maxHeartbeats 400000 in
theorem fold_any (a b : ByteArray) (w : World) (ha : a.size ≤ maxLen) (hb : b.size ≤ maxLen) :
  Calls Tryz.prog 96 #[.string a, .string b] w fun e w' => e = .returned (.bool (foldS a b)) ∧ Below w.heap.size w w' := by
 go_enter Tryz.func96, Tryz.ntmps96
 go_wp2_with fail
 refine (lower_any a _ ha).mono ?_
 rintro e w1 ⟨rfl, hb1⟩
 go_wp2_with fail
 refine (lower_any b _ hb).mono ?_
 rintro e w2 ⟨rfl, hb2⟩
 go_wp2_with fail
 go_ret
 exact ⟨ret_bool rfl, below_trans hb1 hb2⟩
set_option maxHeartbeats 400000 in
theorem refFold_any (a b : ByteArray) (w : World) (ha : a.size ≤ maxLen) (hb : b.size ≤ maxLen) :
  Calls Tryz.prog 37 #[.string a, .string b] w fun e w' => e = .returned (.bool (foldS a b)) ∧ Below w.heap.size w w' := by
 go_enter Tryz.func37, Tryz.ntmps37
 go_wp2_with fail
 refine (refLower_any a _ ha).mono ?_
 rintro e w1 ⟨rfl, hb1⟩
 go_wp2_with fail
 refine (refLower_any b _ hb).mono ?_
 rintro e w2 ⟨rfl, hb2⟩
 go_wp2_with fail
 go_ret
 exact ⟨ret_bool rfl, below_trans hb1 hb2⟩
theorem trimLib_any (s : ByteArray) (w : World) (hs : s.size ≤ maxLen) :
  Calls Tryz.prog 157 #[.string s, .string ⟨#[32, 9]⟩] w fun e w' => e = .returned (.string (trimBA s)) ∧ Below w.heap.size w w' :=
 (Any.strings_Trim_laid Tryz.lays160 (by kernel_rfl) s ⟨#[32, 9]⟩ w hs (by decide) (ascii_of_all (by decide))).mono fun _ _ ⟨he, hw⟩ => ⟨he, hw⟩
set_option maxHeartbeats 400000 in
theorem trim_any (s : ByteArray) (w : World) (hs : s.size ≤ maxLen) :
  Calls Tryz.prog 128 #[.string s] w fun e w' => e = .returned (.string (trimBA s)) ∧ Below w.heap.size w w' := by
 go_enter Tryz.func128, Tryz.ntmps128
 go_wp2_with fail
 refine (trimLib_any s _ hs).mono ?_
 rintro e w1 ⟨rfl, hb1⟩
 go_wp2_with fail
 go_ret
 exact ⟨rfl, hb1⟩
set_option maxHeartbeats 400000 in
theorem blank_any (c : UInt8) (w : World) :
  Calls Tryz.prog 125 #[.int .u8 c.toNat] w fun e w' => e = .returned (.bool (blankB c)) ∧ w = w' := by
 have h0 : blankB c = (((c.toNat : Int) == 32) || ((c.toNat : Int) == 9)) := by
  unfold blankB blanks
  rw [Bool.eq_iff_iff]
  simp only [List.contains_cons, List.contains_nil, Bool.or_false, Bool.or_eq_true, beq_iff_eq, ← UInt8.toNat_inj]
  have h1 : (32 : UInt8).toNat = 32 := rfl
  have h2 : (9 : UInt8).toNat = 9 := rfl
  omega
 have H0 := Lib.hid h0
 clear h0
 go_enter Tryz.func125, Tryz.ntmps125
 go_wp2
 all_goals go_ret
 all_goals exact ⟨ret_bool (by rw [H0.out]; try simp [*]), rfl⟩
def strLen : Value → Nat | .string s => s.size | _ => 0
set_option maxHeartbeats 800000 in
theorem refTrim_any (s : ByteArray) (w : World) (hs : s.size ≤ maxLen) :
  Calls Tryz.prog 93 #[.string s] w fun e w' => e = .returned (.string (trimBA s)) ∧ w = w' := by
 unfold maxLen at hs
 go_enter Tryz.func93, Tryz.ntmps93
 go_wp2
 go_loop [0] (fun v => ∃ t : ByteArray, v = .string t ∧ t.size ≤ s.size ∧ Hid (t.data.toList.dropWhile blankB = s.data.toList.dropWhile blankB)) (fun v => strLen v)
 case atStart => exact ⟨s, rfl, Nat.le_refl _, Lib.hid rfl⟩
 case round =>
  obtain ⟨t, rfl, hts, HT⟩ := hrel
  by_cases hgo : ∃ h : 0 < t.size, blankB t[0] = true
  · obtain ⟨hlt, hb⟩ := hgo
    have HB := Lib.hid hb
    have hsz : (t.extract 1 t.size).size = t.size - 1 := by simp
    have HS := Lib.hid hsz
    clear hsz
    go_wp2_with (go_at_call 125; refine (blank_any _ _).mono ?_; rintro e w' ⟨rfl, rfl⟩)
    go_round
    case rel => exact ⟨_, rfl, by rw [HS.out]; omega, Lib.hid (by rw [drop_step t hlt HB.out]; exact HT.out)⟩
    case measure => simp only [strLen]; rw [HS.out]; omega
  · have hE : t.data.toList = s.data.toList.dropWhile blankB := by
     rw [← HT.out]; symm; apply drop_end
     intro h; by_cases hb : blankB t[0] = true
     · exact absurd ⟨h, hb⟩ hgo
     · simpa using hb
    have HE := Lib.hid hE
    clear hE HT
    have hcase : ¬ 0 < t.size ∨ ∃ h : 0 < t.size, blankB t[0] = false := by
     by_cases h : 0 < t.size
     · right; exact ⟨h, by by_cases hb : blankB t[0] = true; exact absurd ⟨h, hb⟩ hgo; simpa using hb⟩
     · left; exact h
    clear hgo
    rcases hcase with hz | ⟨hlt, hb⟩
    all_goals
     go_wp2_with (go_at_call 125; refine (blank_any _ _).mono ?_; rintro e w' ⟨rfl, rfl⟩)
     go_loop [0] (fun v => ∃ t' : ByteArray, v = .string t' ∧ t'.size ≤ s.size ∧ Hid (rdrop blankB t'.data.toList = rdrop blankB t.data.toList)) (fun v => strLen v)
     case atStart => exact ⟨t, rfl, hts, Lib.hid rfl⟩
     case round =>
      obtain ⟨t', rfl, hts', HT'⟩ := hrel
      by_cases hgo : ∃ h : 0 < t'.size, blankB t'[t'.size - 1] = true
      · obtain ⟨hlt', hb'⟩ := hgo
        have HB' := Lib.hid hb'
        have hsz : (t'.extract 0 (t'.size - 1)).size = t'.size - 1 := by simp
        have HS := Lib.hid hsz
        clear hsz
        go_wp2_with (go_at_call 125; refine (blank_any _ _).mono ?_; rintro e w' ⟨rfl, rfl⟩)
        go_round
        case rel => exact ⟨_, rfl, by rw [HS.out]; omega, Lib.hid (by rw [rdrop_step t' hlt' HB'.out]; exact HT'.out)⟩
        case measure => simp only [strLen]; rw [HS.out]; omega
      · have hE' : t'.data.toList = trimL s.data.toList := by
         unfold trimL
         rw [trim_comm, ← HE.out, ← HT'.out]; symm; apply rdrop_end
         intro h; by_cases hb : blankB t'[t'.size - 1] = true
         · exact absurd ⟨h, hb⟩ hgo
         · simpa using hb
        have HE' := Lib.hid hE'
        clear hE' HT'
        have hcase : ¬ 0 < t'.size ∨ ∃ h : 0 < t'.size, blankB t'[t'.size - 1] = false := by
         by_cases h : 0 < t'.size
         · right; exact ⟨h, by by_cases hb : blankB t'[t'.size - 1] = true; exact absurd ⟨h, hb⟩ hgo; simpa using hb⟩
         · left; exact h
        clear hgo
        rcases hcase with hz' | ⟨hlt', hb'⟩
        all_goals
         go_wp2_with (go_at_call 125; refine (blank_any _ _).mono ?_; rintro e w' ⟨rfl, rfl⟩)
         go_ret
         exact ⟨ret_str (ba_ext (by rw [trimBA_list]; exact HE'.out)), rfl⟩
def valB (c : UInt8) : Bool := decide ((c.toNat : Int) = 9) || (decide (32 ≤ (c.toNat : Int)) && !decide ((c.toNat : Int) = 127))
def visS (s : ByteArray) : Bool := s.data.toList.all valB
def valS (s : ByteArray) : Bool := visS s && ((trimBA s).toList == s.toList)
end Go.Proofs.YtfghgenboahkkaaGreatDoor
namespace Go.Proofs.YtfghgenboahkkaaGreatDoor
open Go
def front (p : List UInt8) : List (List UInt8) → List (List UInt8)
 | [] => [p]
 | h :: r => (p ++ h) :: r
def splitL (c : UInt8) : List UInt8 → List (List UInt8)
 | [] => [[]]
 | b :: t => if b = c then [] :: splitL c t else front [b] (splitL c t)
theorem splitL_ne (c : UInt8) : ∀ l, splitL c l ≠ []
 | [] => by simp [splitL]
 | b :: t => by
  unfold splitL; split
  · simp
  · cases splitL c t <;> simp [front]
theorem front_nil (X : List (List UInt8)) (h : X ≠ []) : front [] X = X := by cases X with
 | nil => exact absurd rfl h
 | cons a r => simp [front]
theorem front_front (p q : List UInt8) (X : List (List UInt8)) : front p (front q X) = front (p ++ q) X := by cases X <;> simp [front]
theorem index_cons_ne (b c : UInt8) (l : List UInt8) (h : b ≠ c) : Lib.index (b :: l) [c] = if Lib.index l [c] == -1 then -1 else Lib.index l [c] + 1 := by
 rw [Lib.index]
 have : (List.isPrefixOf [c] (b :: l)) = false := by simp [List.isPrefixOf]; exact fun e => h e.symm
 rw [this]; rfl
theorem index_cons_eq (c : UInt8) (l : List UInt8) : Lib.index (c :: l) [c] = 0 := by
 rw [Lib.index]
 have : (List.isPrefixOf [c] (c :: l)) = true := by simp [List.isPrefixOf]
 rw [this]; rfl
theorem splitK_eq (c : UInt8) : ∀ l : List UInt8, Lib.splitK [c] 0 (Lib.count l [c]) l = splitL c l
 | [] => rfl
 | b :: t => by
  have ih := splitK_eq c t
  by_cases h : b = c
  · subst h
    rw [Lib.count_cons_eq, Nat.add_comm, Lib.splitK, index_cons_eq, splitL, if_pos rfl]
    rw [if_neg (by decide)]
    simp only [Int.toNat_zero, List.take_zero, Nat.add_zero, List.length_cons, List.length_nil, Nat.zero_add]
    rw [List.drop_succ_cons, List.drop_zero, ih]
  · rw [Lib.count_cons_ne b c t h, splitL, if_neg h, ← ih]
    cases hk : Lib.count t [c] with
    | zero => rfl
    | succ k =>
     have hm : ¬ Lib.index t [c] = -1 := fun e => by rw [Lib.count_miss e] at hk; cases hk
     have hge := Lib.index_ge t [c]
     rw [Lib.splitK, Lib.splitK, index_cons_ne b c t h]
     have hA : (Lib.index t [c] == -1) = false := by simpa using hm
     have hB : (Lib.index t [c] + 1 == -1) = false := by rw [beq_eq_false_iff_ne]; omega
     simp only [hA, hB, Bool.false_eq_true, if_false]
     obtain ⟨i, hi⟩ : ∃ i : Nat, Lib.index t [c] = i := ⟨(Lib.index t [c]).toNat, by omega⟩
     rw [hi]
     have e1 : ((i : Int) + 1).toNat = i + 1 := by omega
     have e2 : (i : Int).toNat = i := by omega
     rw [e1, e2]
     simp [front]
def ofL (l : List UInt8) : ByteArray := ⟨l.toArray⟩
theorem ofL_list (l : List UInt8) : (ofL l).data.toList = l := by simp [ofL]
theorem ofL_of (s : ByteArray) : ofL s.data.toList = s := ba_ext (ofL_list _)
def splitS (c : UInt8) (s : ByteArray) : List ByteArray := (splitL c s.data.toList).map ofL
theorem splitB_eq (c : UInt8) (s : ByteArray) : Lib.splitB ⟨#[c]⟩ 0 (Lib.countB s ⟨#[c]⟩) s = splitS c s := by
 have h := Lib.splitB_data ⟨#[c]⟩ 0 (Lib.countB s ⟨#[c]⟩) s
 have e : Lib.splitK (ByteArray.mk #[c]).data.toList 0 (Lib.countB s ⟨#[c]⟩) s.data.toList = splitL c s.data.toList := splitK_eq c s.data.toList
 rw [e] at h
 unfold splitS
 rw [← h, List.map_map]
 have : ∀ L : List ByteArray, L = L.map (ofL ∘ fun x => x.data.toList) := fun L => by
  induction L with
  | nil => rfl
  | cons a t ih => rw [List.map_cons, ← ih]; simp [ofL_of]
 exact this _
def elemsOf (l : List ByteArray) : List ByteArray := (l.map trimBA).filter (fun x => !x.data.toList.isEmpty)
def elemL (s : ByteArray) : List ByteArray := elemsOf (splitS 44 s)
theorem elemsOf_yes (l : List ByteArray) (x : ByteArray) (h : (trimBA x).data.toList.isEmpty = false) : elemsOf (l ++ [x]) = elemsOf l ++ [trimBA x] := by
 unfold elemsOf; rw [List.map_append, List.filter_append]; simp only [List.map_cons, List.map_nil, List.filter, h]; rfl
theorem elemsOf_no (l : List ByteArray) (x : ByteArray) (h : (trimBA x).data.toList.isEmpty = true) : elemsOf (l ++ [x]) = elemsOf l := by
 unfold elemsOf; rw [List.map_append, List.filter_append]; simp only [List.map_cons, List.map_nil, List.filter, h]; simp
def listL (l : List ByteArray) : List ByteArray := l.flatMap elemL
theorem listL_snoc (l : List ByteArray) (x : ByteArray) : listL (l ++ [x]) = listL l ++ elemL x := by
 unfold listL; rw [List.flatMap_append]; simp
end Go.Proofs.YtfghgenboahkkaaGreatDoor
namespace Go.Proofs.YtfghgenboahkkaaGreatDoor
open Go.RowKit
def sameS (x y : List ByteArray) : Bool := decide (x = y)
theorem sameS_len {x y : List ByteArray} (h : ¬ x.length = y.length) : sameS x y = false := by
 unfold sameS; rw [decide_eq_false_iff_not]; intro e; exact h (by rw [e])
theorem sameS_no {x y : List ByteArray} {k : Nat} (h1 : k < x.length) (h2 : k < y.length) (h : ¬ x[k] = y[k]) : sameS x y = false := by
 unfold sameS; rw [decide_eq_false_iff_not]; intro e; subst e; exact h rfl
theorem sameS_yes {x y : List ByteArray} (hl : x.length = y.length) (h : ∀ j (h1 : j < x.length) (h2 : j < y.length), x[j] = y[j]) : sameS x y = true := by
 unfold sameS; rw [decide_eq_true_eq]; exact List.ext_getElem hl h
theorem toList_eq {a b : ByteArray} : (a.toList == b.toList) = decide (a = b) := by
 rw [Bool.eq_iff_iff, beq_iff_eq, decide_eq_true_eq, ByteArray.toList_eq, ByteArray.toList_eq]
 exact ⟨ba_ext, fun h => by rw [h]⟩
set_option maxHeartbeats 400000 in
theorem same_any (x y : List ByteArray) (a b : Option Addr) (ca cb : Nat) (w : World) (hx : StrsAt w a x) (hy : StrsAt w b y) (_hxl : x.length ≤ 8796093022208) (_hyl : y.length ≤ 8796093022208) :
  Calls Tryz.prog 19 #[.slice a x.length ca, .slice b y.length cb] w fun e w' => e = .returned (.bool (sameS x y)) ∧ Below w.heap.size w w' := by
 have HX := Lib.hid hx
 have HY := Lib.hid hy
 clear hx hy
 go_enter Tryz.func19, Tryz.ntmps19
 by_cases hl : x.length = y.length
 · have HL := Lib.hid hl
   have hl1 : ((x.length : Int) != (y.length : Int)) = false := by simp [hl]
   have hl2 : x.length ≤ y.length := by omega
   clear hl
   go_wp2
   go_loopw [5] (fun i wr => ∃ k : Nat, k ≤ x.length ∧ i = .int .i64 k ∧ Hid (∀ j (h1 : j < x.length) (h2 : j < y.length), j < k → x[j] = y[j]) ∧ Hid (Below w.heap.size w wr)) (fun i _ => x.length - (intOf i).toNat)
   case atStart => exact ⟨0, Nat.zero_le _, rfl, Lib.hid (by intro j _ _ h; omega), Lib.hid (Below.refl _ _)⟩
   case round =>
    obtain ⟨k, hk, rfl, HP, HB⟩ := hrel
    by_cases hlt : k < x.length
    · have hlt2 : k < y.length := by omega
      obtain ⟨b1, o1, rfl, c1⟩ := (HX.out.keep HB.out) k hlt
      obtain ⟨b2, o2, rfl, c2⟩ := (HY.out.keep HB.out) k hlt2
      by_cases he : x[k] = y[k]
      · have ht : (x[k].toList == y[k].toList) = true := by rw [toList_eq]; simp [he]
        have HE := Lib.hid he
        clear he
        go_wp2_with fail
        go_quiet (fail)
        go_wp2
        go_roundw
        case rel => exact ⟨k + 1, by omega, by go_num, Lib.hid (by
         intro j h1 h2 hj
         by_cases e : j = k
         · subst e; exact HE.out
         · exact HP.out j h1 h2 (by omega)), Lib.hid (below_drewN HB.out _)⟩
        case measure => simp [intOf]; omega
      · have ht : (x[k].toList == y[k].toList) = false := by rw [toList_eq]; simp [he]
        have HE := Lib.hid he
        clear he
        go_wp2_with fail
        go_quiet (fail)
        go_wp2
        go_ret
        exact ⟨ret_bool (sameS_no hlt hlt2 HE.out).symm, below_drewN HB.out _⟩
    · go_wp2
      go_ret
      exact ⟨ret_bool (sameS_yes HL.out (fun j h1 h2 => HP.out j h1 h2 (by omega))).symm, HB.out⟩
 · have HL := Lib.hid hl
   have hl1 : ((x.length : Int) != (y.length : Int)) = true := by simp; omega
   clear hl
   go_wp2
   go_ret
   exact ⟨ret_bool (sameS_len HL.out).symm, Below.refl _ _⟩
def total : List ByteArray → Nat
 | [] => 0
 | s :: t => s.size + 1 + total t
theorem splitL_length (c : UInt8) : ∀ l : List UInt8, (splitL c l).length ≤ l.length + 1
 | [] => Nat.le_refl _
 | b :: t => by
  have := splitL_length c t
  rw [splitL]; split
  · simp; omega
  · cases h : splitL c t with
    | nil => simp [front]
    | cons q r => rw [h] at this; simp [front] at this ⊢; omega
theorem splitS_length (c : UInt8) (s : ByteArray) : (splitS c s).length ≤ s.size + 1 := by
 unfold splitS; rw [List.length_map]; have := splitL_length c s.data.toList; simpa using this
theorem splitL_small (c : UInt8) : ∀ (l p : List UInt8), p ∈ splitL c l → p.length ≤ l.length
 | [], p, h => by simp [splitL] at h; simp [h]
 | b :: t, p, h => by
  have ih := splitL_small c t
  rw [splitL] at h
  split at h
  · rcases List.mem_cons.1 h with rfl | h
    · simp
    · have := ih p h; simp; omega
  · cases hs : splitL c t with
    | nil => exact absurd hs (splitL_ne c t)
    | cons q r =>
     rw [hs] at h ih
     simp only [front, List.mem_cons] at h
     rcases h with rfl | h
     · have := ih q (by simp); simp; omega
     · have := ih p (by simp [h]); simp; omega
theorem splitS_small (c : UInt8) (s x : ByteArray) (h : x ∈ splitS c s) : x.size ≤ s.size := by
 unfold splitS at h
 obtain ⟨p, hp, rfl⟩ := List.mem_map.1 h
 have := splitL_small c _ p hp
 have e : (ofL p).size = p.length := by show (ofL p).data.size = _; simp [ofL]
 have e2 : s.data.toList.length = s.size := by simp
 omega
theorem total_at {l : List ByteArray} {n k : Nat} (h : k < l.length) (ht : total l ≤ n) : l[k].size + 1 ≤ n := by
 induction l generalizing k with
 | nil => exact absurd h (Nat.not_lt_zero _)
 | cons a t ih =>
  unfold total at ht
  cases k with
  | zero => simp only [List.getElem_cons_zero]; omega
  | succ k => simp only [List.getElem_cons_succ]; exact ih (by simpa using h) (by omega)
theorem elemsOf_length (l : List ByteArray) : (elemsOf l).length ≤ l.length := by
 unfold elemsOf
 have := List.length_filter_le (fun x : ByteArray => !x.data.toList.isEmpty) (l.map trimBA)
 simpa using this
theorem listL_length : ∀ l : List ByteArray, (listL l).length ≤ total l
 | [] => Nat.le_refl _
 | a :: t => by
  have h1 := listL_length t
  have h2 := elemsOf_length (splitS 44 a)
  have h3 := splitS_length 44 a
  have e : listL (a :: t) = elemL a ++ listL t := by unfold listL; rw [List.flatMap_cons]
  rw [e, List.length_append]
  unfold total elemL
  omega
theorem total_len : ∀ l : List ByteArray, l.length ≤ total l
 | [] => Nat.le_refl _
 | a :: t => by
  have h1 := total_len t
  simp only [List.length_cons, total]; omega
theorem total_take : ∀ (l : List ByteArray) (k : Nat), total (l.take k) ≤ total l
 | [], _ => by simp
 | a :: t, 0 => by simp [total]
 | a :: t, k + 1 => by
  have := total_take t k
  simp only [List.take_succ_cons, total]; omega
theorem split_any (s : ByteArray) (w : World) (m : Int) (hs : s.size < 4294967281) (hm : w.cell? ⟨0, 0, none⟩ = some (.int .i64 m)) :
  Calls Tryz.prog 127 #[.string s, .string ⟨#[44]⟩] w fun e w' => RetFresh w (splitS 44 s) e w' := by
 refine (Any.strings_Split Tryz.lays146 (by kernel_rfl) s ⟨#[44]⟩ m w hs hm (by decide)).mono ?_
 rintro e w' ⟨he, hw⟩
 have hlen : (splitS 44 s).length = Lib.countB s ⟨#[44]⟩ + 1 := by
  rw [← splitB_eq]; exact Lib.splitB_all _ (by decide) _ _ _ rfl
 refine ⟨w.heap.size, _, by rw [he, hlen], Nat.le_refl _, by rw [hw]; simp, fun j hj => ⟨_, 0, rfl, ?_⟩, by rw [hw]; exact (Below.refl _ _).alloc (Nat.le_refl _) _⟩
 rw [hw, splitB_eq]
 rw [World.cell?_alloc_mark]
 simp [hj]
set_option maxHeartbeats 800000 in
theorem list_acc (l : List ByteArray) (a : Option Addr) (ca : Nat) (w : World) (m : Int) (hl : StrsAt w a l) (hm : w.cell? ⟨0, 0, none⟩ = some (.int .i64 m)) (ht : total l ≤ 4000000000) :
  Calls Tryz.prog 95 #[.slice a l.length ca] w (RetAcc w (listL l)) := by
 have HM := Lib.hid hm
 have HLs := Lib.hid hl
 have HT := Lib.hid ht
 have hll : l.length ≤ 4000000000 := Nat.le_trans (total_len l) ht
 clear hm hl ht
 go_enter Tryz.func95, Tryz.ntmps95
 go_wp2
 go_loopw [3, 11] (fun v i wr => ∃ k : Nat, k ≤ l.length ∧ i = .int .i64 k ∧ Hid (Acc w wr v (listL (l.take k)))) (fun _ i _ => l.length - (intOf i).toNat)
 case atStart => exact ⟨0, Nat.zero_le _, rfl, Lib.hid (Acc.start w)⟩
 case round =>
  obtain ⟨k, hk, rfl, HA⟩ := hrel
  by_cases hlt : k < l.length
  · obtain ⟨b, off, rfl, hc⟩ := HLs.out k hlt
    have c1 := below_cell HA.out.2 hc
    clear hc
    have hb1 := Lib.hid (total_at hlt HT.out)
    go_wp2_with fail
    refine (split_any l[k] _ m (by have := hb1.out; omega) (below_cell HA.out.2 HM.out)).mono ?_
    rintro e w1 ⟨P, cp, rfl, hP1, hP2, hP3, hP4⟩
    have HA1 := Lib.hid (HA.out.keep hP4)
    have HS1 := Lib.hid (Aside.fresh HA.out hP1 hP2 hP3)
    have hpl := splitS_length 44 l[k]
    have hsz : Hid (∀ x ∈ splitS 44 l[k], x.size ≤ 4000000000) := Lib.hid (fun x hx => Nat.le_trans (splitS_small 44 l[k] x hx) (by have := hb1.out; omega))
    have hpl2 : (splitS 44 l[k]).length ≤ 4000000000 := by have := hb1.out; omega
    clear hP1 hP2 hP3 hP4 c1 hpl
    generalize hparts : splitS 44 l[k] = parts at *
    have HPA := Lib.hid hparts
    clear hparts
    go_wp2_with fail
    go_loopw [3, 18] (fun v i wq => ∃ j : Nat, j ≤ parts.length ∧ i = .int .i64 j ∧ Hid (Acc w wq v (listL (l.take k) ++ elemsOf (parts.take j))) ∧ Hid (Aside wq v P parts)) (fun _ i _ => parts.length - (intOf i).toNat)
    case atStart => exact ⟨0, Nat.zero_le _, rfl, Lib.hid (by simpa [elemsOf] using HA1.out), HS1⟩
    case round =>
     obtain ⟨j, hj, rfl, HB, HS⟩ := hrel
     by_cases hjl : j < parts.length
     · obtain ⟨b', o', e', c2⟩ := HS.out.1 j hjl
       cases e'
       rw [Nat.zero_add] at c2
       go_wp2_with fail
       refine (trim_any parts[j] _ ?_).mono ?_
       · have := hsz.out parts[j] (by simp); unfold maxLen; omega
       rintro e w2 ⟨rfl, hb2⟩
       have HB2 := Lib.hid (HB.out.keep hb2)
       have HS2 := Lib.hid (HS.out.keep hb2)
       clear hb2 c2
       by_cases hem : (trimBA parts[j]).data.toList.isEmpty = true
       · have het : (trimBA parts[j]).toList.isEmpty = true := by rw [ByteArray.toList_eq]; exact hem
         have HEM := Lib.hid hem
         clear hem
         go_wp2_with fail
         go_roundw
         case rel => exact ⟨j + 1, by omega, by go_num, Lib.hid (by rw [List.take_succ_eq_append_getElem hjl, elemsOf_no _ _ HEM.out]; exact HB2.out), HS2⟩
         case measure => simp [intOf]; omega
       · have hem' : (trimBA parts[j]).data.toList.isEmpty = false := by simpa using hem
         have het : (trimBA parts[j]).toList.isEmpty = false := by rw [ByteArray.toList_eq]; exact hem'
         have HEM := Lib.hid hem'
         clear hem hem'
         go_wp2_with (at_builtin; refine wpList_append_acc _ rfl _ _ rfl rfl (HB2.out.keep ((Below.refl _ _).alloc (Nat.le_refl _) _)) rfl (y := trimBA parts[j]) ?c1 ?c2 ?c3)
         case c1 => simp
         case c2 =>
          have h1 := listL_length (l.take k)
          have h2 := elemsOf_length (parts.take j)
          have h3 : (parts.take j).length ≤ j := List.length_take_le _ _
          have h4 := total_take l k
          have h5 := HT.out
          rw [List.length_append]; omega
         case c3 =>
          intro g cap w' hacc has
          have HACC := Lib.hid hacc
          have HAS := Lib.hid (has _ _ (HS2.out.keep ((Below.refl _ _).alloc (Nat.le_refl _) _)))
          clear hacc has
          go_wp2_with fail
          go_roundw
          case rel => exact ⟨j + 1, by omega, by go_num, Lib.hid (by rw [List.take_succ_eq_append_getElem hjl, elemsOf_yes _ _ HEM.out]; exact HACC.out), HAS⟩
          case measure => simp [intOf]; omega
     · have hpt : parts.take j = parts := List.take_of_length_le (by omega)
       have HPT := Lib.hid hpt
       clear hpt
       go_wp2_with fail
       go_roundw
       case rel => exact ⟨k + 1, by omega, by go_num, Lib.hid (by
        have := HB.out
        rw [HPT.out, ← HPA.out] at this
        rw [List.take_succ_eq_append_getElem hlt, listL_snoc]; exact this)⟩
       case measure => simp [intOf]; omega
  · have hpt : l.take k = l := List.take_of_length_le (by omega)
    have HF := HA.out
    rw [hpt] at HF
    have HFF := Lib.hid HF
    clear HF hpt HA
    go_wp2_with fail
    go_ret
    exact ⟨_, rfl, HFF.out⟩
theorem pieces_step {c : UInt8} {s : ByteArray} {i : Nat} (h : i < s.size) : splitL c (s.data.toList.drop i) = if s[i] = c then [] :: splitL c (s.data.toList.drop (i + 1)) else front [s[i]] (splitL c (s.data.toList.drop (i + 1))) := by
 rw [List.drop_eq_getElem_cons (by simpa using h), splitL]; rfl
theorem pieces_end (c : UInt8) (s : ByteArray) : splitL c (s.data.toList.drop s.size) = [[]] := by
 rw [List.drop_of_length_le (by simp)]; rfl
theorem extract_ofL (s : ByteArray) (a b : Nat) : s.extract a b = ofL ((s.data.toList.drop a).take (b - a)) := ba_ext (by rw [ofL_list, Lib.extract_data])
theorem drop_take_snoc (s : ByteArray) (a i : Nat) (ha : a ≤ i) (h : i < s.size) : (s.data.toList.drop a).take (i + 1 - a) = (s.data.toList.drop a).take (i - a) ++ [s[i]] := by
 have e : i + 1 - a = (i - a) + 1 := by omega
 have hl : s.data.toList.length = s.size := by simp
 rw [e, List.take_succ_eq_append_getElem (by rw [List.length_drop, hl]; omega), List.getElem_drop]
 have e2 : a + (i - a) = i := by omega
 simp only [e2]
 rfl
set_option maxHeartbeats 1000000 in
theorem refSplit_any (s : ByteArray) (c : UInt8) (w : World) (hs : s.size ≤ 4000000000) :
  Calls Tryz.prog 97 #[.string s, .int .u8 c.toNat] w fun e w' => RetFresh w (splitS c s) e w' := by
 go_enter Tryz.func97, Tryz.ntmps97
 go_wp2
 go_loopw [5, 6, 7] (fun v f i wr => ∃ k a : Nat, ∃ done : List (List UInt8), k ≤ s.size + 1 ∧ a ≤ k ∧ i = .int .i64 k ∧ f = .int .i64 a ∧ done.length ≤ k ∧ Hid (Acc w wr v (done.map ofL)) ∧
   Hid ((k ≤ s.size → done ++ front ((s.data.toList.drop a).take (k - a)) (splitL c (s.data.toList.drop k)) = splitL c s.data.toList) ∧ (¬ k ≤ s.size → done = splitL c s.data.toList))) (fun _ _ i _ => s.size + 1 - (intOf i).toNat)
 case atStart => exact ⟨0, 0, [], by omega, Nat.le_refl _, rfl, rfl, Nat.le_refl _, Lib.hid (Acc.start w), Lib.hid ⟨fun _ => by simp [front_nil _ (splitL_ne c _)], fun h => absurd (Nat.zero_le _) h⟩⟩
 case round =>
  obtain ⟨k, a, done, hk, hak, rfl, rfl, hdl, HA, HP⟩ := hrel
  by_cases hle : k ≤ s.size
  · have cont : ∀ (_ : k = s.size ∨ ∃ h : k < s.size, s[k] = c), Hid (done ++ [(s.data.toList.drop a).take (k - a)] ++ (if k < s.size then splitL c (s.data.toList.drop (k + 1)) else []) = splitL c s.data.toList) := by
     intro h
     have h1 := HP.out.1 hle
     rcases h with e | ⟨h, e⟩
     · subst e
       rw [pieces_end] at h1
       rw [if_neg (by omega), List.append_nil]
       simpa [Hid, front] using h1
     · rw [pieces_step h, if_pos e] at h1
       rw [if_pos h, List.append_assoc]
       simpa [Hid, front] using h1
    have CONT := Lib.hid cont
    clear cont
    by_cases hend : k = s.size
    · have HEND := Lib.hid hend
      have he1 : ((k : Int) == (s.size : Int)) = true := by simp [hend]
      clear hend
      go_wp2_with (at_builtin; refine wpList_append_acc _ rfl _ _ rfl rfl (HA.out.keep ((Below.refl _ _).alloc (Nat.le_refl _) _)) rfl (y := s.extract a k) ?c1 ?c2 ?c3)
      case c1 => simp
      case c2 => simp; omega
      case c3 =>
       intro g cap w' hacc has
       have HACC := Lib.hid hacc
       clear hacc has
       go_wp2_with fail
       go_roundw
       case rel => exact ⟨k + 1, k + 1, done ++ [(s.data.toList.drop a).take (k - a)], by omega, Nat.le_refl _, by go_num, by go_num, by simp; omega, Lib.hid (by
        have := HACC.out
        rw [extract_ofL] at this
        rw [List.map_append]; simpa using this), Lib.hid ⟨fun h => absurd h (by have := HEND.out; omega), fun _ => by
         have := (CONT.out (.inl HEND.out)).out
         rw [if_neg (by have := HEND.out; omega), List.append_nil] at this; exact this⟩⟩
       case measure => simp [intOf]; omega
    · have hlt : k < s.size := by omega
      have he1 : ((k : Int) == (s.size : Int)) = false := by rw [beq_eq_false_iff_ne]; omega
      clear hend
      by_cases hc : s[k] = c
      · have HC := Lib.hid hc
        have hb : ((s[k].toNat : Int) == (c.toNat : Int)) = true := by simp [hc]
        clear hc
        go_wp2_with (at_builtin; refine wpList_append_acc _ rfl _ _ rfl rfl (HA.out.keep ((Below.refl _ _).alloc (Nat.le_refl _) _)) rfl (y := s.extract a k) ?c1 ?c2 ?c3)
        case c1 => simp
        case c2 => simp; omega
        case c3 =>
         intro g cap w' hacc has
         have HACC := Lib.hid hacc
         clear hacc has
         go_wp2_with fail
         go_roundw
         case rel => exact ⟨k + 1, k + 1, done ++ [(s.data.toList.drop a).take (k - a)], by omega, Nat.le_refl _, by go_num, by go_num, by simp; omega, Lib.hid (by
          have := HACC.out
          rw [extract_ofL] at this
          rw [List.map_append]; simpa using this), Lib.hid ⟨fun _ => by
           have := (CONT.out (.inr ⟨hlt, HC.out⟩)).out
           rw [if_pos hlt] at this
           rw [Nat.sub_self, List.take_zero, front_nil _ (splitL_ne c _)]; exact this, fun h => absurd (show k + 1 ≤ s.size by omega) h⟩⟩
         case measure => simp [intOf]; omega
      · have HC := Lib.hid hc
        have hb : ((s[k].toNat : Int) == (c.toNat : Int)) = false := by
         rw [Bool.eq_false_iff]; intro h; exact hc (eqb_of h)
        clear hc
        go_wp2_with fail
        go_roundw
        case rel => exact ⟨k + 1, a, done, by omega, by omega, by go_num, rfl, by omega, HA, Lib.hid ⟨fun _ => by
         have h1 := HP.out.1 hle
         rw [pieces_step hlt, if_neg HC.out, front_front, ← drop_take_snoc s a k hak hlt] at h1
         exact h1, fun h => absurd (show k + 1 ≤ s.size by omega) h⟩⟩
        case measure => simp [intOf]; omega
  · have hdone := Lib.hid (HP.out.2 hle)
    go_wp2_with fail
    go_ret
    obtain ⟨g, cap, rfl, h1, h2, h3⟩ := HA.out.isNew (by rw [hdone.out]; simpa using splitL_ne c s.data.toList)
    have e : done.map ofL = splitS c s := by rw [hdone.out]; rfl
    rw [e] at h3 ⊢
    exact ⟨g, cap, rfl, h1, h2, h3, HA.out.2⟩
set_option maxHeartbeats 800000 in
theorem refList_acc (l : List ByteArray) (a : Option Addr) (ca : Nat) (w : World) (hl : StrsAt w a l) (ht : total l ≤ 4000000000) :
  Calls Tryz.prog 66 #[.slice a l.length ca] w (RetAcc w (listL l)) := by
 have HLs := Lib.hid hl
 have HT := Lib.hid ht
 have hll : l.length ≤ 4000000000 := Nat.le_trans (total_len l) ht
 clear hl ht
 go_enter Tryz.func66, Tryz.ntmps66
 go_wp2
 go_loopw [3, 4] (fun v i wr => ∃ k : Nat, k ≤ l.length ∧ i = .int .i64 k ∧ Hid (Acc w wr v (listL (l.take k)))) (fun _ i _ => l.length - (intOf i).toNat)
 case atStart => exact ⟨0, Nat.zero_le _, rfl, Lib.hid (Acc.start w)⟩
 case round =>
  obtain ⟨k, hk, rfl, HA⟩ := hrel
  by_cases hlt : k < l.length
  · obtain ⟨b, off, rfl, hc⟩ := HLs.out k hlt
    have c1 := below_cell HA.out.2 hc
    clear hc
    have hb1 := Lib.hid (total_at hlt HT.out)
    go_wp2_with fail
    refine (refSplit_any l[k] 44 _ (by have := hb1.out; omega)).mono ?_
    rintro e w1 ⟨P, cp, rfl, hP1, hP2, hP3, hP4⟩
    have HA1 := Lib.hid (HA.out.keep hP4)
    have HS1 := Lib.hid (Aside.fresh HA.out hP1 hP2 hP3)
    have hpl := splitS_length 44 l[k]
    have hsz : Hid (∀ x ∈ splitS 44 l[k], x.size ≤ 4000000000) := Lib.hid (fun x hx => Nat.le_trans (splitS_small 44 l[k] x hx) (by have := hb1.out; omega))
    have hpl2 : (splitS 44 l[k]).length ≤ 4000000000 := by have := hb1.out; omega
    clear hP1 hP2 hP3 hP4 c1 hpl
    generalize hparts : splitS 44 l[k] = parts at *
    have HPA := Lib.hid hparts
    clear hparts
    go_wp2_with fail
    go_loopw [3, 6] (fun v i wq => ∃ j : Nat, j ≤ parts.length ∧ i = .int .i64 j ∧ Hid (Acc w wq v (listL (l.take k) ++ elemsOf (parts.take j))) ∧ Hid (Aside wq v P parts)) (fun _ i _ => parts.length - (intOf i).toNat)
    case atStart => exact ⟨0, Nat.zero_le _, rfl, Lib.hid (by simpa [elemsOf] using HA1.out), HS1⟩
    case round =>
     obtain ⟨j, hj, rfl, HB, HS⟩ := hrel
     by_cases hjl : j < parts.length
     · obtain ⟨b', o', e', c2⟩ := HS.out.1 j hjl
       cases e'
       rw [Nat.zero_add] at c2
       go_wp2_with fail
       refine (refTrim_any parts[j] _ ?_).mono ?_
       · have := hsz.out parts[j] (by simp); unfold maxLen; omega
       rintro e w2 ⟨rfl, rfl⟩
       clear c2
       by_cases hem : (trimBA parts[j]).data.toList.isEmpty = true
       · have het : (trimBA parts[j]).toList.isEmpty = true := by rw [ByteArray.toList_eq]; exact hem
         have HEM := Lib.hid hem
         clear hem
         go_wp2_with fail
         go_roundw
         case rel => exact ⟨j + 1, by omega, by go_num, Lib.hid (by rw [List.take_succ_eq_append_getElem hjl, elemsOf_no _ _ HEM.out]; exact HB.out), HS⟩
         case measure => simp [intOf]; omega
       · have hem' : (trimBA parts[j]).data.toList.isEmpty = false := by simpa using hem
         have het : (trimBA parts[j]).toList.isEmpty = false := by rw [ByteArray.toList_eq]; exact hem'
         have HEM := Lib.hid hem'
         clear hem hem'
         go_wp2_with (at_builtin; refine wpList_append_acc _ rfl _ _ rfl rfl (HB.out.keep ((Below.refl _ _).alloc (Nat.le_refl _) _)) rfl (y := trimBA parts[j]) ?c1 ?c2 ?c3)
         case c1 => simp
         case c2 =>
          have h1 := listL_length (l.take k)
          have h2 := elemsOf_length (parts.take j)
          have h3 : (parts.take j).length ≤ j := List.length_take_le _ _
          have h4 := total_take l k
          have h5 := HT.out
          rw [List.length_append]; omega
         case c3 =>
          intro g cap w' hacc has
          have HACC := Lib.hid hacc
          have HAS := Lib.hid (has _ _ (HS.out.keep ((Below.refl _ _).alloc (Nat.le_refl _) _)))
          clear hacc has
          go_wp2_with fail
          go_roundw
          case rel => exact ⟨j + 1, by omega, by go_num, Lib.hid (by rw [List.take_succ_eq_append_getElem hjl, elemsOf_yes _ _ HEM.out]; exact HACC.out), HAS⟩
          case measure => simp [intOf]; omega
     · have hpt : parts.take j = parts := List.take_of_length_le (by omega)
       have HPT := Lib.hid hpt
       clear hpt
       go_wp2_with fail
       go_roundw
       case rel => exact ⟨k + 1, by omega, by go_num, Lib.hid (by
        have := HB.out
        rw [HPT.out, ← HPA.out] at this
        rw [List.take_succ_eq_append_getElem hlt, listL_snoc]; exact this)⟩
       case measure => simp [intOf]; omega
  · have hpt : l.take k = l := List.take_of_length_le (by omega)
    have HF := HA.out
    rw [hpt] at HF
    have HFF := Lib.hid HF
    clear HF hpt HA
    go_wp2_with fail
    go_ret
    exact ⟨_, rfl, HFF.out⟩
end Go.Proofs.YtfghgenboahkkaaGreatDoor
namespace Go.Proofs.YtfghgenboahkkaaGreatDoor
open Go.ChangeShapes Go.WideShapes Go.ChangeAt Go.RowKit
theorem byte_of {x : Int} (h : (Lit.int .u8 x).wf = true) : ∃ c : UInt8, x = (c.toNat : Int) := by
 have hb : 0 ≤ x ∧ x ≤ 255 := bounds_u8 h
 refine ⟨x.toNat.toUInt8, ?_⟩
 have : (x.toNat.toUInt8).toNat = x.toNat := by rw [Nat.toUInt8_eq, UInt8.toNat_ofNat']; omega
 omega
def IsBytes (w : World) (a : Option Addr) (l : List UInt8) (cap : Nat) : Prop :=
 (a = none ∧ l = [] ∧ cap = 0) ∨ ∃ x, a = some x ∧ l.length ≤ cap ∧ cap ≤ maxLen ∧ ∀ j (hj : j < l.length), w.cell? (x.add j) = some (.int .u8 (l[j].toNat : Int))
theorem open_bytes {H : Type} {enc : TypeId × Value → H} {W : World} {a : Option Addr} {len cap : Nat} {d : DataW H} {ps : List MemPlace} {base : Nat}
  (h : DataW.Trod enc Tryz.prog W base (fun _ => true) true 29 (.slice a len cap) d ps) : ∃ l : List UInt8, len = l.length ∧ IsBytes W a l cap := by
 obtain ⟨fuel, hf⟩ := h
 rcases open_ints Tryz.underlying29 Tryz.underlying5 (by kernel_rfl) hf with ⟨hcs, _⟩ | ⟨x, l, c, zs, hcs, _, hl, hm, hz, _, hcell, hwz⟩
 · simp [Value.cells] at hcs
   obtain ⟨rfl, rfl, rfl⟩ := hcs
   exact ⟨[], rfl, .inl ⟨rfl, rfl, rfl⟩⟩
 · simp [Value.cells] at hcs
   obtain ⟨rfl, rfl, rfl⟩ := hcs
   have hz' : zs.length = cap := by simpa using hz
   have hlen : ((zs.take len).map fun z => z.toNat.toUInt8).length = len := by simp; omega
   refine ⟨(zs.take len).map fun z => z.toNat.toUInt8, hlen.symm, .inr ⟨x, rfl, by rw [hlen]; exact hl, hm, fun j hj => ?_⟩⟩
   rw [hlen] at hj
   have hj' : j < zs.length := by omega
   rw [hcell j hj']
   have hw := hwz zs[j] (List.getElem_mem _)
   obtain ⟨c, hc⟩ := byte_of hw
   have e : zs.getD j 0 = zs[j] := by rw [List.getD_eq_getElem?_getD, List.getElem?_eq_getElem hj']; rfl
   rw [e]
   have e2 : ((zs.take len).map fun z => z.toNat.toUInt8)[j]'(by rw [hlen]; exact hj) = zs[j].toNat.toUInt8 := by simp
   rw [e2, hc]
   simp
theorem conv_bytes {W : World} {a : Option Addr} {l : List UInt8} {cap : Nat} (h : IsBytes W a l cap) :
  (convert 29 9 (.slice a l.length cap)).run Tryz.prog W = .ok (.string ⟨l.toArray⟩) W := by
 rcases h with ⟨rfl, rfl, rfl⟩ | ⟨x, rfl, _, _, hc⟩
 · simp [convert, run_underlying Tryz.underlying29, run_underlying Tryz.underlying9, run_underlying Tryz.underlying5, Conv.bytesToString]
   rfl
 · exact run_convert_bytes_back (P := Tryz.prog) W 29 9 5 x cap l Tryz.underlying29 Tryz.underlying5 Tryz.underlying9 hc
def StrsIn (w : World) (a : Option Addr) (l : List ByteArray) : Prop :=
 ∀ j (hj : j < l.length), ∃ x, a = some x ∧ w.cell? (x.add j) = some (.string l[j])
theorem StrsIn.keep {w w' : World} {a : Option Addr} {l : List ByteArray} (h : StrsIn w a l) (hb : Below w.heap.size w w') : StrsIn w' a l := fun j hj => by
 obtain ⟨x, e, hc⟩ := h j hj
 exact ⟨x, e, below_cell hb hc⟩
theorem StrsIn.of_at {w : World} {a : Option Addr} {l : List ByteArray} (h : StrsAt w a l) : StrsIn w a l := fun j hj => by
 obtain ⟨b, off, e, hc⟩ := h j hj
 exact ⟨_, e, by rw [show (⟨b, off, none⟩ : Addr).add j = ⟨b, off + j, none⟩ by unfold Addr.add; split <;> simp_all]; exact hc⟩
end Go.Proofs.YtfghgenboahkkaaGreatDoor
namespace Go.Proofs.YtfghgenboahkkaaGreatDoor
open Go.RowKit
theorem Tryz.info5 : (Tryz.prog.info? 5).map (fun i => (i.zero, i.size, i.bytes)) = some (some (.int .u8 0), 1, 1) := by kernel_rfl
def bytesV (l : List UInt8) : List Value := l.map fun c => .int .u8 (c.toNat : Int)
theorem bytesV_len (l : List UInt8) : (bytesV l).length = l.length := by simp [bytesV]
def AccB (w0 w : World) (v : Value) (l : List UInt8) : Prop :=
 w.ownsRow w0.heap.size 5 1 v l.length (bytesV l) ∧ Below w0.heap.size w0 w
theorem AccB.shape {w0 w : World} {v : Value} {l : List UInt8} (h : AccB w0 w v l) : ∃ a cap, v = .slice a l.length cap ∧ IsBytes w a l cap := by
 obtain ⟨⟨h1, h2⟩, _⟩ := h
 rcases h2 with ⟨rfl, h2⟩ | ⟨g, cap, cur, rfl, hg, hc, hcap, hm, hsz, ht⟩
 · have : l = [] := List.eq_nil_of_length_eq_zero h2
   subst this
   exact ⟨none, 0, rfl, .inl ⟨rfl, rfl, rfl⟩⟩
 · refine ⟨_, cap, rfl, .inr ⟨_, rfl, hcap, hm, fun j hj => ?_⟩⟩
   have e : cur.toList[j]? = some (Value.int .u8 (l[j].toNat : Int)) := by
    have := congrArg (fun x => x[j]?) ht
    simp only [Nat.mul_one, bytesV] at this
    rw [List.getElem?_take_of_lt hj, List.getElem?_map, List.getElem?_eq_getElem hj] at this
    exact this
   rw [Addr.add_lit]
   simp only [World.cell?, hc, Nat.zero_add]
   simpa using e
section
variable {ops : Array Oper} {rest : List Oper} {o : Oper} {act : Act} {Q : Exit → Act → World → Prop}
end
end Go.Proofs.YtfghgenboahkkaaGreatDoor
namespace Go.Proofs.YtfghgenboahkkaaGreatDoor
section
variable {P : Program} {md : Region.Mode} {C : World → Prop} {l : List Oper} {o : Oper}
end
section
variable {P : Program} {md : Region.Mode} {ops : Array Oper} {Q : Exit → Act → World → Prop}
theorem count_set : ∀ (l : List Bool) (i : Nat), i < l.length → l.getD i true = false → (l.set i true).countP (!·) + 1 = l.countP (!·)
 | b :: l, 0, _, h => by
  have : b = false := h
  subst this
  simp
 | b :: l, i + 1, hi, h => by
  have := count_set l i (by simpa using hi) (by simpa using h)
  rw [List.set_cons_succ, List.countP_cons, List.countP_cons]
  omega
theorem wpAny_inv (J : Array Bool → Act → World → Prop) (hstep : ∀ m a w, m.size = ops.size → J m a w → ∀ i, i ∈ Region.ready md ops m → wpOp P ops Q i (J (m.setIfInBounds i true)) a w)
  (hdone : ∀ m a w, m.size = ops.size → J m a w → Region.ready md ops m = [] → Q .normal a w) :
  ∀ (f : Nat) (m : Array Bool) (a : Act) (w : World), m.size = ops.size → m.toList.countP (!·) ≤ f → J m a w → wpAny P md ops Q f m a w
 | 0, m, a, w, hs, hc, hJ => by
  have hr : Region.ready md ops m = [] := by
   rw [List.eq_nil_iff_forall_not_mem]
   intro i hi
   obtain ⟨h1, x, hx, _⟩ := mem_ready.1 hi
   have hlt : i < m.size := by rw [hs]; exact (Array.getElem?_eq_some_iff.1 hx).1
   have h2 : m.toList.getD i true = false := by simpa [List.getD_eq_getElem?_getD, hlt] using h1
   have := count_set m.toList i (by simpa using hlt) h2
   omega
  exact ⟨hr, hdone m a w hs hJ hr⟩
 | f + 1, m, a, w, hs, hc, hJ => by
  refine ⟨fun hr => hdone m a w hs hJ hr, fun i hi => ?_⟩
  refine wpOp_mono (fun a' w' hJ' => wpAny_inv J hstep hdone f _ a' w' (by simpa using hs) ?_ hJ') (hstep m a w hs hJ i hi)
  obtain ⟨h1, x, hx, _⟩ := mem_ready.1 hi
  have hlt : i < m.size := by rw [hs]; exact (Array.getElem?_eq_some_iff.1 hx).1
  have h2 : m.toList.getD i true = false := by simpa [List.getD_eq_getElem?_getD, hlt] using h1
  have := count_set m.toList i (by simpa using hlt) h2
  rw [Array.toList_setIfInBounds]
  omega
theorem wp_region_inv {id : Nat} {a : Act} {w : World} (hm : P.follows .mixedOrders = true) (J : Array Bool → Act → World → Prop)
  (hstep : ∀ m a w, m.size = ops.size → J m a w → ∀ i, i ∈ Region.ready .any ops m → wpOp P ops Q i (J (m.setIfInBounds i true)) a w)
  (hdone : ∀ m a w, m.size = ops.size → J m a w → Region.ready .any ops m = [] → Q .normal a w) (h0 : J (Array.replicate ops.size false) a { w with drawn := w.drawn + 1 }) : (Code.region id ops true).wp P Q a w := by
 refine wp_region_any hm (wpAny_inv J hstep hdone _ _ _ _ (by simp) ?_ h0)
 have := List.countP_le_length (p := (!·)) (l := (Array.replicate ops.size false).toList)
 simpa using this
end
end Go.Proofs.YtfghgenboahkkaaGreatDoor
namespace Go.Proofs.YtfghgenboahkkaaGreatDoor
open Go.RowKit
structure Spec where
 p : Value → World → Prop
 mono : ∀ v w w', p v w → Below w.heap.size w w' → p v w'
def Spec.val (v : Value) : Spec := ⟨fun x _ => x = v, fun _ _ _ h _ => h⟩
def Spec.any : Spec := ⟨fun _ _ => True, fun _ _ _ h _ => h⟩
def Holds (ops : Array Oper) (S : List Spec) (a : Act) (w : World) (j : Nat) : Prop :=
 match ops[j]?, S[j]? with
 | some o, some s => (match o.dst with | some d => s.p (a.eval (.tmp d)) w | none => True)
 | _, _ => True
def isDst (ops : Array Oper) (k : Nat) : Bool := ops.toList.any fun o => o.dst == some k
def waitsFor (o : Oper) (j : Nat) : Bool := o.after.toList.any fun e => Region.binds .any e && e.on == j
def dstsOk (ops : Array Oper) (n : Nat) : Bool :=
 (List.range ops.size).all fun i => match (ops[i]?).bind (·.dst) with
  | some d => decide (d < n) && (List.range ops.size).all fun j => decide (i = j) || !((ops[j]?).bind (·.dst) == some d)
  | none => true
structure Fr (ops : Array Oper) (a0 a : Act) : Prop where
 defers : a.defers = a0.defers
 size : a.tmps.size = a0.tmps.size
 base : ∀ k, isDst ops k = false → a.eval (.tmp k) = a0.eval (.tmp k)
def StepOK (P : Program) (Q : Exit → Act → World → Prop) (ops : Array Oper) (S : List Spec) (a0 : Act) (w0 : World) (o : Oper) (s : Spec) : Prop :=
 ∀ a w, Below w0.heap.size w0 w → Fr ops a0 a → (∀ j, waitsFor o j = true → Holds ops S a w j) →
  Region.wanted o (yielded ops a.tmps) = true ∧ o.wp P a w (fun a' w' => ∃ v, a' = a.put o.dst v ∧ Below w.heap.size w w' ∧ s.p v w') Q
def StepsOK (P : Program) (Q : Exit → Act → World → Prop) (ops : Array Oper) (S : List Spec) (a0 : Act) (w0 : World) : List Oper → List Spec → Prop
 | o :: os, s :: ss => StepOK P Q ops S a0 w0 o s ∧ StepsOK P Q ops S a0 w0 os ss
 | [], [] => True
 | _, _ => False
section
variable {P : Program} {Q : Exit → Act → World → Prop} {ops : Array Oper} {S : List Spec} {a0 : Act} {w0 : World}
theorem stepsOK_at : ∀ {os : List Oper} {ss : List Spec}, StepsOK P Q ops S a0 w0 os ss → ∀ (i : Nat) (o : Oper), os[i]? = some o → ∃ s, ss[i]? = some s ∧ StepOK P Q ops S a0 w0 o s
 | o :: os, s :: ss, h, 0, _, rfl => ⟨s, rfl, h.1⟩
 | o :: os, s :: ss, h, i + 1, o', ho => stepsOK_at h.2 i o' ho
 | [], _, _, i, _, ho => by simp at ho
theorem eval_put_same {a : Act} {d : Nat} {v : Value} (h : d < a.tmps.size) : (a.put (some d) v).eval (.tmp d) = v := by
 simp [Act.put, Act.eval, h]
theorem eval_put_other {a : Act} {d : Option Tmp} {k : Nat} {v : Value} (h : d ≠ some k) : (a.put d v).eval (.tmp k) = a.eval (.tmp k) := by
 cases d with
 | none => rfl
 | some d =>
  have hne : d ≠ k := fun e => h (by rw [e])
  simp [Act.put, Act.eval, Array.getElem?_setIfInBounds_ne hne]
theorem dsts_lt {n : Nat} (h : dstsOk ops n = true) {i : Nat} {o : Oper} {d : Nat} (ho : ops[i]? = some o) (hd : o.dst = some d) : d < n ∧ ∀ j o', ops[j]? = some o' → j ≠ i → o'.dst ≠ some d := by
 have hi : i < ops.size := (Array.getElem?_eq_some_iff.1 ho).1
 have h1 := List.all_eq_true.1 h i (List.mem_range.2 hi)
 rw [ho] at h1
 simp only [Option.bind_some, hd, Bool.and_eq_true, decide_eq_true_eq] at h1
 refine ⟨h1.1, fun j o' ho' hji hd' => ?_⟩
 have hj : j < ops.size := (Array.getElem?_eq_some_iff.1 ho').1
 have h2 := List.all_eq_true.1 h1.2 j (List.mem_range.2 hj)
 rw [ho'] at h2
 simp [hd'] at h2
 exact hji h2.symm
theorem holds_mono {a : Act} {w w' : World} {j : Nat} (h : Holds ops S a w j) (hb : Below w.heap.size w w') : Holds ops S a w' j := by
 unfold Holds at *
 split
 · rename_i o s ho hs
   rw [ho, hs] at h
   cases hd : o.dst with
   | none => trivial
   | some d => simp only [hd] at h; exact s.mono _ _ _ h hb
 · trivial
theorem wp_region_local {id : Nat} (S : List Spec) (hm : P.follows .mixedOrders = true) (hB : (List.range ops.size).all (fun i => match ops[i]? with | some x => x.after.all (fun e => decide (e.on < i)) | none => true) = true)
  (hd : dstsOk ops a0.tmps.size = true) (h : StepsOK P Q ops S a0 w0 ops.toList S)
  (hQ : ∀ a w, Below w0.heap.size w0 w → Fr ops a0 a → (∀ j, j < ops.size → Holds ops S a w j) → Q .normal a w) : (Code.region id ops true).wp P Q a0 w0 := by
 refine wp_region_inv hm (fun m a w => Below w0.heap.size w0 w ∧ Fr ops a0 a ∧ ∀ j, m.getD j false = true → Holds ops S a w j) ?_ ?_ ?_
 · rintro m a w hs ⟨hb, hf, hh⟩ i hi
   obtain ⟨h1, o, ho, hall⟩ := mem_ready.1 hi
   have hil : i < ops.size := (Array.getElem?_eq_some_iff.1 ho).1
   obtain ⟨s, hsi, hstep⟩ := stepsOK_at h i o (by simpa using ho)
   obtain ⟨hw, hwp⟩ := hstep a w hb hf fun j hj => by
    obtain ⟨e, he, h2⟩ := List.any_eq_true.1 hj
    simp only [Bool.and_eq_true, beq_iff_eq] at h2
    obtain ⟨h3, rfl⟩ := h2
    exact hh _ (hall e (Array.mem_toList_iff.1 he) h3)
   unfold wpOp
   simp only [ho]
   rw [if_pos hw]
   refine .inl (Oper.wp_mono ?_ hwp)
   rintro a' w' ⟨v, rfl, hb', hsp⟩
   refine ⟨hb.trans (hb'.mono hb.size), ⟨?_, ?_, fun k hk => ?_⟩, fun j hj => ?_⟩
   · have := hf.defers
     cases o.dst <;> simpa [Act.put] using this
   · have := hf.size
     cases o.dst <;> simpa [Act.put] using this
   · rw [eval_put_other, hf.base k hk]
     intro hk2
     have : isDst ops k = true := by
      unfold isDst
      exact List.any_eq_true.2 ⟨o, Array.mem_toList_iff.2 (Array.mem_of_getElem? ho), by rw [hk2]; simp⟩
     rw [hk] at this; cases this
   · by_cases hji : j = i
     · subst hji
       unfold Holds
       simp only [ho, hsi]
       cases hdo : o.dst with
       | none => trivial
       | some d =>
        show s.p ((a.put (some d) v).eval (.tmp d)) w'
        rw [eval_put_same]
        · exact hsp
        · rw [hf.size]; exact (dsts_lt hd ho hdo).1
     · have hj' : m.getD j false = true := by rw [getD_set_ne false (fun e => hji e.symm)] at hj; exact hj
       have h5 := holds_mono (hh j hj') hb'
       unfold Holds at *
       cases hoj : ops[j]? with
       | none => simp
       | some o' =>
        cases hsj : S[j]? with
        | none => simp
        | some s' =>
         simp only [hoj, hsj] at h5 ⊢
         cases hdo : o'.dst with
         | none => trivial
         | some d =>
          simp only [hdo] at h5 ⊢
          show s'.p ((a.put o.dst v).eval (.tmp d)) w'
          rw [eval_put_other]
          · exact h5
          · intro e
            exact (dsts_lt hd ho e).2 j o' hoj hji hdo
 · rintro m a w hs ⟨hb, hf, hh⟩ hr
   refine hQ a w hb hf fun j hj => hh j ?_
   induction j using Nat.strongRecOn with
   | _ j ih =>
    cases hmj : m.getD j false with
    | true => rfl
    | false =>
     exfalso
     have hoj : ops[j]? = some ops[j] := Array.getElem?_eq_getElem hj
     have hbk := List.all_eq_true.1 hB j (List.mem_range.2 hj)
     rw [hoj] at hbk
     simp only [Array.all_eq_true_iff_forall_mem, decide_eq_true_eq] at hbk
     have : j ∈ Region.ready .any ops m := mem_ready.2 ⟨by
      have hs' : j < m.size := by rw [hs]; exact hj
      simp [hs'] at hmj ⊢; exact hmj, ops[j], hoj, fun e he _ => ih _ (hbk e he) (by have := hbk e he; omega)⟩
     rw [hr] at this; cases this
 · refine ⟨(Below.refl _ _).drew, ⟨rfl, rfl, fun _ _ => rfl⟩, fun j hj => ?_⟩
   exfalso
   simp only [Array.getD_eq_getD_getElem?, Array.getElem?_replicate] at hj
   split at hj <;> simp at hj
end
theorem act_eq {a a0 : Act} {n : Nat} (h : a.tmps.size = n) (hd : a.defers = a0.defers) : a = ⟨((List.range n).map fun k => a.eval (.tmp k)).toArray, a0.defers⟩ := by
 obtain ⟨t, d⟩ := a
 simp only at h hd
 subst h hd
 congr 1
 apply Array.ext
 · simp
 · intro i h1 h2
   simp [Act.eval, Array.getElem?_eq_getElem h1]
section
variable {P : Program} {Q : Exit → Act → World → Prop} {ops : Array Oper} {S : List Spec} {a : Act} {w : World} {o : Oper} {s : Spec}
theorem wanted_none (h : o.guard = none) : Region.wanted o (yielded ops a.tmps) = true := by unfold Region.wanted; rw [h]
theorem wanted_true {j d : Nat} (h : o.guard = some (j, true)) (hd : (ops[j]?).bind (·.dst) = some d) (hv : a.eval (.tmp d) = .bool true) : Region.wanted o (yielded ops a.tmps) = true := by
 have e : a.tmps[d]? = some (.bool true) := by
  unfold Act.eval at hv
  simp only [Array.getD_eq_getD_getElem?] at hv
  cases hq : a.tmps[d]? with
  | none => rw [hq] at hv; cases hv
  | some x => rw [hq] at hv; simp at hv; rw [hv]
 unfold Region.wanted yielded
 rw [h]
 simp [hd, e]
theorem loc_run {v : Value} {w' : World} (h : (execOp a.eval o).run P w = .ok (.value v) w') (hb : Below w.heap.size w w') (hs : s.p v w') : o.wp P a w (fun a' w' => ∃ v, a' = a.put o.dst v ∧ Below w.heap.size w w' ∧ s.p v w') Q := by
 unfold Oper.wp
 rw [h]
 exact ⟨v, rfl, hb, hs⟩
theorem loc_move {x : Operand} (ho : o.op = .move x) (hs : s.p (a.eval x) w) : o.wp P a w (fun a' w' => ∃ v, a' = a.put o.dst v ∧ Below w.heap.size w w' ∧ s.p v w') Q :=
 loc_run (by unfold execOp; rw [ho]; rfl) (Below.refl _ _) hs
theorem loc_assign {x : Operand} (ho : o.op = .assign x) (hs : s.p (a.eval x) w) : o.wp P a w (fun a' w' => ∃ v, a' = a.put o.dst v ∧ Below w.heap.size w w' ∧ s.p v w') Q :=
 loc_run (by unfold execOp; rw [ho]; rfl) (Below.refl _ _) hs
theorem loc_pick {c x y : Operand} (ho : o.op = .pick c x y) (hc : a.eval c = .bool true) (hs : s.p (a.eval x) w) : o.wp P a w (fun a' w' => ∃ v, a' = a.put o.dst v ∧ Below w.heap.size w w' ∧ s.p v w') Q :=
 loc_run (by unfold execOp; rw [ho]; simp only [hc]; rfl) (Below.refl _ _) hs
theorem loc_load {x : Operand} {t : TypeId} (ho : o.op = .load t x) {v : Value} (h : (Instr.loadAt t (a.eval x)).run P w = .ok v w) (hs : s.p v w) : o.wp P a w (fun a' w' => ∃ v, a' = a.put o.dst v ∧ Below w.heap.size w w' ∧ s.p v w') Q :=
 loc_run (v := v) (by unfold execOp; rw [ho]; simp only [Sem.run_bind, h, Result.andThen_ok, Sem.run_pure]) (Below.refl _ _) hs
theorem loc_call {f : FuncId} {args : List Operand} {ts : Array TypeId} (ho : o.op = .call { callee := .value (.func f), args := args.toArray, argTypes := ts })
  (hf : (P.funcs[f]?).map (fun fn => fn.name != "runtime.NumGoroutine" && fn.body.isSome) = some true) (h : Calls P f (args.map a.eval).toArray w fun e w' => ∃ v, e = .returned v ∧ Below w.heap.size w w' ∧ s.p v w') : o.wp P a w (fun a' w' => ∃ v, a' = a.put o.dst v ∧ Below w.heap.size w w' ∧ s.p v w') Q := by
 have hrun : (execOp a.eval o).run P w = .ok (.enter f (args.map a.eval).toArray) w := by
  unfold execOp; rw [ho]
  cases hfn : P.funcs[f]? with
  | none => rw [hfn] at hf; cases hf
  | some fn =>
   rw [hfn] at hf
   simp only [Option.map_some, Option.some.injEq, Bool.and_eq_true, bne_iff_ne, ne_eq] at hf
   have hb : fn.body ≠ none := fun e => by rw [e] at hf; exact absurd hf.2 (by simp)
   simp [resolve, Deferred.ofValue, invoke, callFunc, show a.eval (.func f) = .func (.func f) #[] #[] from rfl, hfn, hf.1, hb]
 unfold Oper.wp
 rw [hrun, Oper.upon_enter]
 refine h.mono ?_
 rintro e w' ⟨v, rfl, hb, hs⟩
 exact ⟨v, rfl, hb, hs⟩
end
section
variable {P : Program} {ops : Array Oper} {Q : Exit → Act → World → Prop} {a : Act} {w : World} {rest : List Oper}
theorem local_ret {fn : Func} {R : Ending → World → Prop} {t : Tmp} {v : Value} (h : fn.results = #[.tmp t]) (hd : a.defers = []) (hv : a.eval (.tmp t) = v) (hR : R (.returned v) w) : bodyPost P fn R .ret a w :=
 bodyPost_ret (results_tmp h _ _ _) hd (by rw [show a.tmps.getD t undef = v from hv]; exact hR)
end
end Go.Proofs.YtfghgenboahkkaaGreatDoor
namespace Go.Proofs.YtfghgenboahkkaaGreatDoor
open Go.RowKit
def mixN (h : Nat) (c : Nat) : Nat := ((h ^^^ c) * 1099511628211) % 18446744073709551616
def mixL (h : Nat) (l : List UInt8) : Nat := l.foldl (fun h c => mixN h c.toNat) h
theorem mixN_lt (h c : Nat) : mixN h c < 18446744073709551616 := Nat.mod_lt _ (by decide)
theorem mixL_lt : ∀ (l : List UInt8) (h : Nat), h < 18446744073709551616 → mixL h l < 18446744073709551616
 | [], _, hh => hh
 | c :: r, h, _ => mixL_lt r (mixN h c.toNat) (mixN_lt _ _)
theorem mixL_append (h : Nat) (l r : List UInt8) : mixL h (l ++ r) = mixL (mixL h l) r := List.foldl_append ..
theorem mixL_nil (h : Nat) : mixL h [] = h := rfl
theorem mixL_cons (h : Nat) (c : UInt8) (r : List UInt8) : mixL h (c :: r) = mixL (mixN h c.toNat) r := rfl
theorem mixL_snoc (h : Nat) (l : List UInt8) (k : Nat) (hk : k < l.length) : mixL h (l.take (k + 1)) = mixN (mixL h (l.take k)) l[k].toNat := by
 rw [List.take_succ_eq_append_getElem hk, mixL_append, mixL_cons, mixL_nil]
theorem two64 : (18446744073709551616 : Nat) = 2 ^ 64 := by decide
theorem xor_lt (h c : Nat) (hh : h < 18446744073709551616) (hc : c < 18446744073709551616) : h ^^^ c < 18446744073709551616 := by
 rw [two64] at hh hc ⊢
 exact Nat.xor_lt_two_pow hh hc
theorem mix_bits (h : Nat) (c : UInt8) (hh : h < 18446744073709551616) : bits BinOp.xor IntKind.u64 (h : Int) (c.toNat : Int) = ((h ^^^ c.toNat : Nat) : Int) :=
 bits_xor_u64_nat _ _ hh (by have := c.toNat_lt; omega)
theorem mix_wrap (X : Nat) : IntKind.u64.wrap ((X : Int) * 1099511628211) = (((X * 1099511628211) % 18446744073709551616 : Nat) : Int) := by
 rw [IntKind.wrap_u64]; omega
def BytesIn (w : World) (a : Option Addr) (l : List UInt8) : Prop :=
 ∀ j (hj : j < l.length), ∃ x, a = some x ∧ w.cell? (x.add j) = some (.int .u8 (l[j].toNat : Int))
set_option maxHeartbeats 1000000 in
theorem refHashWrite_any (h : Nat) (l : List UInt8) (a : Option Addr) (cap : Nat) (w : World) (hh : h < 18446744073709551616) (hlen : l.length ≤ maxLen) (ha : BytesIn w a l) :
  Calls Tryz.prog 132 #[.int .u64 h, .slice a l.length cap] w fun e w' => e = .returned (.int .u64 (mixL h l : Nat)) ∧ w = w' := by
 unfold maxLen at hlen
 have HA := Lib.hid ha
 clear ha
 go_enter Tryz.func132, Tryz.ntmps132
 go_wp2
 go_loop [0, 5] (fun n i => ∃ (k X : Nat), k ≤ l.length ∧ i = .int .i64 k ∧ n = .int .u64 X ∧ X < 18446744073709551616 ∧ Hid (X = mixL h (l.take k))) (fun _ i => l.length - (intOf i).toNat)
 case atStart => exact ⟨0, h, Nat.zero_le _, rfl, rfl, hh, Lib.hid (by rw [List.take_zero, mixL_nil])⟩
 case round =>
  obtain ⟨k, X, hk, rfl, rfl, hX, HG⟩ := hrel
  by_cases hlt : k < l.length
  · obtain ⟨x, rfl, hc⟩ := HA.out k hlt
    have b1 : (l[k].toNat : Int) ≤ 255 := by have := l[k].toNat_lt; omega
    have hb := mix_bits X l[k] hX
    have hxl := xor_lt X l[k].toNat hX (by have := l[k].toNat_lt; omega)
    have HN : Hid (mixN X l[k].toNat = ((X ^^^ l[k].toNat) * 1099511628211) % 18446744073709551616) := Lib.hid rfl
    have HX := Lib.hid (mixN_lt X l[k].toNat)
    generalize X ^^^ l[k].toNat = Y at *
    have hw := mix_wrap Y
    go_wp2
    go_round
    case rel => exact ⟨k + 1, mixN X l[k].toNat, by omega, by go_num, congrArg (Value.int .u64) (by rw [HN.out]; omega), HX.out, Lib.hid (by rw [mixL_snoc h l k hlt, HG.out])⟩
    case measure => simp [intOf]; omega
  · go_wp2
    go_ret
    exact ⟨ret_int (by rw [HG.out, List.take_of_length_le (by omega)]), rfl⟩
def sumN (h : Nat) (s : ByteArray) : Nat := mixN (mixL h s.data.toList) 0
def sumL (l : List ByteArray) : Nat := l.foldl sumN 14695981039346656037
theorem sumN_lt (h : Nat) (s : ByteArray) : sumN h s < 18446744073709551616 := mixN_lt _ _
theorem sumL_nil : sumL [] = 14695981039346656037 := by unfold sumL; rw [List.foldl_nil]
theorem sumL_snoc (l : List ByteArray) (k : Nat) (hk : k < l.length) : sumL (l.take (k + 1)) = sumN (sumL (l.take k)) l[k] := by
 unfold sumL
 rw [List.take_succ_eq_append_getElem hk, List.foldl_append, List.foldl_cons, List.foldl_nil]
theorem refStart_any (w : World) : Calls Tryz.prog 131 #[] w fun e w' => e = .returned (.int .u64 14695981039346656037) ∧ w = w' := by
 go_enter Tryz.func131, Tryz.ntmps131
 go_wp2
 go_ret
 exact ⟨rfl, rfl⟩
theorem bytesIn_new (w : World) (s : ByteArray) (cap : Nat) :
  BytesIn (w.alloc (.cells (bytesRow s cap) 5 ((bytesRow s cap).size, (bytesRow s cap).size + 1))).drew (some ⟨w.heap.size, 0, none⟩) s.data.toList := fun j hj => by
 refine ⟨_, rfl, ?_⟩
 rw [Addr.add_lit, Nat.zero_add]
 exact (bytesAt_new w s cap j hj).1
theorem byteIn_new (w : World) (c : UInt8) (fr : Nat × Nat) : BytesIn (w.alloc (.cells #[.int .u8 (c.toNat : Int)] 5 fr)) (some ⟨w.heap.size, 0, none⟩) [c] := fun j hj => by
 have : j = 0 := by simpa using hj
 subst this
 refine ⟨_, rfl, ?_⟩
 rw [Addr.add_lit, Nat.zero_add, World.cell?_alloc_mark]; rfl
theorem len_toList (s : ByteArray) : s.data.toList.length = s.size := by simp
theorem refWrite_str (h : Nat) (s : ByteArray) (a : Option Addr) (cap : Nat) (w : World) (hh : h < 18446744073709551616) (hs : s.size ≤ maxLen) (ha : BytesIn w a s.data.toList) :
  Calls Tryz.prog 132 #[.int .u64 h, .slice a s.size cap] w fun e w' => e = .returned (.int .u64 (mixL h s.data.toList : Nat)) ∧ w = w' := by
 have := refHashWrite_any h s.data.toList a cap w hh (by rw [len_toList]; exact hs) ha
 rw [len_toList] at this; exact this
theorem refWrite_byte (h : Nat) (c : UInt8) (z : Int) (hz : z = (c.toNat : Int)) (w : World) (fr : Nat × Nat) (hh : h < 18446744073709551616) :
  Calls Tryz.prog 132 #[.int .u64 h, .slice (some ⟨w.heap.size, 0, none⟩) 1 1] (w.alloc (.cells #[.int .u8 z] 5 fr)) fun e w' => e = .returned (.int .u64 (mixN h c.toNat : Nat)) ∧ (w.alloc (.cells #[.int .u8 z] 5 fr)) = w' := by
 subst hz
 have := refHashWrite_any h [c] _ 1 _ hh (show 1 ≤ maxLen by decide) (byteIn_new w c fr)
 rw [mixL_cons, mixL_nil] at this
 exact this
set_option maxHeartbeats 1000000 in
theorem refSum_any (l : List ByteArray) (a : Option Addr) (cap : Nat) (w : World) (hlen : l.length ≤ maxLen) (hz : ∀ s ∈ l, s.size ≤ maxLen) (ha : StrsIn w a l) :
  Calls Tryz.prog 101 #[.slice a l.length cap] w fun e w' => e = .returned (.int .u64 (sumL l : Nat)) ∧ Below w.heap.size w w' := by
 unfold maxLen at hlen
 have HA := Lib.hid ha
 have HZ := Lib.hid hz
 clear ha hz
 have hcv := fun (w : World) (s : ByteArray) => run_bytes_of_string (P := Tryz.prog) w 9 29 5 s Tryz.underlying9 Tryz.underlying29 Tryz.underlying5
 go_enter Tryz.func101, Tryz.ntmps101
 go_wp2_with (go_at_call 131; refine (refStart_any _).mono ?_; rintro e w' ⟨rfl, rfl⟩)
 go_loopw [3, 4] (fun n i wr => ∃ (k X : Nat), k ≤ l.length ∧ i = .int .i64 k ∧ n = .int .u64 X ∧ X < 18446744073709551616 ∧ Hid (X = sumL (l.take k)) ∧ Hid (Below w.heap.size w wr)) (fun _ i _ => l.length - (intOf i).toNat)
 case atStart => exact ⟨0, 14695981039346656037, Nat.zero_le _, rfl, rfl, by decide, Lib.hid (by rw [List.take_zero, sumL_nil]), Lib.hid (Below.refl _ _)⟩
 case round =>
  obtain ⟨k, X, hk, rfl, rfl, hX, HG, HB⟩ := hrel
  by_cases hlt : k < l.length
  · obtain ⟨x, rfl, hc⟩ := HA.out.keep HB.out k hlt
    have hs := HZ.out _ (List.getElem_mem hlt)
    have HS := Lib.hid (sumL_snoc l k hlt)
    generalize l[k] = s at *
    go_wp2_with fail
    have HC := Lib.hid (bytesIn_new wr s (grownCap wr s.size 0 5))
    have HN := Lib.hid (below_trans HB.out (((Below.refl wr.heap.size wr).alloc (Nat.le_refl _) (.cells (bytesRow s (grownCap wr s.size 0 5)) 5 ((bytesRow s (grownCap wr s.size 0 5)).size, (bytesRow s (grownCap wr s.size 0 5)).size + 1))).drew))
    generalize (wr.alloc (.cells (bytesRow s (grownCap wr s.size 0 5)) 5 ((bytesRow s (grownCap wr s.size 0 5)).size, (bytesRow s (grownCap wr s.size 0 5)).size + 1))).drew = W1 at *
    refine (refWrite_str X s _ _ W1 hX hs HC.out).mono ?_
    rintro e w1 ⟨rfl, rfl⟩
    go_wp2_with fail
    refine (refWrite_byte _ 0 0 rfl W1 _ (mixL_lt _ _ hX)).mono ?_
    rintro e w1 ⟨rfl, rfl⟩
    go_wp2_with fail
    go_roundw
    case rel => exact ⟨k + 1, sumN X s, by omega, by go_num, rfl, sumN_lt _ _, Lib.hid (by rw [HS.out, HG.out]), Lib.hid (HN.out.alloc HN.out.size _)⟩
    case measure => simp [intOf]; omega
  · go_wp2
    go_ret
    exact ⟨ret_int (by rw [HG.out, List.take_of_length_le (by omega)]), HB.out⟩
end Go.Proofs.YtfghgenboahkkaaGreatDoor
namespace Go.Proofs.YtfghgenboahkkaaGreatDoor
open Go.ChangeShapes Go.WideShapes Go.ChangeAt Go.RowKit
theorem IsBytes.keep {w w' : World} {a : Option Addr} {l : List UInt8} {cap : Nat} (h : IsBytes w a l cap) (hb : Below w.heap.size w w') : IsBytes w' a l cap := by
 rcases h with h | ⟨x, h1, h2, h3, h4⟩
 · exact .inl h
 · exact .inr ⟨x, h1, h2, h3, fun j hj => below_cell hb (h4 j hj)⟩
theorem AccB.empty (w : World) : AccB w (w.alloc (.cells #[] 5)) (.slice (some ⟨w.heap.size, 0, none⟩) 0 0) [] := by
 refine ⟨⟨rfl, .inr ⟨w.heap.size, 0, #[], rfl, Nat.le_refl _, ?_, Nat.le_refl _, Nat.zero_le _, rfl, rfl⟩⟩, (Below.refl _ _).alloc (Nat.le_refl _) _⟩
 show (w.heap.push _)[w.heap.size]? = _
 simp
section
variable {ops : Array Oper} {rest : List Oper} {o : Oper} {act : Act} {Q : Exit → Act → World → Prop}
theorem wpList_append_accs (w : World) (hgd : o.guard = none) (s x : Operand) (ho : o.op = .call { callee := .builtin .append, args := #[s, x], argTypes := #[29, 29] })
  {w0 : World} {v : Value} {l : List UInt8} (hs : act.eval s = v) (h : AccB w0 w v l) {a : Option Addr} {r : List UInt8} {c : Nat} (hx : act.eval x = .slice a r.length c) (hr : IsBytes w a r c)
  (hn : l.length + r.length ≤ 140737488355328)
  (K : ∀ v' w', AccB w0 w' v' (l ++ r) → wpList Tryz.prog ops Q rest (act.put o.dst v') w') : wpList Tryz.prog ops Q (o :: rest) act w := by
 obtain ⟨i0, hi, hz0, hz1, hz2⟩ := info_parts Tryz.info5
 rcases hr with ⟨rfl, rfl, rfl⟩ | ⟨ad, rfl, hr1, hr2, hr3⟩
 · refine wpList_append_own_none hgd s x 29 ho w0.heap.size 5 i0 1 Tryz.underlying29 hi v l.length (bytesV l) hs h.1 hx (K _ _ ?_)
   rw [List.append_nil]; exact h
 · refine wpList_append_own_at w hgd s x 29 ho w0.heap.size 5 i0 (.int .u8 0) 1 1 Tryz.underlying29 hi hz0 hz1 hz2 rfl (by decide) v l.length (bytesV l) hs h.1 ad r.length c (bytesV r) hx (by rw [bytesV_len, Nat.mul_one]) ?_ ?_ (by unfold maxLen; omega) (by omega) h.2.size ?_
   · intro j u hj
     unfold bytesV at hj
     rw [List.getElem?_map] at hj
     obtain ⟨c', hc', rfl⟩ := Option.map_eq_some_iff.1 hj
     obtain ⟨hlt, rfl⟩ := List.getElem?_eq_some_iff.1 hc'
     exact hr3 j hlt
   · intro u hu
     unfold bytesV at hu
     obtain ⟨c', _, rfl⟩ := List.mem_map.1 hu
     rfl
   · intro v' w' hown hgrow _ _
     refine K v' w' ⟨?_, h.2.grown hgrow h.2.size fun k hk => (World.ownsRow.lt h.1 k hk).1⟩
     rw [List.length_append]
     have e : bytesV (l ++ r) = bytesV l ++ bytesV r := by unfold bytesV; rw [List.map_append]
     rw [e]; exact hown
end
theorem bulk_one {H : Type} (d : DataW H) : 1 ≤ Rows.uptoBulk d := by
 cases d with
 | lit l => cases l <;> simp [Rows.uptoBulk]
 | nil => simp [Rows.uptoBulk]
 | ptr d => simp [Rows.uptoBulk]
 | slice elems spare => simp [Rows.uptoBulk]
 | agg parts => simp [Rows.uptoBulk]
 | iface t d => simp [Rows.uptoBulk]
 | map entries => simp [Rows.uptoBulk]
 | held h => simp [Rows.uptoBulk]
theorem bulk_length {H : Type} : ∀ l : List (DataW H), l.length ≤ Rows.uptoBulkAll l
 | [] => Nat.zero_le _
 | x :: r => by have := bulk_one x; have := bulk_length r; simp only [Rows.uptoBulkAll, List.length_cons]; omega
theorem open_bytes_bulk {H : Type} {enc : TypeId × Value → H} {W : World} {a : Option Addr} {len cap : Nat} {d : DataW H} {ps : List MemPlace} {base : Nat}
  (h : DataW.Trod enc Tryz.prog W base (fun _ => true) true 29 (.slice a len cap) d ps) : ∃ l : List UInt8, len = l.length ∧ IsBytes W a l cap ∧ l.length ≤ Rows.uptoBulk d := by
 obtain ⟨l, hl, hb⟩ := open_bytes h
 refine ⟨l, hl, hb, ?_⟩
 obtain ⟨fuel, hf⟩ := h
 rcases open_ints Tryz.underlying29 Tryz.underlying5 (by kernel_rfl) hf with ⟨hcs, _⟩ | ⟨x, n, c, zs, hcs, _, hn, hm, hz, hx, _, _⟩
 · simp [Value.cells] at hcs
   omega
 · simp [Value.cells] at hcs
   obtain ⟨rfl, rfl, rfl⟩ := hcs
   have hz' : zs.length = cap := by simpa using hz
   have h1 := bulk_length (lits (H := H) .u8 (zs.take len))
   have h2 : (lits (H := H) .u8 (zs.take len)).length = len := by simp [lits]; omega
   have e := congrArg Prod.fst hx
   simp only at e
   rw [e]
   simp only [Rows.uptoBulk]
   omega
end Go.Proofs.YtfghgenboahkkaaGreatDoor
namespace Go.Proofs.YtfghgenboahkkaaGreatDoor
open Go.RowKit
def BytesV (w : World) (v : Value) (l : List UInt8) : Prop := ∃ a c, v = .slice a l.length c ∧ IsBytes w a l c
section
variable {Q : Exit → Act → World → Prop} {a : Act} {w : World} {o : Oper} {s : Spec}
theorem loc_eql_int {x y : Operand} {t : TypeId} (ho : o.op = .binOp .eql 3 x y t) {n : Int} (hx : a.eval x = .int .i64 n) (hy : a.eval y = .int .i64 n) (hs : s.p (.bool true) w) :
  o.wp Tryz.prog a w (fun a' w' => ∃ v, a' = a.put o.dst v ∧ Below w.heap.size w w' ∧ s.p v w') Q :=
 loc_run (v := .bool true) (by
  unfold execOp
  simp [ho, hx, hy, eqGuard, binOp, Op.intCmp]) (Below.refl _ _) hs
theorem loc_len {x : Operand} (ho : o.op = .call { callee := .builtin .len, args := #[x], argTypes := #[29] }) {ad : Option Addr} {n c : Nat} (hx : a.eval x = .slice ad n c) (hs : s.p (.int .i64 n) w) :
  o.wp Tryz.prog a w (fun a' w' => ∃ v, a' = a.put o.dst v ∧ Below w.heap.size w w' ∧ s.p v w') Q :=
 loc_run (v := .int .i64 n) (by
  unfold execOp
  simp [ho, hx, resolve, invoke, builtin, Builtin.len_, run_underlying Tryz.underlying29]
  try rfl) (Below.refl _ _) hs
end
end Go.Proofs.YtfghgenboahkkaaGreatDoor
