/- Contracts of the small functions of package ascii and of its reference: one byte, and loops over the bytes of a string. Contracts of Lower and Fold, of package ascii and of its reference. Plain facts on lists of bytes: trimming from both ends. Slices of strings in memory: one that is read, one that the call appends to, one that is kept beside it. The numbers that the shelf's contracts of Go's library (package strings, package strconv) have in this seat's translation: nothing is claimed here by itself. Contracts of Fold, Value, Trim, of package ascii and of its reference. Plain facts on lists of bytes: cutting at a byte, and the elements of comma-separated lists. Contracts of Same, Split and List, of package ascii and of its reference. Opening arguments: a byte, a slice of bytes. Opening an argument that is a slice of strings. Slices of bytes in memory: one that the call appends to; slices of numbers that are read. A region that draws its order, whose operations all leave the world in a class, but for the last one, which waits for all of them. A region that draws its order, by what each operation leaves: one fact an operation, whatever the order. Appending a slice of bytes that came in to a slice of the call's own; the law HashWrite at open arguments; what the bound on the arguments gives. More of a region's single operations: comparisons, lengths, slices of slices that are built. A region that draws its order and stores once, by what each operation leaves. SHA-256 in plain words, over words of 32 bits; how the arithmetic of the translated code is spelt at them. Fields: Valid of package field and of its reference; a field's line. A set of names in a map: setOf, and whether a field's name is in it. -/
import Derived.Test.YtnpbnaapbimjaaaGreatDoorRows
import Derived.WalkKit
import Derived.WalkSpells
import Derived.WalkLawsBesides
import Derived.BigQuiet
import Derived.Deep.QuietTactic
import Derived.Lib.Bytealg
import Derived.Lib.IndexLaws
import Derived.Lib.Hide
import Derived.Laws.IdiomStrings
import Derived.Lib.SlTrimSet
import Derived.Lib.IndexBytes
import Derived.Lib.Split
import Derived.Deep.AppendLies
import Derived.Shelf.SlGeneric
import Derived.Shelf.Strings.SlTrimAscii
import Derived.Shelf.Strings.SplitShaped
import Derived.Shelf.LaysM
import Derived.Shelf.Strings.BuilderK
import Derived.Shelf.Strconv.Itoa4
import Derived.Shelf.Strings.Builder2
import Derived.Shelf.SlLaysF0
import Derived.Shelf.SlLaysM
import Derived.Shelf.SlLaysN
import Derived.Ground.SlsfProg
import Derived.Ground.SlgmProg
import Derived.Ground.SlgnProg
import Derived.Test.YtnpbnaapbimjaaaGreatDoorProg
import Derived.Lib.SplitLaws
import Derived.WalkSmall
import Derived.ProofKit
import Derived.OpenShut
import Derived.Lib.Strings
import Derived.SliceStrings
import Derived.Deep.Quiet
import Derived.Tactics
import Derived.KernelRfl
import Derived.Below
import Derived.Laws.Bits64
import Derived.Lib.SlBytesConst
import Derived.Maps.AppendAt
import Derived.Laws.AppendOwnNone
import Derived.Great.BuildSlice
import Derived.Laws.Rows
import Derived.Laws.BitsAllLaws
import Derived.Laws.Shifts
import Derived.Maps.OwnOps
import Derived.Maps.OwnSet
namespace Go.Proofs.YtnpbnaapbimjaaaGreatDoor
open Go.RowKit

theorem ret_bool {a b : Bool} (h : a = b) : Ending.returned (.bool a) = .returned (.bool b) := by rw [h]
theorem ret_int {k : IntKind} {a b : Int} (h : a = b) : Ending.returned (.int k a) = .returned (.int k b) := by rw [h]
theorem ret_str {a b : ByteArray} (h : a = b) : Ending.returned (.string a) = .returned (.string b) := by rw [h]

def upB (c : Int) : Bool := decide (65 ≤ c) && decide (c ≤ 90)
def digB (c : Int) : Bool := decide (48 ≤ c) && decide (c ≤ 57)
def loB (c : Int) : Bool := decide (97 ≤ c) && decide (c ≤ 122)
def marks : ByteArray := ⟨#[33, 35, 36, 37, 38, 39, 42, 43, 45, 46, 94, 95, 96, 124, 126]⟩
def hasS (s : ByteArray) (c : UInt8) : Bool := s.data.toList.contains c
def tokB (c : UInt8) : Bool := upB c.toNat || loB c.toNat || digB c.toNat || hasS marks c
def tokS (s : ByteArray) : Bool := s.data.toList.all tokB && !s.data.toList.isEmpty

theorem take_snoc (s : ByteArray) (k : Nat) (h : k < s.size) : s.data.toList.take (k + 1) = s.data.toList.take k ++ [s[k]] := by
  rw [List.take_succ_eq_append_getElem (by simpa using h)]; rfl
theorem take_all (s : ByteArray) (k : Nat) (h : k ≤ s.size) (h2 : ¬ k < s.size) : s.data.toList.take k = s.data.toList := by
  rw [List.take_of_length_le]; simp; omega
set_option maxHeartbeats 400000 in
theorem isUpper_any (c : Int) (w : World) (h0 : 0 ≤ c) (h1 : c ≤ 255) :
    Calls Tryz.prog 45 #[.int .u8 c] w fun e w' => e = .returned (.bool (upB c)) ∧ w = w' := by
  go_enter Tryz.func45, Tryz.ntmps45
  go_wp2
  all_goals go_ret
  all_goals exact ⟨ret_bool (by unfold upB; rw [Bool.eq_iff_iff]; simp; omega), rfl⟩

theorem eqb_of {a b : UInt8} (h : ((a.toNat : Int) == (b.toNat : Int)) = true) : a = b := by
  apply UInt8.toNat_inj.1; simp at h; omega
end Go.Proofs.YtnpbnaapbimjaaaGreatDoor
namespace Go.Proofs.YtnpbnaapbimjaaaGreatDoor
open Go.RowKit

def lowB (c : UInt8) : UInt8 := if upB c.toNat then c + 32 else c
def lowS (s : ByteArray) : ByteArray := ⟨(s.data.toList.map lowB).toArray⟩
def foldS (a b : ByteArray) : Bool := (lowS a).toList == (lowS b).toList

/-- From block B on, a row of bytes l that may be written. -/
def BytesAt (w : World) (B : Nat) (l : List UInt8) : Prop :=
  ∀ j (hj : j < l.length), w.cell? ⟨B, j, none⟩ = some (.int .u8 (l[j].toNat : Int)) ∧ w.frozen? ⟨B, j, none⟩ = false

theorem BytesAt.set {w : World} {B : Nat} {l : List UInt8} (h : BytesAt w B l) {k : Nat} (hk : k < l.length) (c : UInt8) :
    BytesAt (w.setCell ⟨B, k, none⟩ (.int .u8 (c.toNat : Int))) B (l.set k c) := by
  intro j hj
  have hj' : j < l.length := by simpa using hj
  obtain ⟨h1, h2⟩ := h j hj'
  obtain ⟨k1, _⟩ := h k hk
  constructor
  · by_cases e : k = j
    · subst e
      rw [World.cell?_setCell_same _ _ _ k1]; simp
    · rw [World.cell?_setCell_other _ _ _ _ (by intro hh; apply e; cases hh; rfl)]
      rw [h1, List.getElem_set_ne e]
  · rw [← h2]; exact World.frozen?_setCell ..

theorem bytesAt_new (w : World) (s : ByteArray) (cap : Nat) :
    BytesAt (w.alloc (.cells (bytesRow s cap) 5 ((bytesRow s cap).size, (bytesRow s cap).size + 1))).drew w.heap.size s.data.toList := by
  intro j hj
  have hj' : j < s.data.size := by simpa using hj
  constructor
  · show (w.alloc _).cell? _ = _
    rw [World.cell?_alloc_mark, bytesRow_at s _ j hj']; simp
  · show (w.alloc _).frozen? _ = _
    rw [World.frozen?_alloc_mark]
    have : j < (bytesRow s cap).size := by
      have h := bytesRow_at s cap j hj'
      exact (Array.getElem?_eq_some_iff.1 h).1
    simp; omega

/-- The row after k rounds: the first k bytes lowered. -/
def lowRow (s : ByteArray) (k : Nat) : List UInt8 := (s.data.toList.take k).map lowB ++ s.data.toList.drop k
theorem lowRow_length (s : ByteArray) (k : Nat) : (lowRow s k).length = s.size := by
  unfold lowRow
  have : s.data.toList.length = s.size := by simp
  rw [List.length_append, List.length_map, List.length_take, List.length_drop]; omega
theorem lowRow_at (s : ByteArray) (k : Nat) (h : k < s.size) : (lowRow s k)[k]'(by rw [lowRow_length]; exact h) = s[k] := by
  unfold lowRow
  have hl : ((s.data.toList.take k).map lowB).length = k := by simp; omega
  rw [List.getElem_append_right (by omega), List.getElem_drop]
  have e : k + (k - ((s.data.toList.take k).map lowB).length) = k := by omega
  simp only [e]
  show s.data.toList[k] = s.data[k]
  simp
theorem lowRow_set (s : ByteArray) (k : Nat) (h : k < s.size) : lowRow s (k + 1) = (lowRow s k).set k (lowB s[k]) := by
  unfold lowRow
  have hl : ((s.data.toList.take k).map lowB).length = k := by simp; omega
  have hd : s.data.toList.drop k = s[k] :: s.data.toList.drop (k + 1) := by
    rw [List.drop_eq_getElem_cons (by simpa using h)]; rfl
  rw [hd, List.set_append_right _ _ (by omega), hl, Nat.sub_self, List.set_cons_zero, take_snoc s k h]
  simp
theorem lowRow_same (s : ByteArray) (k : Nat) (h : k < s.size) (hb : upB s[k].toNat = false) : lowRow s (k + 1) = lowRow s k := by
  rw [lowRow_set s k h]
  have : lowB s[k] = (lowRow s k)[k]'(by rw [lowRow_length]; exact h) := by rw [lowRow_at s k h]; unfold lowB; rw [hb]; rfl
  rw [this, List.set_getElem_self]
theorem lowRow_zero (s : ByteArray) : lowRow s 0 = s.data.toList := by simp [lowRow]
theorem lowRow_all (s : ByteArray) (k : Nat) (h : k ≤ s.size) (h2 : ¬ k < s.size) : lowRow s k = (s.data.toList.map lowB) := by
  have e : k = s.size := by omega
  unfold lowRow
  rw [take_all s k h h2, List.drop_of_length_le (by simp; omega)]; simp
theorem lowB_val (c : UInt8) (h : upB c.toNat = true) : ((lowB c).toNat : Int) = (c.toNat : Int) - 65 + 97 := by
  unfold lowB; rw [if_pos h]
  unfold upB at h; simp at h
  rw [UInt8.toNat_add]
  have : (32 : UInt8).toNat = 32 := rfl
  omega
theorem lowB_val' (c : UInt8) (h : upB c.toNat = true) : ((lowB c).toNat : Int) = (c.toNat : Int) + 32 := by
  rw [lowB_val c h]; omega

set_option maxHeartbeats 400000 in
theorem lower_any (s : ByteArray) (w : World) (hs : s.size ≤ maxLen) :
    Calls Tryz.prog 29 #[.string s] w fun e w' => e = .returned (.string (lowS s)) ∧ Below w.heap.size w w' := by
  unfold maxLen at hs
  have hcv := fun (w : World) (s : ByteArray) => run_bytes_of_string (P := Tryz.prog) w 9 51 5 s Tryz.underlying9 Tryz.underlying51 Tryz.underlying5
  go_enter Tryz.func29, Tryz.ntmps29
  go_wp2
  generalize grownCap w s.size 0 5 = cap
  have hn := Lib.hid (bytesAt_new w s cap)
  go_loopw [10] (fun i wr => ∃ k : Nat, k ≤ s.size ∧ i = .int .i64 k ∧ Hid (BytesAt wr w.heap.size (lowRow s k)) ∧ Below w.heap.size w wr) (fun i _ => s.size - (intOf i).toNat)
  case atStart => exact ⟨0, Nat.zero_le _, rfl, Lib.hid (by rw [lowRow_zero]; exact hn.out), ((Below.refl _ w).alloc (Nat.le_refl _) _).drew⟩
  case round =>
    obtain ⟨k, hk, rfl, HB, hbel⟩ := hrel
    by_cases hlt : k < s.size
    · obtain ⟨c1, c2⟩ := HB.out k (by rw [lowRow_length]; exact hlt)
      rw [lowRow_at s k hlt] at c1
      have b1 : (s[k].toNat : Int) ≤ 255 := by have := s[k].toNat_lt; omega
      by_cases hu : upB s[k].toNat = true
      · have hl := Lib.hid (lowB_val s[k] hu)
        have b2 : 65 ≤ (s[k].toNat : Int) ∧ (s[k].toNat : Int) ≤ 90 := by unfold upB at hu; simpa using hu
        obtain ⟨b3, b4⟩ := b2
        go_wp2_with (go_at_call 45; refine (isUpper_any _ _ (by omega) (by omega)).mono ?_; rintro e w' ⟨rfl, rfl⟩)
        go_roundw
        case rel => exact ⟨k + 1, by omega, by go_num, Lib.hid (by rw [lowRow_set s k hlt]; have := HB.out.set (by rw [lowRow_length]; exact hlt) (lowB s[k]); rw [hl.out] at this; exact this), hbel.setCell (by simp) _⟩
        case measure => simp [intOf]; omega
      · have hu' : upB s[k].toNat = false := by simpa using hu
        clear hu
        go_wp2_with (go_at_call 45; refine (isUpper_any _ _ (by omega) (by omega)).mono ?_; rintro e w' ⟨rfl, rfl⟩)
        go_roundw
        case rel => exact ⟨k + 1, by omega, by go_num, Lib.hid (by rw [lowRow_same s k hlt hu']; exact HB.out), hbel⟩
        case measure => simp [intOf]; omega
    · have hback := run_convert_bytes_back (P := Tryz.prog) wr 51 9 5 ⟨w.heap.size, 0, none⟩ cap (lowRow s k) Tryz.underlying51 Tryz.underlying5 Tryz.underlying9 (fun j hj => by
        rw [Addr.add_lit, Nat.zero_add]; exact (HB.out j hj).1)
      rw [lowRow_length] at hback
      go_wp2
      go_ret
      exact ⟨ret_str (by rw [lowRow_all s k hk hlt]; rfl), hbel⟩

set_option maxHeartbeats 400000 in
theorem refLower_any (s : ByteArray) (w : World) (hs : s.size ≤ maxLen) :
    Calls Tryz.prog 13 #[.string s] w fun e w' => e = .returned (.string (lowS s)) ∧ Below w.heap.size w w' := by
  unfold maxLen at hs
  have hcv := fun (w : World) (s : ByteArray) => run_bytes_of_string (P := Tryz.prog) w 9 51 5 s Tryz.underlying9 Tryz.underlying51 Tryz.underlying5
  go_enter Tryz.func13, Tryz.ntmps13
  go_wp2
  generalize grownCap w s.size 0 5 = cap
  have hn := Lib.hid (bytesAt_new w s cap)
  go_loopw [4] (fun i wr => ∃ k : Nat, k ≤ s.size ∧ i = .int .i64 k ∧ Hid (BytesAt wr w.heap.size (lowRow s k)) ∧ Below w.heap.size w wr) (fun i _ => s.size - (intOf i).toNat)
  case atStart => exact ⟨0, Nat.zero_le _, rfl, Lib.hid (by rw [lowRow_zero]; exact hn.out), ((Below.refl _ w).alloc (Nat.le_refl _) _).drew⟩
  case round =>
    obtain ⟨k, hk, rfl, HB, hbel⟩ := hrel
    by_cases hlt : k < s.size
    · obtain ⟨c1, c2⟩ := HB.out k (by rw [lowRow_length]; exact hlt)
      rw [lowRow_at s k hlt] at c1
      have b1 : (s[k].toNat : Int) ≤ 255 := by have := s[k].toNat_lt; omega
      by_cases hu : upB s[k].toNat = true
      · have hl := Lib.hid (lowB_val' s[k] hu)
        have b2 : 65 ≤ (s[k].toNat : Int) ∧ (s[k].toNat : Int) ≤ 90 := by unfold upB at hu; simpa using hu
        obtain ⟨b3, b4⟩ := b2
        have HU := Lib.hid hu; clear hu
        go_wp2
        go_roundw
        case rel => exact ⟨k + 1, by omega, by go_num, Lib.hid (by rw [lowRow_set s k hlt]; have := HB.out.set (by rw [lowRow_length]; exact hlt) (lowB s[k]); rw [hl.out] at this; exact this), hbel.setCell (by simp) _⟩
        case measure => simp [intOf]; omega
      · have hu' : upB s[k].toNat = false := by simpa using hu
        clear hu
        have HU := Lib.hid hu'
        have b2 : (s[k].toNat : Int) < 65 ∨ 90 < (s[k].toNat : Int) := by unfold upB at hu'; simp at hu'; omega
        clear hu'
        rcases b2 with b2 | b2
        all_goals
          go_wp2
          go_roundw
          case rel => exact ⟨k + 1, by omega, by go_num, Lib.hid (by rw [lowRow_same s k hlt HU.out]; exact HB.out), hbel⟩
          case measure => simp [intOf]; omega
    · have hback := run_convert_bytes_back (P := Tryz.prog) wr 51 9 5 ⟨w.heap.size, 0, none⟩ cap (lowRow s k) Tryz.underlying51 Tryz.underlying5 Tryz.underlying9 (fun j hj => by
        rw [Addr.add_lit, Nat.zero_add]; exact (HB.out j hj).1)
      rw [lowRow_length] at hback
      go_wp2
      go_ret
      exact ⟨ret_str (by rw [lowRow_all s k hk hlt]; rfl), hbel⟩
end Go.Proofs.YtnpbnaapbimjaaaGreatDoor
namespace Go.Proofs.YtnpbnaapbimjaaaGreatDoor
open Go

/-- The blanks: 32 and 9. -/
def blanks : List UInt8 := [32, 9]
def blankB (c : UInt8) : Bool := blanks.contains c
def rdrop (p : UInt8 → Bool) (l : List UInt8) : List UInt8 := (l.reverse.dropWhile p).reverse

theorem rdrop_cons (p : UInt8 → Bool) (a : UInt8) (t : List UInt8) : rdrop p (a :: t) = if (rdrop p t).isEmpty then [a].dropWhile p else a :: rdrop p t := by
  unfold rdrop
  rw [List.reverse_cons, List.dropWhile_append]
  have : (t.reverse.dropWhile p).reverse.isEmpty = (t.reverse.dropWhile p).isEmpty := by simp
  rw [this]
  split
  · cases h : p a <;> simp [List.dropWhile, h]
  · simp
theorem rdrop_empty (p : UInt8 → Bool) : ∀ t : List UInt8, (rdrop p t).isEmpty = t.all p
  | [] => rfl
  | a :: t => by
    rw [rdrop_cons, List.all_cons, rdrop_empty p t]
    cases ht : t.all p <;> cases h : p a <;> simp [List.dropWhile, h]
theorem dropWhile_all (p : UInt8 → Bool) : ∀ t : List UInt8, t.all p = true → t.dropWhile p = []
  | [], _ => rfl
  | a :: t, h => by
    rw [List.all_cons, Bool.and_eq_true] at h
    rw [List.dropWhile_cons, if_pos h.1]; exact dropWhile_all p t h.2

theorem trim_comm (p : UInt8 → Bool) : ∀ l : List UInt8, (rdrop p l).dropWhile p = rdrop p (l.dropWhile p)
  | [] => rfl
  | a :: t => by
    cases h : p a
    · have e : (a :: t).dropWhile p = a :: t := by rw [List.dropWhile_cons, if_neg (by simp [h])]
      rw [e, rdrop_cons]
      split
      · simp [List.dropWhile, h]
      · rw [List.dropWhile_cons, if_neg (by simp [h])]
    · have e : (a :: t).dropWhile p = t.dropWhile p := by rw [List.dropWhile_cons, if_pos h]
      rw [e, rdrop_cons, rdrop_empty]
      split
      · rename_i ht
        rw [dropWhile_all p t ht]; simp [List.dropWhile, h, rdrop]
      · rw [List.dropWhile_cons, if_pos h]; exact trim_comm p t

/-- Trim: the blanks of both ends are cut off. -/
def trimL (l : List UInt8) : List UInt8 := (rdrop blankB l).dropWhile blankB
theorem length_dropWhile (p : UInt8 → Bool) : ∀ l : List UInt8, (l.dropWhile p).length ≤ l.length
  | [] => Nat.le_refl _
  | a :: t => by
    rw [List.dropWhile_cons]; split
    · have := length_dropWhile p t; simp; omega
    · exact Nat.le_refl _
theorem trimL_length (l : List UInt8) : (trimL l).length ≤ l.length := by
  unfold trimL
  have h1 := length_dropWhile blankB (rdrop blankB l)
  have h2 : (rdrop blankB l).length ≤ l.length := by
    unfold rdrop; rw [List.length_reverse]; have := length_dropWhile blankB l.reverse; simpa using this
  omega
def trimBA (s : ByteArray) : ByteArray := ⟨(trimL s.data.toList).toArray⟩
theorem trimBA_list (s : ByteArray) : (trimBA s).data.toList = trimL s.data.toList := by simp [trimBA]
theorem trimBA_size (s : ByteArray) : (trimBA s).size ≤ s.size := by
  have := trimL_length s.data.toList
  have h1 : (trimBA s).size = (trimL s.data.toList).length := by show (trimBA s).data.size = _; simp [trimBA]
  have h2 : s.size = s.data.toList.length := by simp
  omega
theorem ba_ext {a b : ByteArray} (h : a.data.toList = b.data.toList) : a = b := by
  cases a; cases b; simp at h; simp [h]
/-- One step of the loop from the front, and its end. -/
theorem drop_step (t : ByteArray) (h : 0 < t.size) (hb : blankB t[0] = true) : (t.extract 1 t.size).data.toList.dropWhile blankB = t.data.toList.dropWhile blankB := by
  rw [Lib.extract_to_end]
  have e : t.data.toList = t[0] :: t.data.toList.drop 1 := by
    have : 0 < t.data.toList.length := by simpa using h
    rw [← List.drop_zero (l := t.data.toList), List.drop_eq_getElem_cons this]; simp; rfl
  conv => rhs; rw [e]
  rw [List.dropWhile_cons, if_pos hb]
theorem drop_end (t : ByteArray) (hb : ∀ h : 0 < t.size, blankB t[0] = false) : t.data.toList.dropWhile blankB = t.data.toList := by
  by_cases h : 0 < t.size
  · have e : t.data.toList = t[0] :: t.data.toList.drop 1 := by
      have : 0 < t.data.toList.length := by simpa using h
      rw [← List.drop_zero (l := t.data.toList), List.drop_eq_getElem_cons this]; simp; rfl
    rw [e, List.dropWhile_cons, if_neg (by simp [hb h])]
  · have : t.data.toList = [] := by apply List.eq_nil_of_length_eq_zero; have hl : t.data.toList.length = t.size := by simp
                                    omega
    rw [this]; rfl
theorem back_eq (t : ByteArray) (h : 0 < t.size) : t.data.toList = t.data.toList.take (t.size - 1) ++ [t[t.size - 1]] := by
  have h1 : t.size - 1 < t.data.toList.length := by simp; omega
  have : t.data.toList.take (t.size - 1 + 1) = t.data.toList := by rw [List.take_of_length_le]; simp; omega
  rw [List.take_succ_eq_append_getElem h1] at this
  exact this.symm
theorem rdrop_step (t : ByteArray) (h : 0 < t.size) (hb : blankB t[t.size - 1] = true) : rdrop blankB (t.extract 0 (t.size - 1)).data.toList = rdrop blankB t.data.toList := by
  rw [Lib.extract_from_zero]
  conv => rhs; rw [back_eq t h]
  unfold rdrop
  rw [List.reverse_append]; simp only [List.reverse_cons, List.reverse_nil, List.nil_append, List.cons_append]
  rw [List.dropWhile_cons, if_pos hb]
theorem rdrop_end (t : ByteArray) (hb : ∀ h : 0 < t.size, blankB t[t.size - 1] = false) : rdrop blankB t.data.toList = t.data.toList := by
  by_cases h : 0 < t.size
  · conv => lhs; rw [back_eq t h]
    unfold rdrop
    rw [List.reverse_append]; simp only [List.reverse_cons, List.reverse_nil, List.nil_append, List.cons_append]
    rw [List.dropWhile_cons, if_neg (by simp [hb h])]
    rw [List.reverse_cons, List.reverse_reverse]; exact (back_eq t h).symm
  · have : t.data.toList = [] := by apply List.eq_nil_of_length_eq_zero; have hl : t.data.toList.length = t.size := by simp
                                    omega
    rw [this]; rfl
end Go.Proofs.YtnpbnaapbimjaaaGreatDoor
namespace Go.Proofs.YtnpbnaapbimjaaaGreatDoor
open Go.RowKit

theorem lt_cell {w : World} {a : Addr} {v : Value} (h : w.cell? a = some v) : a.block < w.heap.size := by
  rcases Nat.lt_or_ge a.block w.heap.size with h' | h'
  · exact h'
  · simp [World.cell?, Array.getElem?_eq_none h'] at h
theorem below_trans {w w1 w2 : World} (h : Below w.heap.size w w1) (k : Below w1.heap.size w1 w2) : Below w.heap.size w w2 := h.trans (k.mono h.size)
theorem below_cell {w w' : World} (h : Below w.heap.size w w') {a : Addr} {v : Value} (hc : w.cell? a = some v) : w'.cell? a = some v := by
  rw [h.cell (lt_cell hc)]; exact hc

/-- The slice at a holds the strings l. -/
def StrsAt (w : World) (a : Option Addr) (l : List ByteArray) : Prop :=
  ∀ j (hj : j < l.length), ∃ b off, a = some ⟨b, off, none⟩ ∧ w.cell? ⟨b, off + j, none⟩ = some (.string l[j])
theorem StrsAt.keep {w w' : World} {a : Option Addr} {l : List ByteArray} (h : StrsAt w a l) (hb : Below w.heap.size w w') : StrsAt w' a l := fun j hj => by
  obtain ⟨b, off, e, hc⟩ := h j hj
  exact ⟨b, off, e, below_cell hb hc⟩
theorem StrsAt.nil (w : World) (a : Option Addr) : StrsAt w a [] := fun _ hj => absurd hj (Nat.not_lt_zero _)

/-- The call returns a slice of the strings l; what was there is as it was. -/
def RetStrs (w : World) (l : List ByteArray) (e : Ending) (w' : World) : Prop :=
  ∃ a cap, e = .returned (.slice a l.length cap) ∧ StrsAt w' a l ∧ Below w.heap.size w w'
/-- The same, and the slice is new and not nil. -/
def RetFresh (w : World) (l : List ByteArray) (e : Ending) (w' : World) : Prop :=
  ∃ g cap, e = .returned (.slice (some ⟨g, 0, none⟩) l.length cap) ∧ w.heap.size ≤ g ∧ g < w'.heap.size ∧ StrsAt w' (some ⟨g, 0, none⟩) l ∧ Below w.heap.size w w'

theorem Tryz.info9 : (Tryz.prog.info? 9).map (fun i => (i.zero, i.size, i.bytes)) = some (some (.string ⟨#[]⟩), 1, 16) := by kernel_rfl

/-- v is a slice of the call's own with the strings l; what was there before the call is as it was. -/
def Acc (w0 w : World) (v : Value) (l : List ByteArray) : Prop :=
  w.ownsRow w0.heap.size 9 1 v l.length (l.map Value.string) ∧ Below w0.heap.size w0 w
/-- Beside v lies the slice P of the strings parts. -/
def Aside (w : World) (v : Value) (P : Nat) (parts : List ByteArray) : Prop :=
  StrsAt w (some ⟨P, 0, none⟩) parts ∧ v.ownBlock ≠ some P ∧ P < w.heap.size

theorem Acc.start (w : World) : Acc w w (.slice none 0 0) [] := ⟨World.ownsRow_nil _ _ _ _, Below.refl _ _⟩
theorem Acc.size {w0 w : World} {v : Value} {l : List ByteArray} (h : Acc w0 w v l) : w0.heap.size ≤ w.heap.size := h.2.size
theorem ownsRow_keep {w w' : World} {base : Nat} {e : TypeId} {size n : Nat} {v : Value} {xs : List Value} (h : w.ownsRow base e size v n xs) (hb : Below w.heap.size w w') : w'.ownsRow base e size v n xs := by
  obtain ⟨h1, h2⟩ := h
  refine ⟨h1, ?_⟩
  rcases h2 with h2 | ⟨g, cap, cur, hv, hg, hc, r⟩
  · exact .inl h2
  · have hlt : g < w.heap.size := by
      rcases Nat.lt_or_ge g w.heap.size with h' | h'
      · exact h'
      · rw [Array.getElem?_eq_none h'] at hc; cases hc
    exact .inr ⟨g, cap, cur, hv, hg, by rw [hb.block g hlt]; exact hc, r⟩
theorem Acc.keep {w0 w w' : World} {v : Value} {l : List ByteArray} (h : Acc w0 w v l) (hb : Below w.heap.size w w') : Acc w0 w' v l :=
  ⟨ownsRow_keep h.1 hb, h.2.trans (hb.mono h.2.size)⟩
theorem Aside.keep {w w' : World} {v : Value} {P : Nat} {parts : List ByteArray} (h : Aside w v P parts) (hb : Below w.heap.size w w') : Aside w' v P parts :=
  ⟨h.1.keep hb, h.2.1, Nat.lt_of_lt_of_le h.2.2 hb.size⟩
theorem Acc.lt {w0 w : World} {v : Value} {l : List ByteArray} (h : Acc w0 w v l) {k : Nat} (hk : v.ownBlock = some k) : k < w.heap.size := (World.ownsRow.lt h.1 k hk).2
/-- A slice that is new beside v. -/
theorem Aside.fresh {w0 w w' : World} {v : Value} {l : List ByteArray} (h : Acc w0 w v l) {P : Nat} {parts : List ByteArray} (hP : w.heap.size ≤ P) (hlt : P < w'.heap.size) (hs : StrsAt w' (some ⟨P, 0, none⟩) parts) : Aside w' v P parts :=
  ⟨hs, fun e => by have := h.lt e; omega, hlt⟩
/-- The shape of v. -/
theorem Acc.shape {w0 w : World} {v : Value} {l : List ByteArray} (h : Acc w0 w v l) : ∃ a cap, v = .slice a l.length cap ∧ StrsAt w a l := by
  obtain ⟨⟨h1, h2⟩, _⟩ := h
  rcases h2 with ⟨rfl, h2⟩ | ⟨g, cap, cur, rfl, hg, hc, hcap, hm, hsz, ht⟩
  · have : l = [] := List.eq_nil_of_length_eq_zero h2
    subst this
    exact ⟨none, 0, rfl, StrsAt.nil _ _⟩
  · refine ⟨_, cap, rfl, fun j hj => ⟨g, 0, rfl, ?_⟩⟩
    have e : cur.toList[j]? = some (Value.string l[j]) := by
      have := congrArg (fun x => x[j]?) ht
      simp only [Nat.mul_one] at this
      rw [List.getElem?_take_of_lt hj, List.getElem?_map, List.getElem?_eq_getElem hj] at this
      exact this
    simp only [World.cell?, hc, Nat.zero_add]
    simpa using e

/-- The call returns a slice of its own with the strings l; what was there is as it was. -/
def RetAcc (w : World) (l : List ByteArray) (e : Ending) (w' : World) : Prop := ∃ v, e = .returned v ∧ Acc w w' v l
theorem Acc.lift {w w1 w2 : World} {v : Value} {l : List ByteArray} (h : Below w.heap.size w w1) (k : Acc w1 w2 v l) : Acc w w2 v l := by
  refine ⟨?_, below_trans h k.2⟩
  obtain ⟨⟨h1, h2⟩, _⟩ := k
  refine ⟨h1, ?_⟩
  rcases h2 with h2 | ⟨g, cap, cur, hv, hg, r⟩
  · exact .inl h2
  · exact .inr ⟨g, cap, cur, hv, Nat.le_trans h.size hg, r⟩
theorem Acc.isNew {w0 w : World} {v : Value} {l : List ByteArray} (h : Acc w0 w v l) (hne : l ≠ []) : ∃ g cap, v = .slice (some ⟨g, 0, none⟩) l.length cap ∧ w0.heap.size ≤ g ∧ g < w.heap.size ∧ StrsAt w (some ⟨g, 0, none⟩) l := by
  obtain ⟨a, cap, hv, hs⟩ := h.shape
  have hpos : 0 < l.length := by cases l with
    | nil => exact absurd rfl hne
    | cons _ _ => simp
  obtain ⟨⟨h1, h2⟩, hb⟩ := h
  rcases h2 with ⟨_, h2⟩ | ⟨g, cap', cur, hv', hg, hc, _⟩
  · omega
  · rw [hv] at hv'; cases hv'
    have hlt : g < w.heap.size := by
      rcases Nat.lt_or_ge g w.heap.size with h' | h'
      · exact h'
      · rw [Array.getElem?_eq_none h'] at hc; cases hc
    exact ⟨g, cap, hv, hg, hlt, hs⟩

section
variable {ops : Array Oper} {rest : List Oper} {o : Oper} {act : Act} {Q : Exit → Act → World → Prop}
/-- APPEND of one string to a slice of the call's own. -/
theorem wpList_append_acc (w : World) (hgd : o.guard = none) (s x : Operand) (ho : o.op = .call { callee := .builtin .append, args := #[s, x], argTypes := #[24, 24] })
    {w0 : World} {v : Value} {l : List ByteArray} (hs : act.eval s = v) (h : Acc w0 w v l) {b c : Nat} (hx : act.eval x = .slice (some ⟨b, 0, none⟩) 1 c) {y : ByteArray} (hy : w.cell? ⟨b, 0, none⟩ = some (.string y))
    (hn : l.length + 1 ≤ 8796093022208)
    (K : ∀ g cap w', Acc w0 w' (.slice (some ⟨g, 0, none⟩) (l.length + 1) cap) (l ++ [y]) → (∀ P parts, Aside w v P parts → Aside w' (.slice (some ⟨g, 0, none⟩) (l.length + 1) cap) P parts) →
      wpList Tryz.prog ops Q rest (act.put o.dst (.slice (some ⟨g, 0, none⟩) (l.length + 1) cap)) w') : wpList Tryz.prog ops Q (o :: rest) act w := by
  obtain ⟨i0, hi, hz0, hz1, hz2⟩ := info_parts Tryz.info9
  refine wpList_append_lies w hgd s x 24 ho w0.heap.size 9 i0 (.string ⟨#[]⟩) 1 16 Tryz.underlying24 hi hz0 hz1 hz2 rfl (by decide) v l.length (l.map Value.string) hs h.1 ⟨b, 0, none⟩ 1 c [.string y] hx rfl ?_ ?_ (by decide) (by unfold maxLen; omega) (by omega) h.2.size w.heap.size rfl ?_
  · intro j u hj
    match j, hj with
    | 0, hj => simp at hj; subst hj; rw [Addr.add_lit]; exact hy
    | j + 1, hj => simp at hj
  · intro u hu; simp at hu; subst hu; rfl
  · intro g cap w' hown hgrow hg hlt
    have hacc : Acc w0 w' (.slice (some ⟨g, 0, none⟩) (l.length + 1) cap) (l ++ [y]) := by
      refine ⟨by simpa using hown, h.2.grown hgrow h.2.size fun k hk => ?_⟩
      exact (World.ownsRow.lt h.1 k hk).1
    refine K g cap w' hacc (fun P parts hP => ⟨fun j hj => ?_, ?_, ?_⟩)
    · obtain ⟨b', off, e, hc⟩ := hP.1 j hj
      cases e
      exact ⟨P, 0, rfl, hgrow.cell hc (fun e => hP.2.1 e.symm)⟩
    · intro e
      have : g = P := by simpa [Value.ownBlock] using e
      subst this
      rcases hg with hg | hg
      · exact hP.2.1 hg
      · have := hP.2.2; omega
    · exact Nat.lt_of_lt_of_le hP.2.2 hgrow.size
end
end Go.Proofs.YtnpbnaapbimjaaaGreatDoor
namespace Go.Proofs
open Go.Shelf
def Tryz.lays160_ren : Go.Shelf.Ren := ⟨fun | 160 => 96 | 232 => 101 | 231 => 100 | 227 => 102 | 234 => 104 | 233 => 103 | 236 => 106 | 235 => 105 | 228 => 111 | 271 => 113 | 151 => 112 | 197 => 108 | 120 => 120 | 152 => 119 | 260 => 114 | 137 => 123 | 119 => 124 | 224 => 117 | 225 => 116 | 217 => 115 | 266 => 121 | n => n, fun | 9 => 9 | 4 => 4 | 3 => 3 | 5 => 5 | 117 => 122 | 116 => 121 | 0 => 0 | 124 => 125 | 21 => 21 | 105 => 127 | 46 => 65 | 119 => 132 | 139 => 135 | 138 => 134 | n => n, fun | 3 => 1 | 4 => 2 | n => n⟩
theorem Tryz.lays160 : Go.Proofs.Lays.n160 Tryz.prog Tryz.lays160_ren := {
  mixed := by kernel_rfl
  f119 := Tryz.func124.trans (congrArg some (by kernel_rfl))
  f120 := Tryz.func120.trans (congrArg some (by kernel_rfl))
  f137 := Tryz.func123.trans (congrArg some (by kernel_rfl))
  f151 := Tryz.func112.trans (congrArg some (by kernel_rfl))
  f152 := Tryz.func119.trans (congrArg some (by kernel_rfl))
  f160 := Tryz.func96.trans (congrArg some (by kernel_rfl))
  f197 := Tryz.func108.trans (congrArg some (by kernel_rfl))
  f217 := Tryz.func115.trans (congrArg some (by kernel_rfl))
  f224 := Tryz.func117.trans (congrArg some (by kernel_rfl))
  f225 := Tryz.func116.trans (congrArg some (by kernel_rfl))
  f227 := Tryz.func102.trans (congrArg some (by kernel_rfl))
  f228 := Tryz.func111.trans (congrArg some (by kernel_rfl))
  f231 := Tryz.func100.trans (congrArg some (by kernel_rfl))
  f232 := Tryz.func101.trans (congrArg some (by kernel_rfl))
  f233 := Tryz.func103.trans (congrArg some (by kernel_rfl))
  f234 := Tryz.func104.trans (congrArg some (by kernel_rfl))
  f235 := Tryz.func105.trans (congrArg some (by kernel_rfl))
  f236 := Tryz.func106.trans (congrArg some (by kernel_rfl))
  f260 := Tryz.func114.trans (congrArg some (by kernel_rfl))
  f266 := Tryz.func121.trans (congrArg some (by kernel_rfl))
  f271 := Tryz.func113.trans (congrArg some (by kernel_rfl))
  t0 := Tryz.underlying0
  a0 := Tryz.isAgg0
  z0 := Tryz.sizeOf0
  v0 := Tryz.zeroValue0
  t3 := Tryz.underlying3
  a3 := Tryz.isAgg3
  z3 := Tryz.sizeOf3
  v3 := Tryz.zeroValue3
  t4 := Tryz.underlying4
  a4 := Tryz.isAgg4
  z4 := Tryz.sizeOf4
  v4 := Tryz.zeroValue4
  t5 := Tryz.underlying5
  a5 := Tryz.isAgg5
  z5 := Tryz.sizeOf5
  v5 := Tryz.zeroValue5
  t9 := Tryz.underlying9
  a9 := Tryz.isAgg9
  z9 := Tryz.sizeOf9
  v9 := Tryz.zeroValue9
  t21 := Tryz.underlying21
  a21 := Tryz.isAgg21
  z21 := Tryz.sizeOf21
  v21 := Tryz.zeroValue21
  t46 := Tryz.underlying65
  a46 := Tryz.isAgg65
  z46 := Tryz.sizeOf65
  v46 := Tryz.zeroValue65
  t105 := Tryz.underlying127
  a105 := Tryz.isAgg127
  z105 := Tryz.sizeOf127
  v105 := Tryz.zeroValue127
  t116 := Tryz.underlying121
  a116 := Tryz.isAgg121
  z116 := Tryz.sizeOf121
  t117 := Tryz.underlying122
  a117 := Tryz.isAgg122
  z117 := Tryz.sizeOf122
  v117 := Tryz.zeroValue122
  t119 := Tryz.underlying132
  a119 := Tryz.isAgg132
  z119 := Tryz.sizeOf132
  t124 := Tryz.underlying125
  a124 := Tryz.isAgg125
  z124 := Tryz.sizeOf125
  v124 := Tryz.zeroValue125
  t138 := Tryz.underlying134
  a138 := Tryz.isAgg134
  z138 := Tryz.sizeOf134
  v138 := Tryz.zeroValue134
  t139 := Tryz.underlying135
  a139 := Tryz.isAgg135
  z139 := Tryz.sizeOf135
  v139 := Tryz.zeroValue135
  g3 := by kernel_rfl
  g4 := by kernel_rfl }
def Tryz.lays146_ren : Go.Shelf.Ren := ⟨fun | 146 => 93 | 221 => 95 | 268 => 97 | 138 => 98 | 143 => 99 | 195 => 107 | 197 => 108 | 218 => 109 | 219 => 110 | 260 => 114 | 217 => 115 | 225 => 116 | 224 => 117 | 267 => 118 | 266 => 121 | 314 => 122 | n => n, fun | 9 => 9 | 31 => 24 | 3 => 3 | 4 => 4 | 0 => 0 | 105 => 127 | 21 => 21 | 5 => 5 | 46 => 65 | 119 => 132 | 139 => 135 | 138 => 134 | 146 => 136 | 51 => 89 | n => n, fun | 1 => 0 | 3 => 1 | 4 => 2 | n => n⟩
theorem Tryz.lays146 : Go.Proofs.Lays.n146 Tryz.prog Tryz.lays146_ren := {
  mixed := by kernel_rfl
  f138 := Tryz.func98.trans (congrArg some (by kernel_rfl))
  f143 := Tryz.func99.trans (congrArg some (by kernel_rfl))
  f146 := Tryz.func93.trans (congrArg some (by kernel_rfl))
  f195 := Tryz.func107.trans (congrArg some (by kernel_rfl))
  f197 := Tryz.func108.trans (congrArg some (by kernel_rfl))
  f217 := Tryz.func115.trans (congrArg some (by kernel_rfl))
  f218 := Tryz.func109.trans (congrArg some (by kernel_rfl))
  f219 := Tryz.func110.trans (congrArg some (by kernel_rfl))
  f221 := Tryz.func95.trans (congrArg some (by kernel_rfl))
  f224 := Tryz.func117.trans (congrArg some (by kernel_rfl))
  f225 := Tryz.func116.trans (congrArg some (by kernel_rfl))
  f260 := Tryz.func114.trans (congrArg some (by kernel_rfl))
  f266 := Tryz.func121.trans (congrArg some (by kernel_rfl))
  f267 := Tryz.func118.trans (congrArg some (by kernel_rfl))
  f268 := Tryz.func97.trans (congrArg some (by kernel_rfl))
  f314 := Tryz.func122.trans (congrArg some (by kernel_rfl))
  t0 := Tryz.underlying0
  a0 := Tryz.isAgg0
  z0 := Tryz.sizeOf0
  v0 := Tryz.zeroValue0
  t3 := Tryz.underlying3
  a3 := Tryz.isAgg3
  z3 := Tryz.sizeOf3
  v3 := Tryz.zeroValue3
  t4 := Tryz.underlying4
  a4 := Tryz.isAgg4
  z4 := Tryz.sizeOf4
  v4 := Tryz.zeroValue4
  t5 := Tryz.underlying5
  a5 := Tryz.isAgg5
  z5 := Tryz.sizeOf5
  v5 := Tryz.zeroValue5
  t9 := Tryz.underlying9
  a9 := Tryz.isAgg9
  z9 := Tryz.sizeOf9
  v9 := Tryz.zeroValue9
  t21 := Tryz.underlying21
  a21 := Tryz.isAgg21
  z21 := Tryz.sizeOf21
  v21 := Tryz.zeroValue21
  t31 := Tryz.underlying24
  a31 := Tryz.isAgg24
  z31 := Tryz.sizeOf24
  v31 := Tryz.zeroValue24
  t46 := Tryz.underlying65
  a46 := Tryz.isAgg65
  z46 := Tryz.sizeOf65
  v46 := Tryz.zeroValue65
  t51 := Tryz.underlying89
  a51 := Tryz.isAgg89
  z51 := Tryz.sizeOf89
  v51 := Tryz.zeroValue89
  t105 := Tryz.underlying127
  a105 := Tryz.isAgg127
  z105 := Tryz.sizeOf127
  v105 := Tryz.zeroValue127
  t119 := Tryz.underlying132
  a119 := Tryz.isAgg132
  z119 := Tryz.sizeOf132
  t138 := Tryz.underlying134
  a138 := Tryz.isAgg134
  z138 := Tryz.sizeOf134
  v138 := Tryz.zeroValue134
  t139 := Tryz.underlying135
  a139 := Tryz.isAgg135
  z139 := Tryz.sizeOf135
  v139 := Tryz.zeroValue135
  t146 := Tryz.underlying136
  a146 := Tryz.isAgg136
  z146 := Tryz.sizeOf136
  v146 := Tryz.zeroValue136
  g1 := by kernel_rfl
  g3 := by kernel_rfl
  g4 := by kernel_rfl }
def Tryz.laysM146_ren : Go.Shelf.Ren := ⟨fun | 146 => 93 | 221 => 95 | 268 => 97 | 138 => 98 | 143 => 99 | 195 => 107 | 197 => 108 | 218 => 109 | 219 => 110 | 260 => 114 | 217 => 115 | 225 => 116 | 224 => 117 | 267 => 118 | 266 => 121 | 314 => 122 | n => n, fun | 9 => 9 | 31 => 24 | 3 => 3 | 4 => 4 | 0 => 0 | 105 => 127 | 21 => 21 | 5 => 5 | 46 => 65 | 119 => 132 | 139 => 135 | 138 => 134 | 146 => 136 | 51 => 89 | n => n, fun | 1 => 0 | 3 => 1 | 4 => 2 | n => n⟩
theorem Tryz.laysM146 : Go.Proofs.LaysM.n146 Tryz.prog Tryz.laysM146_ren := {
  mixed := by kernel_rfl
  f138 := Tryz.func98.trans (congrArg some (by kernel_rfl))
  f143 := Tryz.func99.trans (congrArg some (by kernel_rfl))
  f146 := Tryz.func93.trans (congrArg some (by kernel_rfl))
  f195 := Tryz.func107.trans (congrArg some (by kernel_rfl))
  f197 := Tryz.func108.trans (congrArg some (by kernel_rfl))
  f217 := Tryz.func115.trans (congrArg some (by kernel_rfl))
  f218 := Tryz.func109.trans (congrArg some (by kernel_rfl))
  f219 := Tryz.func110.trans (congrArg some (by kernel_rfl))
  f221 := Tryz.func95.trans (congrArg some (by kernel_rfl))
  f224 := Tryz.func117.trans (congrArg some (by kernel_rfl))
  f225 := Tryz.func116.trans (congrArg some (by kernel_rfl))
  f260 := Tryz.func114.trans (congrArg some (by kernel_rfl))
  f266 := Tryz.func121.trans (congrArg some (by kernel_rfl))
  f267 := Tryz.func118.trans (congrArg some (by kernel_rfl))
  f268 := Tryz.func97.trans (congrArg some (by kernel_rfl))
  f314 := Tryz.func122.trans (congrArg some (by kernel_rfl))
  t0 := Tryz.underlying0
  a0 := Tryz.isAgg0
  z0 := Tryz.sizeOf0
  v0 := Tryz.zeroValue0
  t3 := Tryz.underlying3
  a3 := Tryz.isAgg3
  z3 := Tryz.sizeOf3
  v3 := Tryz.zeroValue3
  t4 := Tryz.underlying4
  a4 := Tryz.isAgg4
  z4 := Tryz.sizeOf4
  v4 := Tryz.zeroValue4
  t5 := Tryz.underlying5
  a5 := Tryz.isAgg5
  z5 := Tryz.sizeOf5
  v5 := Tryz.zeroValue5
  t9 := Tryz.underlying9
  a9 := Tryz.isAgg9
  z9 := Tryz.sizeOf9
  v9 := Tryz.zeroValue9
  t21 := Tryz.underlying21
  a21 := Tryz.isAgg21
  z21 := Tryz.sizeOf21
  v21 := Tryz.zeroValue21
  t31 := Tryz.underlying24
  a31 := Tryz.isAgg24
  z31 := Tryz.sizeOf24
  v31 := Tryz.zeroValue24
  t46 := Tryz.underlying65
  a46 := Tryz.isAgg65
  z46 := Tryz.sizeOf65
  v46 := Tryz.zeroValue65
  t51 := Tryz.underlying89
  a51 := Tryz.isAgg89
  z51 := Tryz.sizeOf89
  v51 := Tryz.zeroValue89
  t105 := Tryz.underlying127
  a105 := Tryz.isAgg127
  z105 := Tryz.sizeOf127
  v105 := Tryz.zeroValue127
  t119 := Tryz.underlying132
  a119 := Tryz.isAgg132
  z119 := Tryz.sizeOf132
  t138 := Tryz.underlying134
  a138 := Tryz.isAgg134
  z138 := Tryz.sizeOf134
  v138 := Tryz.zeroValue134
  t139 := Tryz.underlying135
  a139 := Tryz.isAgg135
  z139 := Tryz.sizeOf135
  v139 := Tryz.zeroValue135
  t146 := Tryz.underlying136
  a146 := Tryz.isAgg136
  z146 := Tryz.sizeOf136
  v146 := Tryz.zeroValue136
  g1 := by kernel_rfl
  g3 := by kernel_rfl
  g4 := by kernel_rfl
  i0 := by kernel_rfl
  i3 := by kernel_rfl
  i4 := by kernel_rfl
  i5 := by kernel_rfl
  i9 := by kernel_rfl
  i21 := by kernel_rfl
  i31 := by kernel_rfl
  i46 := by kernel_rfl
  i51 := by kernel_rfl
  i105 := by kernel_rfl
  i138 := by kernel_rfl
  i139 := by kernel_rfl
  i146 := by kernel_rfl
  m1 := by kernel_rfl
  s1_3 := fun w h => Go.Proofs.cell_of_shapedOpen_int (zero := #[.int .i64 0]) (t := 3) h (of_decide_eq_true (by kernel_rfl)) (by kernel_rfl) rfl (by kernel_rfl) (by kernel_rfl) Tryz.underlying3
  m3 := by kernel_rfl
  m4 := by kernel_rfl }
def Tryz.lays156_ren : Go.Shelf.Ren := ⟨fun | 156 => 17 | 165 => 32 | 166 => 33 | 169 => 34 | 240 => 49 | 241 => 50 | 276 => 75 | 277 => 76 | n => n, fun | 31 => 24 | 9 => 9 | 3 => 3 | 4 => 4 | 0 => 0 | 20 => 20 | 72 => 56 | 76 => 60 | 70 => 54 | 37 => 51 | 75 => 59 | 127 => 79 | 164 => 98 | 5 => 5 | 80 => 62 | n => n, fun | n => n⟩
theorem Tryz.lays156 : Go.Proofs.Lays.n156 Tryz.prog Tryz.lays156_ren := {
  mixed := by kernel_rfl
  f156 := Tryz.func17.trans (congrArg some (by kernel_rfl))
  f165 := Tryz.func32.trans (congrArg some (by kernel_rfl))
  f166 := Tryz.func33.trans (congrArg some (by kernel_rfl))
  f169 := Tryz.func34.trans (congrArg some (by kernel_rfl))
  f240 := Tryz.func49.trans (congrArg some (by kernel_rfl))
  f241 := Tryz.func50.trans (congrArg some (by kernel_rfl))
  f276 := Tryz.func75.trans (congrArg some (by kernel_rfl))
  f277 := Tryz.func76.trans (congrArg some (by kernel_rfl))
  t0 := Tryz.underlying0
  a0 := Tryz.isAgg0
  z0 := Tryz.sizeOf0
  v0 := Tryz.zeroValue0
  t3 := Tryz.underlying3
  a3 := Tryz.isAgg3
  z3 := Tryz.sizeOf3
  v3 := Tryz.zeroValue3
  t4 := Tryz.underlying4
  a4 := Tryz.isAgg4
  z4 := Tryz.sizeOf4
  v4 := Tryz.zeroValue4
  t9 := Tryz.underlying9
  a9 := Tryz.isAgg9
  z9 := Tryz.sizeOf9
  v9 := Tryz.zeroValue9
  t20 := Tryz.underlying20
  a20 := Tryz.isAgg20
  z20 := Tryz.sizeOf20
  v20 := Tryz.zeroValue20
  t31 := Tryz.underlying24
  a31 := Tryz.isAgg24
  z31 := Tryz.sizeOf24
  v31 := Tryz.zeroValue24
  t37 := Tryz.underlying51
  a37 := Tryz.isAgg51
  z37 := Tryz.sizeOf51
  v37 := Tryz.zeroValue51
  t70 := Tryz.underlying54
  a70 := Tryz.isAgg54
  z70 := Tryz.sizeOf54
  v70 := Tryz.zeroValue54
  t72 := Tryz.underlying56
  a72 := Tryz.isAgg56
  z72 := Tryz.sizeOf56
  v72 := Tryz.zeroValue56
  t75 := Tryz.underlying59
  a75 := Tryz.isAgg59
  z75 := Tryz.sizeOf59
  v75 := Tryz.zeroValue59
  t76 := Tryz.underlying60
  a76 := Tryz.isAgg60
  z76 := Tryz.sizeOf60
  v76 := Tryz.zeroValue60
  t127 := Tryz.underlying79
  a127 := Tryz.isAgg79
  z127 := Tryz.sizeOf79
  v127 := Tryz.zeroValue79
  t164 := Tryz.underlying98
  a164 := Tryz.isAgg98
  z164 := Tryz.sizeOf98
  v164 := Tryz.zeroValue98 }
def Tryz.lays106_ren : Go.Shelf.Ren := ⟨fun | 106 => 37 | 213 => 61 | 265 => 82 | n => n, fun | 9 => 9 | 3 => 3 | n => n, fun | n => n⟩
theorem Tryz.lays106 : Go.Proofs.Lays.n106 Tryz.prog Tryz.lays106_ren := {
  mixed := by kernel_rfl
  f106 := Tryz.func37.trans (congrArg some (by kernel_rfl))
  f213 := Tryz.func61.trans (congrArg some (by kernel_rfl))
  f265 := Tryz.func82.trans (congrArg some (by kernel_rfl))
  t3 := Tryz.underlying3
  a3 := Tryz.isAgg3
  z3 := Tryz.sizeOf3
  v3 := Tryz.zeroValue3
  t9 := Tryz.underlying9
  a9 := Tryz.isAgg9
  z9 := Tryz.sizeOf9
  v9 := Tryz.zeroValue9 }
def Tryz.sortF_ren : Go.Shelf.Ren := ⟨fun | 6 => 18 | 15 => 36 | 14 => 35 | 28 => 59 | 29 => 60 | 20 => 51 | 21 => 52 | 22 => 53 | 23 => 54 | 24 => 55 | 25 => 56 | 26 => 57 | 27 => 58 | 46 => 77 | 47 => 78 | 48 => 79 | 49 => 80 | 50 => 81 | 57 => 91 | n => n, fun | 22 => 23 | 24 => 34 | 25 => 45 | 3 => 3 | 39 => 65 | 0 => 0 | 53 => 89 | 55 => 91 | 4 => 4 | 46 => 82 | 45 => 81 | 50 => 86 | 5 => 5 | 9 => 9 | 66 => 101 | 70 => 105 | 76 => 111 | 77 => 112 | n => n, fun | n => n⟩
theorem Tryz.sortF : Go.Proofs.SlLaysF0.n6 Tryz.prog Tryz.sortF_ren := {
  mixed := by kernel_rfl
  f6 := ⟨Tryz.f18.name, by decide, Tryz.func18.trans (congrArg some (by kernel_rfl))⟩
  f14 := ⟨Tryz.f35.name, by decide, Tryz.func35.trans (congrArg some (by kernel_rfl))⟩
  f15 := Tryz.func36.trans (congrArg some (by kernel_rfl))
  f20 := ⟨Tryz.f51.name, by decide, Tryz.func51.trans (congrArg some (by kernel_rfl))⟩
  f21 := ⟨Tryz.f52.name, by decide, Tryz.func52.trans (congrArg some (by kernel_rfl))⟩
  f22 := ⟨Tryz.f53.name, by decide, Tryz.func53.trans (congrArg some (by kernel_rfl))⟩
  f23 := ⟨Tryz.f54.name, by decide, Tryz.func54.trans (congrArg some (by kernel_rfl))⟩
  f24 := ⟨Tryz.f55.name, by decide, Tryz.func55.trans (congrArg some (by kernel_rfl))⟩
  f25 := ⟨Tryz.f56.name, by decide, Tryz.func56.trans (congrArg some (by kernel_rfl))⟩
  f26 := ⟨Tryz.f57.name, by decide, Tryz.func57.trans (congrArg some (by kernel_rfl))⟩
  f27 := ⟨Tryz.f58.name, by decide, Tryz.func58.trans (congrArg some (by kernel_rfl))⟩
  f28 := Tryz.func59.trans (congrArg some (by kernel_rfl))
  f29 := Tryz.func60.trans (congrArg some (by kernel_rfl))
  f46 := ⟨Tryz.f77.name, by decide, Tryz.func77.trans (congrArg some (by kernel_rfl))⟩
  f47 := Tryz.func78.trans (congrArg some (by kernel_rfl))
  f48 := Tryz.func79.trans (congrArg some (by kernel_rfl))
  f49 := ⟨Tryz.f80.name, by decide, Tryz.func80.trans (congrArg some (by kernel_rfl))⟩
  f50 := ⟨Tryz.f81.name, by decide, Tryz.func81.trans (congrArg some (by kernel_rfl))⟩
  f57 := ⟨Tryz.f91.name, by decide, Tryz.func91.trans (congrArg some (by kernel_rfl))⟩
  t0 := Tryz.underlying0
  a0 := Tryz.isAgg0
  z0 := Tryz.sizeOf0
  v0 := Tryz.zeroValue0
  t3 := Tryz.underlying3
  a3 := Tryz.isAgg3
  z3 := Tryz.sizeOf3
  v3 := Tryz.zeroValue3
  t4 := Tryz.underlying4
  a4 := Tryz.isAgg4
  z4 := Tryz.sizeOf4
  v4 := Tryz.zeroValue4
  t5 := Tryz.underlying5
  a5 := Tryz.isAgg5
  z5 := Tryz.sizeOf5
  v5 := Tryz.zeroValue5
  t9 := Tryz.underlying9
  a9 := Tryz.isAgg9
  z9 := Tryz.sizeOf9
  v9 := Tryz.zeroValue9
  t22 := Tryz.underlying23
  a22 := Tryz.isAgg23
  z22 := Tryz.sizeOf23
  v22 := Tryz.zeroValue23
  t25 := Tryz.underlying45
  a25 := Tryz.isAgg45
  z25 := Tryz.sizeOf45
  v25 := Tryz.zeroValue45
  t39 := Tryz.underlying65
  a39 := Tryz.isAgg65
  z39 := Tryz.sizeOf65
  v39 := Tryz.zeroValue65
  t45 := Tryz.underlying81
  a45 := Tryz.isAgg81
  z45 := Tryz.sizeOf81
  v45 := Tryz.zeroValue81
  t46 := Tryz.underlying82
  a46 := Tryz.isAgg82
  z46 := Tryz.sizeOf82
  v46 := Tryz.zeroValue82
  t50 := Tryz.underlying86
  a50 := Tryz.isAgg86
  z50 := Tryz.sizeOf86
  v50 := Tryz.zeroValue86
  t53 := Tryz.underlying89
  a53 := Tryz.isAgg89
  z53 := Tryz.sizeOf89
  v53 := Tryz.zeroValue89
  t55 := Tryz.underlying91
  a55 := Tryz.isAgg91
  z55 := Tryz.sizeOf91
  v55 := Tryz.zeroValue91
  t66 := Tryz.underlying101
  a66 := Tryz.isAgg101
  z66 := Tryz.sizeOf101
  v66 := Tryz.zeroValue101
  t70 := Tryz.underlying105
  a70 := Tryz.isAgg105
  z70 := Tryz.sizeOf105
  v70 := Tryz.zeroValue105
  t76 := Tryz.underlying111
  a76 := Tryz.isAgg111
  z76 := Tryz.sizeOf111
  v76 := Tryz.zeroValue111
  t77 := Tryz.underlying112
  a77 := Tryz.isAgg112
  z77 := Tryz.sizeOf112
  v77 := Tryz.zeroValue112 }
def Tryz.sortS_ren : Go.Shelf.Ren := ⟨fun | 6 => 25 | 8 => 36 | 9 => 41 | 19 => 59 | 20 => 60 | 21 => 63 | 22 => 64 | 23 => 65 | 24 => 66 | 25 => 67 | 26 => 68 | 27 => 69 | 28 => 70 | 29 => 71 | 36 => 84 | 31 => 78 | 32 => 79 | 37 => 85 | 38 => 86 | 39 => 87 | 41 => 92 | n => n, fun | 27 => 24 | 29 => 9 | 3 => 3 | 32 => 65 | 26 => 24 | 0 => 0 | 44 => 89 | 46 => 91 | 4 => 4 | 36 => 82 | 35 => 81 | 41 => 86 | 5 => 5 | 9 => 9 | 53 => 101 | 57 => 105 | 63 => 111 | 64 => 112 | n => n, fun | n => n⟩
theorem Tryz.sortS : Go.Proofs.SlLaysM.n6 Tryz.prog Tryz.sortS_ren := {
  mixed := by kernel_rfl
  f6 := ⟨Tryz.f25.name, by decide, Tryz.func25.trans (congrArg some (by kernel_rfl))⟩
  f8 := Tryz.func36.trans (congrArg some (by kernel_rfl))
  f9 := ⟨Tryz.f41.name, by decide, Tryz.func41.trans (congrArg some (by kernel_rfl))⟩
  f19 := Tryz.func59.trans (congrArg some (by kernel_rfl))
  f20 := Tryz.func60.trans (congrArg some (by kernel_rfl))
  f21 := ⟨Tryz.f63.name, by decide, Tryz.func63.trans (congrArg some (by kernel_rfl))⟩
  f22 := ⟨Tryz.f64.name, by decide, Tryz.func64.trans (congrArg some (by kernel_rfl))⟩
  f23 := ⟨Tryz.f65.name, by decide, Tryz.func65.trans (congrArg some (by kernel_rfl))⟩
  f24 := ⟨Tryz.f66.name, by decide, Tryz.func66.trans (congrArg some (by kernel_rfl))⟩
  f25 := ⟨Tryz.f67.name, by decide, Tryz.func67.trans (congrArg some (by kernel_rfl))⟩
  f26 := ⟨Tryz.f68.name, by decide, Tryz.func68.trans (congrArg some (by kernel_rfl))⟩
  f27 := ⟨Tryz.f69.name, by decide, Tryz.func69.trans (congrArg some (by kernel_rfl))⟩
  f28 := ⟨Tryz.f70.name, by decide, Tryz.func70.trans (congrArg some (by kernel_rfl))⟩
  f29 := ⟨Tryz.f71.name, by decide, Tryz.func71.trans (congrArg some (by kernel_rfl))⟩
  f31 := Tryz.func78.trans (congrArg some (by kernel_rfl))
  f32 := Tryz.func79.trans (congrArg some (by kernel_rfl))
  f36 := ⟨Tryz.f84.name, by decide, Tryz.func84.trans (congrArg some (by kernel_rfl))⟩
  f37 := ⟨Tryz.f85.name, by decide, Tryz.func85.trans (congrArg some (by kernel_rfl))⟩
  f38 := ⟨Tryz.f86.name, by decide, Tryz.func86.trans (congrArg some (by kernel_rfl))⟩
  f39 := ⟨Tryz.f87.name, by decide, Tryz.func87.trans (congrArg some (by kernel_rfl))⟩
  f41 := ⟨Tryz.f92.name, by decide, Tryz.func92.trans (congrArg some (by kernel_rfl))⟩
  t0 := Tryz.underlying0
  a0 := Tryz.isAgg0
  z0 := Tryz.sizeOf0
  v0 := Tryz.zeroValue0
  t3 := Tryz.underlying3
  a3 := Tryz.isAgg3
  z3 := Tryz.sizeOf3
  v3 := Tryz.zeroValue3
  t4 := Tryz.underlying4
  a4 := Tryz.isAgg4
  z4 := Tryz.sizeOf4
  v4 := Tryz.zeroValue4
  t5 := Tryz.underlying5
  a5 := Tryz.isAgg5
  z5 := Tryz.sizeOf5
  v5 := Tryz.zeroValue5
  t9 := Tryz.underlying9
  a9 := Tryz.isAgg9
  z9 := Tryz.sizeOf9
  v9 := Tryz.zeroValue9
  t26 := Tryz.underlying24
  a26 := Tryz.isAgg24
  z26 := Tryz.sizeOf24
  v26 := Tryz.zeroValue24
  t27 := Tryz.underlying24
  a27 := Tryz.isAgg24
  z27 := Tryz.sizeOf24
  v27 := Tryz.zeroValue24
  t29 := Tryz.underlying9
  a29 := Tryz.isAgg9
  z29 := Tryz.sizeOf9
  v29 := Tryz.zeroValue9
  t32 := Tryz.underlying65
  a32 := Tryz.isAgg65
  z32 := Tryz.sizeOf65
  v32 := Tryz.zeroValue65
  t35 := Tryz.underlying81
  a35 := Tryz.isAgg81
  z35 := Tryz.sizeOf81
  v35 := Tryz.zeroValue81
  t36 := Tryz.underlying82
  a36 := Tryz.isAgg82
  z36 := Tryz.sizeOf82
  v36 := Tryz.zeroValue82
  t41 := Tryz.underlying86
  a41 := Tryz.isAgg86
  z41 := Tryz.sizeOf86
  v41 := Tryz.zeroValue86
  t44 := Tryz.underlying89
  a44 := Tryz.isAgg89
  z44 := Tryz.sizeOf89
  v44 := Tryz.zeroValue89
  t46 := Tryz.underlying91
  a46 := Tryz.isAgg91
  z46 := Tryz.sizeOf91
  v46 := Tryz.zeroValue91
  t53 := Tryz.underlying101
  a53 := Tryz.isAgg101
  z53 := Tryz.sizeOf101
  v53 := Tryz.zeroValue101
  t57 := Tryz.underlying105
  a57 := Tryz.isAgg105
  z57 := Tryz.sizeOf105
  v57 := Tryz.zeroValue105
  t63 := Tryz.underlying111
  a63 := Tryz.isAgg111
  z63 := Tryz.sizeOf111
  v63 := Tryz.zeroValue111
  t64 := Tryz.underlying112
  a64 := Tryz.isAgg112
  z64 := Tryz.sizeOf112
  v64 := Tryz.zeroValue112 }
def Tryz.compS_ren : Go.Shelf.Ren := ⟨fun | 44 => 26 | n => n, fun | 25 => 24 | 26 => 9 | 3 => 3 | 4 => 4 | 0 => 0 | n => n, fun | n => n⟩
theorem Tryz.compS : Go.Proofs.SlLaysN.n44 Tryz.prog Tryz.compS_ren := {
  mixed := by kernel_rfl
  f44 := ⟨Tryz.f26.name, by decide, Tryz.func26.trans (congrArg some (by kernel_rfl))⟩
  t0 := Tryz.underlying0
  a0 := Tryz.isAgg0
  z0 := Tryz.sizeOf0
  v0 := Tryz.zeroValue0
  t3 := Tryz.underlying3
  a3 := Tryz.isAgg3
  z3 := Tryz.sizeOf3
  v3 := Tryz.zeroValue3
  t4 := Tryz.underlying4
  a4 := Tryz.isAgg4
  z4 := Tryz.sizeOf4
  v4 := Tryz.zeroValue4
  t25 := Tryz.underlying24
  a25 := Tryz.isAgg24
  z25 := Tryz.sizeOf24
  v25 := Tryz.zeroValue24
  t26 := Tryz.underlying9
  a26 := Tryz.isAgg9
  z26 := Tryz.sizeOf9
  v26 := Tryz.zeroValue9
  i26 := by kernel_rfl }
end Go.Proofs
namespace Go.Proofs.YtnpbnaapbimjaaaGreatDoor
open Go.RowKit

set_option maxHeartbeats 400000 in
theorem fold_any (a b : ByteArray) (w : World) (ha : a.size ≤ maxLen) (hb : b.size ≤ maxLen) :
    Calls Tryz.prog 90 #[.string a, .string b] w fun e w' => e = .returned (.bool (foldS a b)) ∧ Below w.heap.size w w' := by
  go_enter Tryz.func90, Tryz.ntmps90
  go_wp2_with fail
  refine (lower_any a _ ha).mono ?_
  rintro e w1 ⟨rfl, hb1⟩
  go_wp2_with fail
  refine (lower_any b _ hb).mono ?_
  rintro e w2 ⟨rfl, hb2⟩
  go_wp2_with fail
  go_ret
  exact ⟨ret_bool rfl, below_trans hb1 hb2⟩

set_option maxHeartbeats 400000 in
theorem refFold_any (a b : ByteArray) (w : World) (ha : a.size ≤ maxLen) (hb : b.size ≤ maxLen) :
    Calls Tryz.prog 40 #[.string a, .string b] w fun e w' => e = .returned (.bool (foldS a b)) ∧ Below w.heap.size w w' := by
  go_enter Tryz.func40, Tryz.ntmps40
  go_wp2_with fail
  refine (refLower_any a _ ha).mono ?_
  rintro e w1 ⟨rfl, hb1⟩
  go_wp2_with fail
  refine (refLower_any b _ hb).mono ?_
  rintro e w2 ⟨rfl, hb2⟩
  go_wp2_with fail
  go_ret
  exact ⟨ret_bool rfl, below_trans hb1 hb2⟩

theorem trimLib_any (s : ByteArray) (w : World) (hs : s.size ≤ maxLen) :
    Calls Tryz.prog 96 #[.string s, .string ⟨#[32, 9]⟩] w fun e w' => e = .returned (.string (trimBA s)) ∧ Below w.heap.size w w' :=
  (Any.strings_Trim_laid Tryz.lays160 (by kernel_rfl) s ⟨#[32, 9]⟩ w hs (by decide) (ascii_of_all (by decide))).mono fun _ _ ⟨he, hw⟩ => ⟨he, hw⟩

set_option maxHeartbeats 400000 in
theorem trim_any (s : ByteArray) (w : World) (hs : s.size ≤ maxLen) :
    Calls Tryz.prog 94 #[.string s] w fun e w' => e = .returned (.string (trimBA s)) ∧ Below w.heap.size w w' := by
  go_enter Tryz.func94, Tryz.ntmps94
  go_wp2_with fail
  refine (trimLib_any s _ hs).mono ?_
  rintro e w1 ⟨rfl, hb1⟩
  go_wp2_with fail
  go_ret
  exact ⟨rfl, hb1⟩

set_option maxHeartbeats 400000 in
theorem blank_any (c : UInt8) (w : World) :
    Calls Tryz.prog 72 #[.int .u8 c.toNat] w fun e w' => e = .returned (.bool (blankB c)) ∧ w = w' := by
  have h0 : blankB c = (((c.toNat : Int) == 32) || ((c.toNat : Int) == 9)) := by
    unfold blankB blanks
    rw [Bool.eq_iff_iff]
    simp only [List.contains_cons, List.contains_nil, Bool.or_false, Bool.or_eq_true, beq_iff_eq, ← UInt8.toNat_inj]
    have h1 : (32 : UInt8).toNat = 32 := rfl
    have h2 : (9 : UInt8).toNat = 9 := rfl
    omega
  have H0 := Lib.hid h0
  clear h0
  go_enter Tryz.func72, Tryz.ntmps72
  go_wp2
  all_goals go_ret
  all_goals exact ⟨ret_bool (by rw [H0.out]; try simp [*]), rfl⟩

def strLen : Value → Nat | .string s => s.size | _ => 0

set_option maxHeartbeats 800000 in
theorem refTrim_any (s : ByteArray) (w : World) (hs : s.size ≤ maxLen) :
    Calls Tryz.prog 44 #[.string s] w fun e w' => e = .returned (.string (trimBA s)) ∧ w = w' := by
  unfold maxLen at hs
  go_enter Tryz.func44, Tryz.ntmps44
  go_wp2
  go_loop [0] (fun v => ∃ t : ByteArray, v = .string t ∧ t.size ≤ s.size ∧ Hid (t.data.toList.dropWhile blankB = s.data.toList.dropWhile blankB)) (fun v => strLen v)
  case atStart => exact ⟨s, rfl, Nat.le_refl _, Lib.hid rfl⟩
  case round =>
    obtain ⟨t, rfl, hts, HT⟩ := hrel
    by_cases hgo : ∃ h : 0 < t.size, blankB t[0] = true
    · obtain ⟨hlt, hb⟩ := hgo
      have HB := Lib.hid hb
      have hsz : (t.extract 1 t.size).size = t.size - 1 := by simp
      have HS := Lib.hid hsz
      clear hsz
      go_wp2_with (go_at_call 72; refine (blank_any _ _).mono ?_; rintro e w' ⟨rfl, rfl⟩)
      go_round
      case rel => exact ⟨_, rfl, by rw [HS.out]; omega, Lib.hid (by rw [drop_step t hlt HB.out]; exact HT.out)⟩
      case measure => simp only [strLen]; rw [HS.out]; omega
    · have hE : t.data.toList = s.data.toList.dropWhile blankB := by
        rw [← HT.out]; symm; apply drop_end
        intro h; by_cases hb : blankB t[0] = true
        · exact absurd ⟨h, hb⟩ hgo
        · simpa using hb
      have HE := Lib.hid hE
      clear hE HT
      have hcase : ¬ 0 < t.size ∨ ∃ h : 0 < t.size, blankB t[0] = false := by
        by_cases h : 0 < t.size
        · right; exact ⟨h, by by_cases hb : blankB t[0] = true; exact absurd ⟨h, hb⟩ hgo; simpa using hb⟩
        · left; exact h
      clear hgo
      rcases hcase with hz | ⟨hlt, hb⟩
      all_goals
        go_wp2_with (go_at_call 72; refine (blank_any _ _).mono ?_; rintro e w' ⟨rfl, rfl⟩)
        go_loop [0] (fun v => ∃ t' : ByteArray, v = .string t' ∧ t'.size ≤ s.size ∧ Hid (rdrop blankB t'.data.toList = rdrop blankB t.data.toList)) (fun v => strLen v)
        case atStart => exact ⟨t, rfl, hts, Lib.hid rfl⟩
        case round =>
          obtain ⟨t', rfl, hts', HT'⟩ := hrel
          by_cases hgo : ∃ h : 0 < t'.size, blankB t'[t'.size - 1] = true
          · obtain ⟨hlt', hb'⟩ := hgo
            have HB' := Lib.hid hb'
            have hsz : (t'.extract 0 (t'.size - 1)).size = t'.size - 1 := by simp
            have HS := Lib.hid hsz
            clear hsz
            go_wp2_with (go_at_call 72; refine (blank_any _ _).mono ?_; rintro e w' ⟨rfl, rfl⟩)
            go_round
            case rel => exact ⟨_, rfl, by rw [HS.out]; omega, Lib.hid (by rw [rdrop_step t' hlt' HB'.out]; exact HT'.out)⟩
            case measure => simp only [strLen]; rw [HS.out]; omega
          · have hE' : t'.data.toList = trimL s.data.toList := by
              unfold trimL
              rw [trim_comm, ← HE.out, ← HT'.out]; symm; apply rdrop_end
              intro h; by_cases hb : blankB t'[t'.size - 1] = true
              · exact absurd ⟨h, hb⟩ hgo
              · simpa using hb
            have HE' := Lib.hid hE'
            clear hE' HT'
            have hcase : ¬ 0 < t'.size ∨ ∃ h : 0 < t'.size, blankB t'[t'.size - 1] = false := by
              by_cases h : 0 < t'.size
              · right; exact ⟨h, by by_cases hb : blankB t'[t'.size - 1] = true; exact absurd ⟨h, hb⟩ hgo; simpa using hb⟩
              · left; exact h
            clear hgo
            rcases hcase with hz' | ⟨hlt', hb'⟩
            all_goals
              go_wp2_with (go_at_call 72; refine (blank_any _ _).mono ?_; rintro e w' ⟨rfl, rfl⟩)
              go_ret
              exact ⟨ret_str (ba_ext (by rw [trimBA_list]; exact HE'.out)), rfl⟩

def valB (c : UInt8) : Bool := decide ((c.toNat : Int) = 9) || (decide (32 ≤ (c.toNat : Int)) && !decide ((c.toNat : Int) = 127))
def visS (s : ByteArray) : Bool := s.data.toList.all valB
def valS (s : ByteArray) : Bool := visS s && ((trimBA s).toList == s.toList)

end Go.Proofs.YtnpbnaapbimjaaaGreatDoor
namespace Go.Proofs.YtnpbnaapbimjaaaGreatDoor
open Go

/-- Puts bytes before the first piece. -/
def front (p : List UInt8) : List (List UInt8) → List (List UInt8)
  | [] => [p]
  | h :: r => (p ++ h) :: r
/-- The pieces between the bytes c. -/
def splitL (c : UInt8) : List UInt8 → List (List UInt8)
  | [] => [[]]
  | b :: t => if b = c then [] :: splitL c t else front [b] (splitL c t)

theorem splitL_ne (c : UInt8) : ∀ l, splitL c l ≠ []
  | [] => by simp [splitL]
  | b :: t => by
    unfold splitL; split
    · simp
    · cases splitL c t <;> simp [front]
theorem front_nil (X : List (List UInt8)) (h : X ≠ []) : front [] X = X := by cases X with
  | nil => exact absurd rfl h
  | cons a r => simp [front]
theorem front_front (p q : List UInt8) (X : List (List UInt8)) : front p (front q X) = front (p ++ q) X := by cases X <;> simp [front]

theorem index_cons_ne (b c : UInt8) (l : List UInt8) (h : b ≠ c) : Lib.index (b :: l) [c] = if Lib.index l [c] == -1 then -1 else Lib.index l [c] + 1 := by
  rw [Lib.index]
  have : (List.isPrefixOf [c] (b :: l)) = false := by simp [List.isPrefixOf]; exact fun e => h e.symm
  rw [this]; rfl
theorem index_cons_eq (c : UInt8) (l : List UInt8) : Lib.index (c :: l) [c] = 0 := by
  rw [Lib.index]
  have : (List.isPrefixOf [c] (c :: l)) = true := by simp [List.isPrefixOf]
  rw [this]; rfl

theorem splitK_eq (c : UInt8) : ∀ l : List UInt8, Lib.splitK [c] 0 (Lib.count l [c]) l = splitL c l
  | [] => rfl
  | b :: t => by
    have ih := splitK_eq c t
    by_cases h : b = c
    · subst h
      rw [Lib.count_cons_eq, Nat.add_comm, Lib.splitK, index_cons_eq, splitL, if_pos rfl]
      rw [if_neg (by decide)]
      simp only [Int.toNat_zero, List.take_zero, Nat.add_zero, List.length_cons, List.length_nil, Nat.zero_add]
      rw [List.drop_succ_cons, List.drop_zero, ih]
    · rw [Lib.count_cons_ne b c t h, splitL, if_neg h, ← ih]
      cases hk : Lib.count t [c] with
      | zero => rfl
      | succ k =>
        have hm : ¬ Lib.index t [c] = -1 := fun e => by rw [Lib.count_miss e] at hk; cases hk
        have hge := Lib.index_ge t [c]
        rw [Lib.splitK, Lib.splitK, index_cons_ne b c t h]
        have hA : (Lib.index t [c] == -1) = false := by simpa using hm
        have hB : (Lib.index t [c] + 1 == -1) = false := by rw [beq_eq_false_iff_ne]; omega
        simp only [hA, hB, Bool.false_eq_true, if_false]
        obtain ⟨i, hi⟩ : ∃ i : Nat, Lib.index t [c] = i := ⟨(Lib.index t [c]).toNat, by omega⟩
        rw [hi]
        have e1 : ((i : Int) + 1).toNat = i + 1 := by omega
        have e2 : (i : Int).toNat = i := by omega
        rw [e1, e2]
        simp [front]

def ofL (l : List UInt8) : ByteArray := ⟨l.toArray⟩
theorem ofL_list (l : List UInt8) : (ofL l).data.toList = l := by simp [ofL]
theorem ofL_of (s : ByteArray) : ofL s.data.toList = s := ba_ext (ofL_list _)
def splitS (c : UInt8) (s : ByteArray) : List ByteArray := (splitL c s.data.toList).map ofL
theorem splitB_eq (c : UInt8) (s : ByteArray) : Lib.splitB ⟨#[c]⟩ 0 (Lib.countB s ⟨#[c]⟩) s = splitS c s := by
  have h := Lib.splitB_data ⟨#[c]⟩ 0 (Lib.countB s ⟨#[c]⟩) s
  have e : Lib.splitK (ByteArray.mk #[c]).data.toList 0 (Lib.countB s ⟨#[c]⟩) s.data.toList = splitL c s.data.toList := splitK_eq c s.data.toList
  rw [e] at h
  unfold splitS
  rw [← h, List.map_map]
  have : ∀ L : List ByteArray, L = L.map (ofL ∘ fun x => x.data.toList) := fun L => by
    induction L with
    | nil => rfl
    | cons a t ih => rw [List.map_cons, ← ih]; simp [ofL_of]
  exact this _

/-- The elements of one list, of several. -/
def elemsOf (l : List ByteArray) : List ByteArray := (l.map trimBA).filter (fun x => !x.data.toList.isEmpty)
def elemL (s : ByteArray) : List ByteArray := elemsOf (splitS 44 s)
theorem elemsOf_yes (l : List ByteArray) (x : ByteArray) (h : (trimBA x).data.toList.isEmpty = false) : elemsOf (l ++ [x]) = elemsOf l ++ [trimBA x] := by
  unfold elemsOf; rw [List.map_append, List.filter_append]; simp only [List.map_cons, List.map_nil, List.filter, h]; rfl
theorem elemsOf_no (l : List ByteArray) (x : ByteArray) (h : (trimBA x).data.toList.isEmpty = true) : elemsOf (l ++ [x]) = elemsOf l := by
  unfold elemsOf; rw [List.map_append, List.filter_append]; simp only [List.map_cons, List.map_nil, List.filter, h]; simp
def listL (l : List ByteArray) : List ByteArray := l.flatMap elemL

theorem listL_snoc (l : List ByteArray) (x : ByteArray) : listL (l ++ [x]) = listL l ++ elemL x := by
  unfold listL; rw [List.flatMap_append]; simp
end Go.Proofs.YtnpbnaapbimjaaaGreatDoor
namespace Go.Proofs.YtnpbnaapbimjaaaGreatDoor
open Go.RowKit

def sameS (x y : List ByteArray) : Bool := decide (x = y)

theorem sameS_len {x y : List ByteArray} (h : ¬ x.length = y.length) : sameS x y = false := by
  unfold sameS; rw [decide_eq_false_iff_not]; intro e; exact h (by rw [e])
theorem sameS_no {x y : List ByteArray} {k : Nat} (h1 : k < x.length) (h2 : k < y.length) (h : ¬ x[k] = y[k]) : sameS x y = false := by
  unfold sameS; rw [decide_eq_false_iff_not]; intro e; subst e; exact h rfl
theorem sameS_yes {x y : List ByteArray} (hl : x.length = y.length) (h : ∀ j (h1 : j < x.length) (h2 : j < y.length), x[j] = y[j]) : sameS x y = true := by
  unfold sameS; rw [decide_eq_true_eq]; exact List.ext_getElem hl h
theorem toList_eq {a b : ByteArray} : (a.toList == b.toList) = decide (a = b) := by
  rw [Bool.eq_iff_iff, beq_iff_eq, decide_eq_true_eq, ByteArray.toList_eq, ByteArray.toList_eq]
  exact ⟨ba_ext, fun h => by rw [h]⟩

/-- How many bytes and strings a list holds. -/
def total : List ByteArray → Nat
  | [] => 0
  | s :: t => s.size + 1 + total t
theorem splitL_length (c : UInt8) : ∀ l : List UInt8, (splitL c l).length ≤ l.length + 1
  | [] => Nat.le_refl _
  | b :: t => by
    have := splitL_length c t
    rw [splitL]; split
    · simp; omega
    · cases h : splitL c t with
      | nil => simp [front]
      | cons q r => rw [h] at this; simp [front] at this ⊢; omega
theorem splitS_length (c : UInt8) (s : ByteArray) : (splitS c s).length ≤ s.size + 1 := by
  unfold splitS; rw [List.length_map]; have := splitL_length c s.data.toList; simpa using this
theorem splitL_small (c : UInt8) : ∀ (l p : List UInt8), p ∈ splitL c l → p.length ≤ l.length
  | [], p, h => by simp [splitL] at h; simp [h]
  | b :: t, p, h => by
    have ih := splitL_small c t
    rw [splitL] at h
    split at h
    · rcases List.mem_cons.1 h with rfl | h
      · simp
      · have := ih p h; simp; omega
    · cases hs : splitL c t with
      | nil => exact absurd hs (splitL_ne c t)
      | cons q r =>
        rw [hs] at h ih
        simp only [front, List.mem_cons] at h
        rcases h with rfl | h
        · have := ih q (by simp); simp; omega
        · have := ih p (by simp [h]); simp; omega
theorem splitS_small (c : UInt8) (s x : ByteArray) (h : x ∈ splitS c s) : x.size ≤ s.size := by
  unfold splitS at h
  obtain ⟨p, hp, rfl⟩ := List.mem_map.1 h
  have := splitL_small c _ p hp
  have e : (ofL p).size = p.length := by show (ofL p).data.size = _; simp [ofL]
  have e2 : s.data.toList.length = s.size := by simp
  omega

theorem total_at {l : List ByteArray} {n k : Nat} (h : k < l.length) (ht : total l ≤ n) : l[k].size + 1 ≤ n := by
  induction l generalizing k with
  | nil => exact absurd h (Nat.not_lt_zero _)
  | cons a t ih =>
    unfold total at ht
    cases k with
    | zero => simp only [List.getElem_cons_zero]; omega
    | succ k => simp only [List.getElem_cons_succ]; exact ih (by simpa using h) (by omega)

theorem elemsOf_length (l : List ByteArray) : (elemsOf l).length ≤ l.length := by
  unfold elemsOf
  have := List.length_filter_le (fun x : ByteArray => !x.data.toList.isEmpty) (l.map trimBA)
  simpa using this
theorem listL_length : ∀ l : List ByteArray, (listL l).length ≤ total l
  | [] => Nat.le_refl _
  | a :: t => by
    have h1 := listL_length t
    have h2 := elemsOf_length (splitS 44 a)
    have h3 := splitS_length 44 a
    have e : listL (a :: t) = elemL a ++ listL t := by unfold listL; rw [List.flatMap_cons]
    rw [e, List.length_append]
    unfold total elemL
    omega
theorem total_len : ∀ l : List ByteArray, l.length ≤ total l
  | [] => Nat.le_refl _
  | a :: t => by
    have h1 := total_len t
    simp only [List.length_cons, total]; omega
theorem total_take : ∀ (l : List ByteArray) (k : Nat), total (l.take k) ≤ total l
  | [], _ => by simp
  | a :: t, 0 => by simp [total]
  | a :: t, k + 1 => by
    have := total_take t k
    simp only [List.take_succ_cons, total]; omega

theorem split_any (s : ByteArray) (w : World) (m : Int) (hs : s.size < 4294967281) (hm : w.cell? ⟨0, 0, none⟩ = some (.int .i64 m)) :
    Calls Tryz.prog 93 #[.string s, .string ⟨#[44]⟩] w fun e w' => RetFresh w (splitS 44 s) e w' := by
  refine (Any.strings_Split Tryz.lays146 (by kernel_rfl) s ⟨#[44]⟩ m w hs hm (by decide)).mono ?_
  rintro e w' ⟨he, hw⟩
  have hlen : (splitS 44 s).length = Lib.countB s ⟨#[44]⟩ + 1 := by
    rw [← splitB_eq]; exact Lib.splitB_all _ (by decide) _ _ _ rfl
  refine ⟨w.heap.size, _, by rw [he, hlen], Nat.le_refl _, by rw [hw]; simp, fun j hj => ⟨_, 0, rfl, ?_⟩, by rw [hw]; exact (Below.refl _ _).alloc (Nat.le_refl _) _⟩
  rw [hw, splitB_eq]
  rw [World.cell?_alloc_mark]
  simp [hj]

set_option maxHeartbeats 800000 in
theorem list_acc (l : List ByteArray) (a : Option Addr) (ca : Nat) (w : World) (m : Int) (hl : StrsAt w a l) (hm : w.cell? ⟨0, 0, none⟩ = some (.int .i64 m)) (ht : total l ≤ 4000000000) :
    Calls Tryz.prog 88 #[.slice a l.length ca] w (RetAcc w (listL l)) := by
  have HM := Lib.hid hm
  have HLs := Lib.hid hl
  have HT := Lib.hid ht
  have hll : l.length ≤ 4000000000 := Nat.le_trans (total_len l) ht
  clear hm hl ht
  go_enter Tryz.func88, Tryz.ntmps88
  go_wp2
  go_loopw [3, 11] (fun v i wr => ∃ k : Nat, k ≤ l.length ∧ i = .int .i64 k ∧ Hid (Acc w wr v (listL (l.take k)))) (fun _ i _ => l.length - (intOf i).toNat)
  case atStart => exact ⟨0, Nat.zero_le _, rfl, Lib.hid (Acc.start w)⟩
  case round =>
    obtain ⟨k, hk, rfl, HA⟩ := hrel
    by_cases hlt : k < l.length
    · obtain ⟨b, off, rfl, hc⟩ := HLs.out k hlt
      have c1 := below_cell HA.out.2 hc
      clear hc
      have hb1 := Lib.hid (total_at hlt HT.out)
      go_wp2_with fail
      refine (split_any l[k] _ m (by have := hb1.out; omega) (below_cell HA.out.2 HM.out)).mono ?_
      rintro e w1 ⟨P, cp, rfl, hP1, hP2, hP3, hP4⟩
      have HA1 := Lib.hid (HA.out.keep hP4)
      have HS1 := Lib.hid (Aside.fresh HA.out hP1 hP2 hP3)
      have hpl := splitS_length 44 l[k]
      have hsz : Hid (∀ x ∈ splitS 44 l[k], x.size ≤ 4000000000) := Lib.hid (fun x hx => Nat.le_trans (splitS_small 44 l[k] x hx) (by have := hb1.out; omega))
      have hpl2 : (splitS 44 l[k]).length ≤ 4000000000 := by have := hb1.out; omega
      clear hP1 hP2 hP3 hP4 c1 hpl
      generalize hparts : splitS 44 l[k] = parts at *
      have HPA := Lib.hid hparts
      clear hparts
      go_wp2_with fail
      go_loopw [3, 18] (fun v i wq => ∃ j : Nat, j ≤ parts.length ∧ i = .int .i64 j ∧ Hid (Acc w wq v (listL (l.take k) ++ elemsOf (parts.take j))) ∧ Hid (Aside wq v P parts)) (fun _ i _ => parts.length - (intOf i).toNat)
      case atStart => exact ⟨0, Nat.zero_le _, rfl, Lib.hid (by simpa [elemsOf] using HA1.out), HS1⟩
      case round =>
        obtain ⟨j, hj, rfl, HB, HS⟩ := hrel
        by_cases hjl : j < parts.length
        · obtain ⟨b', o', e', c2⟩ := HS.out.1 j hjl
          cases e'
          rw [Nat.zero_add] at c2
          go_wp2_with fail
          refine (trim_any parts[j] _ ?_).mono ?_
          · have := hsz.out parts[j] (by simp); unfold maxLen; omega
          rintro e w2 ⟨rfl, hb2⟩
          have HB2 := Lib.hid (HB.out.keep hb2)
          have HS2 := Lib.hid (HS.out.keep hb2)
          clear hb2 c2
          by_cases hem : (trimBA parts[j]).data.toList.isEmpty = true
          · have het : (trimBA parts[j]).toList.isEmpty = true := by rw [ByteArray.toList_eq]; exact hem
            have HEM := Lib.hid hem
            clear hem
            go_wp2_with fail
            go_roundw
            case rel => exact ⟨j + 1, by omega, by go_num, Lib.hid (by rw [List.take_succ_eq_append_getElem hjl, elemsOf_no _ _ HEM.out]; exact HB2.out), HS2⟩
            case measure => simp [intOf]; omega
          · have hem' : (trimBA parts[j]).data.toList.isEmpty = false := by simpa using hem
            have het : (trimBA parts[j]).toList.isEmpty = false := by rw [ByteArray.toList_eq]; exact hem'
            have HEM := Lib.hid hem'
            clear hem hem'
            go_wp2_with (at_builtin; refine wpList_append_acc _ rfl _ _ rfl rfl (HB2.out.keep ((Below.refl _ _).alloc (Nat.le_refl _) _)) rfl (y := trimBA parts[j]) ?c1 ?c2 ?c3)
            case c1 => simp
            case c2 =>
              have h1 := listL_length (l.take k)
              have h2 := elemsOf_length (parts.take j)
              have h3 : (parts.take j).length ≤ j := List.length_take_le _ _
              have h4 := total_take l k
              have h5 := HT.out
              rw [List.length_append]; omega
            case c3 =>
              intro g cap w' hacc has
              have HACC := Lib.hid hacc
              have HAS := Lib.hid (has _ _ (HS2.out.keep ((Below.refl _ _).alloc (Nat.le_refl _) _)))
              clear hacc has
              go_wp2_with fail
              go_roundw
              case rel => exact ⟨j + 1, by omega, by go_num, Lib.hid (by rw [List.take_succ_eq_append_getElem hjl, elemsOf_yes _ _ HEM.out]; exact HACC.out), HAS⟩
              case measure => simp [intOf]; omega
        · have hpt : parts.take j = parts := List.take_of_length_le (by omega)
          have HPT := Lib.hid hpt
          clear hpt
          go_wp2_with fail
          go_roundw
          case rel => exact ⟨k + 1, by omega, by go_num, Lib.hid (by
            have := HB.out
            rw [HPT.out, ← HPA.out] at this
            rw [List.take_succ_eq_append_getElem hlt, listL_snoc]; exact this)⟩
          case measure => simp [intOf]; omega
    · have hpt : l.take k = l := List.take_of_length_le (by omega)
      have HF := HA.out
      rw [hpt] at HF
      have HFF := Lib.hid HF
      clear HF hpt HA
      go_wp2_with fail
      go_ret
      exact ⟨_, rfl, HFF.out⟩
theorem pieces_step {c : UInt8} {s : ByteArray} {i : Nat} (h : i < s.size) : splitL c (s.data.toList.drop i) = if s[i] = c then [] :: splitL c (s.data.toList.drop (i + 1)) else front [s[i]] (splitL c (s.data.toList.drop (i + 1))) := by
  rw [List.drop_eq_getElem_cons (by simpa using h), splitL]; rfl
theorem pieces_end (c : UInt8) (s : ByteArray) : splitL c (s.data.toList.drop s.size) = [[]] := by
  rw [List.drop_of_length_le (by simp)]; rfl
theorem extract_ofL (s : ByteArray) (a b : Nat) : s.extract a b = ofL ((s.data.toList.drop a).take (b - a)) := ba_ext (by rw [ofL_list, Lib.extract_data])
theorem drop_take_snoc (s : ByteArray) (a i : Nat) (ha : a ≤ i) (h : i < s.size) : (s.data.toList.drop a).take (i + 1 - a) = (s.data.toList.drop a).take (i - a) ++ [s[i]] := by
  have e : i + 1 - a = (i - a) + 1 := by omega
  have hl : s.data.toList.length = s.size := by simp
  rw [e, List.take_succ_eq_append_getElem (by rw [List.length_drop, hl]; omega), List.getElem_drop]
  have e2 : a + (i - a) = i := by omega
  simp only [e2]
  rfl

set_option maxHeartbeats 1000000 in
theorem refSplit_any (s : ByteArray) (c : UInt8) (w : World) (hs : s.size ≤ 4000000000) :
    Calls Tryz.prog 83 #[.string s, .int .u8 c.toNat] w fun e w' => RetFresh w (splitS c s) e w' := by
  go_enter Tryz.func83, Tryz.ntmps83
  go_wp2
  go_loopw [5, 6, 7] (fun v f i wr => ∃ k a : Nat, ∃ done : List (List UInt8), k ≤ s.size + 1 ∧ a ≤ k ∧ i = .int .i64 k ∧ f = .int .i64 a ∧ done.length ≤ k ∧ Hid (Acc w wr v (done.map ofL)) ∧
      Hid ((k ≤ s.size → done ++ front ((s.data.toList.drop a).take (k - a)) (splitL c (s.data.toList.drop k)) = splitL c s.data.toList) ∧ (¬ k ≤ s.size → done = splitL c s.data.toList))) (fun _ _ i _ => s.size + 1 - (intOf i).toNat)
  case atStart => exact ⟨0, 0, [], by omega, Nat.le_refl _, rfl, rfl, Nat.le_refl _, Lib.hid (Acc.start w), Lib.hid ⟨fun _ => by simp [front_nil _ (splitL_ne c _)], fun h => absurd (Nat.zero_le _) h⟩⟩
  case round =>
    obtain ⟨k, a, done, hk, hak, rfl, rfl, hdl, HA, HP⟩ := hrel
    by_cases hle : k ≤ s.size
    · have cont : ∀ (_ : k = s.size ∨ ∃ h : k < s.size, s[k] = c), Hid (done ++ [(s.data.toList.drop a).take (k - a)] ++ (if k < s.size then splitL c (s.data.toList.drop (k + 1)) else []) = splitL c s.data.toList) := by
        intro h
        have h1 := HP.out.1 hle
        rcases h with e | ⟨h, e⟩
        · subst e
          rw [pieces_end] at h1
          rw [if_neg (by omega), List.append_nil]
          simpa [Hid, front] using h1
        · rw [pieces_step h, if_pos e] at h1
          rw [if_pos h, List.append_assoc]
          simpa [Hid, front] using h1
      have CONT := Lib.hid cont
      clear cont
      by_cases hend : k = s.size
      · have HEND := Lib.hid hend
        have he1 : ((k : Int) == (s.size : Int)) = true := by simp [hend]
        clear hend
        go_wp2_with (at_builtin; refine wpList_append_acc _ rfl _ _ rfl rfl (HA.out.keep ((Below.refl _ _).alloc (Nat.le_refl _) _)) rfl (y := s.extract a k) ?c1 ?c2 ?c3)
        case c1 => simp
        case c2 => simp; omega
        case c3 =>
          intro g cap w' hacc has
          have HACC := Lib.hid hacc
          clear hacc has
          go_wp2_with fail
          go_roundw
          case rel => exact ⟨k + 1, k + 1, done ++ [(s.data.toList.drop a).take (k - a)], by omega, Nat.le_refl _, by go_num, by go_num, by simp; omega, Lib.hid (by
            have := HACC.out
            rw [extract_ofL] at this
            rw [List.map_append]; simpa using this), Lib.hid ⟨fun h => absurd h (by have := HEND.out; omega), fun _ => by
              have := (CONT.out (.inl HEND.out)).out
              rw [if_neg (by have := HEND.out; omega), List.append_nil] at this; exact this⟩⟩
          case measure => simp [intOf]; omega
      · have hlt : k < s.size := by omega
        have he1 : ((k : Int) == (s.size : Int)) = false := by rw [beq_eq_false_iff_ne]; omega
        clear hend
        by_cases hc : s[k] = c
        · have HC := Lib.hid hc
          have hb : ((s[k].toNat : Int) == (c.toNat : Int)) = true := by simp [hc]
          clear hc
          go_wp2_with (at_builtin; refine wpList_append_acc _ rfl _ _ rfl rfl (HA.out.keep ((Below.refl _ _).alloc (Nat.le_refl _) _)) rfl (y := s.extract a k) ?c1 ?c2 ?c3)
          case c1 => simp
          case c2 => simp; omega
          case c3 =>
            intro g cap w' hacc has
            have HACC := Lib.hid hacc
            clear hacc has
            go_wp2_with fail
            go_roundw
            case rel => exact ⟨k + 1, k + 1, done ++ [(s.data.toList.drop a).take (k - a)], by omega, Nat.le_refl _, by go_num, by go_num, by simp; omega, Lib.hid (by
              have := HACC.out
              rw [extract_ofL] at this
              rw [List.map_append]; simpa using this), Lib.hid ⟨fun _ => by
                have := (CONT.out (.inr ⟨hlt, HC.out⟩)).out
                rw [if_pos hlt] at this
                rw [Nat.sub_self, List.take_zero, front_nil _ (splitL_ne c _)]; exact this, fun h => absurd (show k + 1 ≤ s.size by omega) h⟩⟩
            case measure => simp [intOf]; omega
        · have HC := Lib.hid hc
          have hb : ((s[k].toNat : Int) == (c.toNat : Int)) = false := by
            rw [Bool.eq_false_iff]; intro h; exact hc (eqb_of h)
          clear hc
          go_wp2_with fail
          go_roundw
          case rel => exact ⟨k + 1, a, done, by omega, by omega, by go_num, rfl, by omega, HA, Lib.hid ⟨fun _ => by
            have h1 := HP.out.1 hle
            rw [pieces_step hlt, if_neg HC.out, front_front, ← drop_take_snoc s a k hak hlt] at h1
            exact h1, fun h => absurd (show k + 1 ≤ s.size by omega) h⟩⟩
          case measure => simp [intOf]; omega
    · have hdone := Lib.hid (HP.out.2 hle)
      go_wp2_with fail
      go_ret
      obtain ⟨g, cap, rfl, h1, h2, h3⟩ := HA.out.isNew (by rw [hdone.out]; simpa using splitL_ne c s.data.toList)
      have e : done.map ofL = splitS c s := by rw [hdone.out]; rfl
      rw [e] at h3 ⊢
      exact ⟨g, cap, rfl, h1, h2, h3, HA.out.2⟩

set_option maxHeartbeats 800000 in
theorem refList_acc (l : List ByteArray) (a : Option Addr) (ca : Nat) (w : World) (hl : StrsAt w a l) (ht : total l ≤ 4000000000) :
    Calls Tryz.prog 62 #[.slice a l.length ca] w (RetAcc w (listL l)) := by
  have HLs := Lib.hid hl
  have HT := Lib.hid ht
  have hll : l.length ≤ 4000000000 := Nat.le_trans (total_len l) ht
  clear hl ht
  go_enter Tryz.func62, Tryz.ntmps62
  go_wp2
  go_loopw [3, 4] (fun v i wr => ∃ k : Nat, k ≤ l.length ∧ i = .int .i64 k ∧ Hid (Acc w wr v (listL (l.take k)))) (fun _ i _ => l.length - (intOf i).toNat)
  case atStart => exact ⟨0, Nat.zero_le _, rfl, Lib.hid (Acc.start w)⟩
  case round =>
    obtain ⟨k, hk, rfl, HA⟩ := hrel
    by_cases hlt : k < l.length
    · obtain ⟨b, off, rfl, hc⟩ := HLs.out k hlt
      have c1 := below_cell HA.out.2 hc
      clear hc
      have hb1 := Lib.hid (total_at hlt HT.out)
      go_wp2_with fail
      refine (refSplit_any l[k] 44 _ (by have := hb1.out; omega)).mono ?_
      rintro e w1 ⟨P, cp, rfl, hP1, hP2, hP3, hP4⟩
      have HA1 := Lib.hid (HA.out.keep hP4)
      have HS1 := Lib.hid (Aside.fresh HA.out hP1 hP2 hP3)
      have hpl := splitS_length 44 l[k]
      have hsz : Hid (∀ x ∈ splitS 44 l[k], x.size ≤ 4000000000) := Lib.hid (fun x hx => Nat.le_trans (splitS_small 44 l[k] x hx) (by have := hb1.out; omega))
      have hpl2 : (splitS 44 l[k]).length ≤ 4000000000 := by have := hb1.out; omega
      clear hP1 hP2 hP3 hP4 c1 hpl
      generalize hparts : splitS 44 l[k] = parts at *
      have HPA := Lib.hid hparts
      clear hparts
      go_wp2_with fail
      go_loopw [3, 6] (fun v i wq => ∃ j : Nat, j ≤ parts.length ∧ i = .int .i64 j ∧ Hid (Acc w wq v (listL (l.take k) ++ elemsOf (parts.take j))) ∧ Hid (Aside wq v P parts)) (fun _ i _ => parts.length - (intOf i).toNat)
      case atStart => exact ⟨0, Nat.zero_le _, rfl, Lib.hid (by simpa [elemsOf] using HA1.out), HS1⟩
      case round =>
        obtain ⟨j, hj, rfl, HB, HS⟩ := hrel
        by_cases hjl : j < parts.length
        · obtain ⟨b', o', e', c2⟩ := HS.out.1 j hjl
          cases e'
          rw [Nat.zero_add] at c2
          go_wp2_with fail
          refine (refTrim_any parts[j] _ ?_).mono ?_
          · have := hsz.out parts[j] (by simp); unfold maxLen; omega
          rintro e w2 ⟨rfl, rfl⟩
          clear c2
          by_cases hem : (trimBA parts[j]).data.toList.isEmpty = true
          · have het : (trimBA parts[j]).toList.isEmpty = true := by rw [ByteArray.toList_eq]; exact hem
            have HEM := Lib.hid hem
            clear hem
            go_wp2_with fail
            go_roundw
            case rel => exact ⟨j + 1, by omega, by go_num, Lib.hid (by rw [List.take_succ_eq_append_getElem hjl, elemsOf_no _ _ HEM.out]; exact HB.out), HS⟩
            case measure => simp [intOf]; omega
          · have hem' : (trimBA parts[j]).data.toList.isEmpty = false := by simpa using hem
            have het : (trimBA parts[j]).toList.isEmpty = false := by rw [ByteArray.toList_eq]; exact hem'
            have HEM := Lib.hid hem'
            clear hem hem'
            go_wp2_with (at_builtin; refine wpList_append_acc _ rfl _ _ rfl rfl (HB.out.keep ((Below.refl _ _).alloc (Nat.le_refl _) _)) rfl (y := trimBA parts[j]) ?c1 ?c2 ?c3)
            case c1 => simp
            case c2 =>
              have h1 := listL_length (l.take k)
              have h2 := elemsOf_length (parts.take j)
              have h3 : (parts.take j).length ≤ j := List.length_take_le _ _
              have h4 := total_take l k
              have h5 := HT.out
              rw [List.length_append]; omega
            case c3 =>
              intro g cap w' hacc has
              have HACC := Lib.hid hacc
              have HAS := Lib.hid (has _ _ (HS.out.keep ((Below.refl _ _).alloc (Nat.le_refl _) _)))
              clear hacc has
              go_wp2_with fail
              go_roundw
              case rel => exact ⟨j + 1, by omega, by go_num, Lib.hid (by rw [List.take_succ_eq_append_getElem hjl, elemsOf_yes _ _ HEM.out]; exact HACC.out), HAS⟩
              case measure => simp [intOf]; omega
        · have hpt : parts.take j = parts := List.take_of_length_le (by omega)
          have HPT := Lib.hid hpt
          clear hpt
          go_wp2_with fail
          go_roundw
          case rel => exact ⟨k + 1, by omega, by go_num, Lib.hid (by
            have := HB.out
            rw [HPT.out, ← HPA.out] at this
            rw [List.take_succ_eq_append_getElem hlt, listL_snoc]; exact this)⟩
          case measure => simp [intOf]; omega
    · have hpt : l.take k = l := List.take_of_length_le (by omega)
      have HF := HA.out
      rw [hpt] at HF
      have HFF := Lib.hid HF
      clear HF hpt HA
      go_wp2_with fail
      go_ret
      exact ⟨_, rfl, HFF.out⟩
end Go.Proofs.YtnpbnaapbimjaaaGreatDoor
namespace Go.Proofs.YtnpbnaapbimjaaaGreatDoor
open Go.ChangeShapes Go.WideShapes Go.ChangeAt Go.RowKit

/-- The slice at a reads as the bytes l. -/
def IsBytes (w : World) (a : Option Addr) (l : List UInt8) (cap : Nat) : Prop :=
  (a = none ∧ l = [] ∧ cap = 0) ∨ ∃ x, a = some x ∧ l.length ≤ cap ∧ cap ≤ maxLen ∧ ∀ j (hj : j < l.length), w.cell? (x.add j) = some (.int .u8 (l[j].toNat : Int))

end Go.Proofs.YtnpbnaapbimjaaaGreatDoor
namespace Go.Proofs.YtnpbnaapbimjaaaGreatDoor
open Go.ChangeShapes Go.WideShapes Go.ChangeAt Go.RowKit

/-- The slice at a reads as the strings l. -/
def StrsIn (w : World) (a : Option Addr) (l : List ByteArray) : Prop :=
  ∀ j (hj : j < l.length), ∃ x, a = some x ∧ w.cell? (x.add j) = some (.string l[j])
theorem StrsIn.keep {w w' : World} {a : Option Addr} {l : List ByteArray} (h : StrsIn w a l) (hb : Below w.heap.size w w') : StrsIn w' a l := fun j hj => by
  obtain ⟨x, e, hc⟩ := h j hj
  exact ⟨x, e, below_cell hb hc⟩
theorem StrsIn.nil (w : World) (a : Option Addr) : StrsIn w a [] := fun _ hj => absurd hj (Nat.not_lt_zero _)
theorem StrsIn.take {w : World} {a : Option Addr} {l : List ByteArray} (h : StrsIn w a l) (k : Nat) : StrsIn w a (l.take k) := fun j hj => by
  have hj' : j < l.length := by rw [List.length_take] at hj; omega
  obtain ⟨x, e, hc⟩ := h j hj'
  exact ⟨x, e, by rw [List.getElem_take]; exact hc⟩
theorem StrsIn.of_at {w : World} {a : Option Addr} {l : List ByteArray} (h : StrsAt w a l) : StrsIn w a l := fun j hj => by
  obtain ⟨b, off, e, hc⟩ := h j hj
  exact ⟨_, e, by rw [show (⟨b, off, none⟩ : Addr).add j = ⟨b, off + j, none⟩ by unfold Addr.add; split <;> simp_all]; exact hc⟩

theorem open_strings_arg {H : Type} {enc : TypeId × Value → H} {W : World} {a : Option Addr} {len cap : Nat} {d : DataW H} {ps : List MemPlace} {base : Nat}
    (h : DataW.Trod enc Tryz.prog W base (fun _ => true) true 24 (.slice a len cap) d ps) :
    ∃ l : List ByteArray, len = l.length ∧ StrsIn W a l ∧ l.length ≤ cap ∧ cap ≤ maxLen ∧ ∀ s ∈ l, s.size ≤ maxLen := by
  obtain ⟨fuel, hf⟩ := h
  rcases open_strings Tryz.underlying24 Tryz.underlying9 (by kernel_rfl) hf with ⟨hcs, _⟩ | ⟨x, l, c, zs, hcs, _, hl, hm, hz, _, hcell, hwz⟩
  · simp [Value.cells] at hcs
    obtain ⟨rfl, rfl, rfl⟩ := hcs
    exact ⟨[], rfl, StrsIn.nil _ _, Nat.le_refl _, Nat.zero_le _, fun s hs => by cases hs⟩
  · simp [Value.cells] at hcs
    obtain ⟨rfl, rfl, rfl⟩ := hcs
    have hz' : zs.length = cap := by simpa using hz
    have hlen : (zs.take len).length = len := by simp; omega
    refine ⟨zs.take len, hlen.symm, fun j hj => ⟨x, rfl, ?_⟩, by rw [hlen]; exact hl, hm, fun s hs => hwz s (List.mem_of_mem_take hs)⟩
    rw [hlen] at hj
    have hj' : j < zs.length := by omega
    have e : zs.getD j ByteArray.empty = zs[j] := by rw [List.getD_eq_getElem?_getD, List.getElem?_eq_getElem hj']; rfl
    have e2 : (zs.take len)[j]'(by rw [hlen]; exact hj) = zs[j] := by simp
    rw [hcell j hj', e, e2]
end Go.Proofs.YtnpbnaapbimjaaaGreatDoor
namespace Go.Proofs.YtnpbnaapbimjaaaGreatDoor
open Go.RowKit

theorem Tryz.info5 : (Tryz.prog.info? 5).map (fun i => (i.zero, i.size, i.bytes)) = some (some (.int .u8 0), 1, 1) := by kernel_rfl
section
variable {ops : Array Oper} {rest : List Oper} {o : Oper} {act : Act} {Q : Exit → Act → World → Prop}
end
end Go.Proofs.YtnpbnaapbimjaaaGreatDoor
namespace Go.Proofs.YtnpbnaapbimjaaaGreatDoor

section
variable {P : Program} {md : Region.Mode} {C : World → Prop} {l : List Oper} {o : Oper}

end

section
variable {P : Program} {md : Region.Mode} {ops : Array Oper} {Q : Exit → Act → World → Prop}
theorem count_set : ∀ (l : List Bool) (i : Nat), i < l.length → l.getD i true = false → (l.set i true).countP (!·) + 1 = l.countP (!·)
  | b :: l, 0, _, h => by
    have : b = false := h
    subst this
    simp
  | b :: l, i + 1, hi, h => by
    have := count_set l i (by simpa using hi) (by simpa using h)
    rw [List.set_cons_succ, List.countP_cons, List.countP_cons]
    omega
/-- AN INVARIANT OVER THE MARKS: whatever may come up keeps it; where nothing may come up it gives what is asked. -/
theorem wpAny_inv (J : Array Bool → Act → World → Prop) (hstep : ∀ m a w, m.size = ops.size → J m a w → ∀ i, i ∈ Region.ready md ops m → wpOp P ops Q i (J (m.setIfInBounds i true)) a w)
    (hdone : ∀ m a w, m.size = ops.size → J m a w → Region.ready md ops m = [] → Q .normal a w) :
    ∀ (f : Nat) (m : Array Bool) (a : Act) (w : World), m.size = ops.size → m.toList.countP (!·) ≤ f → J m a w → wpAny P md ops Q f m a w
  | 0, m, a, w, hs, hc, hJ => by
    have hr : Region.ready md ops m = [] := by
      rw [List.eq_nil_iff_forall_not_mem]
      intro i hi
      obtain ⟨h1, x, hx, _⟩ := mem_ready.1 hi
      have hlt : i < m.size := by rw [hs]; exact (Array.getElem?_eq_some_iff.1 hx).1
      have h2 : m.toList.getD i true = false := by simpa [List.getD_eq_getElem?_getD, hlt] using h1
      have := count_set m.toList i (by simpa using hlt) h2
      omega
    exact ⟨hr, hdone m a w hs hJ hr⟩
  | f + 1, m, a, w, hs, hc, hJ => by
    refine ⟨fun hr => hdone m a w hs hJ hr, fun i hi => ?_⟩
    refine wpOp_mono (fun a' w' hJ' => wpAny_inv J hstep hdone f _ a' w' (by simpa using hs) ?_ hJ') (hstep m a w hs hJ i hi)
    obtain ⟨h1, x, hx, _⟩ := mem_ready.1 hi
    have hlt : i < m.size := by rw [hs]; exact (Array.getElem?_eq_some_iff.1 hx).1
    have h2 : m.toList.getD i true = false := by simpa [List.getD_eq_getElem?_getD, hlt] using h1
    have := count_set m.toList i (by simpa using hlt) h2
    rw [Array.toList_setIfInBounds]
    omega
theorem wp_region_inv {id : Nat} {a : Act} {w : World} (hm : P.follows .mixedOrders = true) (J : Array Bool → Act → World → Prop)
    (hstep : ∀ m a w, m.size = ops.size → J m a w → ∀ i, i ∈ Region.ready .any ops m → wpOp P ops Q i (J (m.setIfInBounds i true)) a w)
    (hdone : ∀ m a w, m.size = ops.size → J m a w → Region.ready .any ops m = [] → Q .normal a w) (h0 : J (Array.replicate ops.size false) a { w with drawn := w.drawn + 1 }) : (Code.region id ops true).wp P Q a w := by
  refine wp_region_any hm (wpAny_inv J hstep hdone _ _ _ _ (by simp) ?_ h0)
  have := List.countP_le_length (p := (!·)) (l := (Array.replicate ops.size false).toList)
  simpa using this
end
end Go.Proofs.YtnpbnaapbimjaaaGreatDoor
namespace Go.Proofs.YtnpbnaapbimjaaaGreatDoor
open Go.RowKit

/-- What an operation leaves in its slot; whatever comes later keeps it. -/
structure Spec where
  p : Value → World → Prop
  mono : ∀ v w w', p v w → Below w.heap.size w w' → p v w'
def Spec.val (v : Value) : Spec := ⟨fun x _ => x = v, fun _ _ _ h _ => h⟩
def Spec.any : Spec := ⟨fun _ _ => True, fun _ _ _ h _ => h⟩

def Holds (ops : Array Oper) (S : List Spec) (a : Act) (w : World) (j : Nat) : Prop :=
  match ops[j]?, S[j]? with
  | some o, some s => (match o.dst with | some d => s.p (a.eval (.tmp d)) w | none => True)
  | _, _ => True
def isDst (ops : Array Oper) (k : Nat) : Bool := ops.toList.any fun o => o.dst == some k
def waitsFor (o : Oper) (j : Nat) : Bool := o.after.toList.any fun e => Region.binds .any e && e.on == j
/-- The slots are different ones, and within the frame. -/
def dstsOk (ops : Array Oper) (n : Nat) : Bool :=
  (List.range ops.size).all fun i => match (ops[i]?).bind (·.dst) with
    | some d => decide (d < n) && (List.range ops.size).all fun j => decide (i = j) || !((ops[j]?).bind (·.dst) == some d)
    | none => true
/-- The frame on the way: but for the operations' own slots it is the one before. -/
structure Fr (ops : Array Oper) (a0 a : Act) : Prop where
  defers : a.defers = a0.defers
  size : a.tmps.size = a0.tmps.size
  base : ∀ k, isDst ops k = false → a.eval (.tmp k) = a0.eval (.tmp k)
section
variable {P : Program} {Q : Exit → Act → World → Prop} {ops : Array Oper} {S : List Spec} {a0 : Act} {w0 : World}
theorem eval_put_same {a : Act} {d : Nat} {v : Value} (h : d < a.tmps.size) : (a.put (some d) v).eval (.tmp d) = v := by
  simp [Act.put, Act.eval, h]
theorem eval_put_other {a : Act} {d : Option Tmp} {k : Nat} {v : Value} (h : d ≠ some k) : (a.put d v).eval (.tmp k) = a.eval (.tmp k) := by
  cases d with
  | none => rfl
  | some d =>
    have hne : d ≠ k := fun e => h (by rw [e])
    simp [Act.put, Act.eval, Array.getElem?_setIfInBounds_ne hne]
theorem dsts_lt {n : Nat} (h : dstsOk ops n = true) {i : Nat} {o : Oper} {d : Nat} (ho : ops[i]? = some o) (hd : o.dst = some d) : d < n ∧ ∀ j o', ops[j]? = some o' → j ≠ i → o'.dst ≠ some d := by
  have hi : i < ops.size := (Array.getElem?_eq_some_iff.1 ho).1
  have h1 := List.all_eq_true.1 h i (List.mem_range.2 hi)
  rw [ho] at h1
  simp only [Option.bind_some, hd, Bool.and_eq_true, decide_eq_true_eq] at h1
  refine ⟨h1.1, fun j o' ho' hji hd' => ?_⟩
  have hj : j < ops.size := (Array.getElem?_eq_some_iff.1 ho').1
  have h2 := List.all_eq_true.1 h1.2 j (List.mem_range.2 hj)
  rw [ho'] at h2
  simp [hd'] at h2
  exact hji h2.symm
theorem holds_mono {a : Act} {w w' : World} {j : Nat} (h : Holds ops S a w j) (hb : Below w.heap.size w w') : Holds ops S a w' j := by
  unfold Holds at *
  split
  · rename_i o s ho hs
    rw [ho, hs] at h
    cases hd : o.dst with
    | none => trivial
    | some d => simp only [hd] at h; exact s.mono _ _ _ h hb
  · trivial
end

/-- The frame, written out. -/
theorem act_eq {a a0 : Act} {n : Nat} (h : a.tmps.size = n) (hd : a.defers = a0.defers) : a = ⟨((List.range n).map fun k => a.eval (.tmp k)).toArray, a0.defers⟩ := by
  obtain ⟨t, d⟩ := a
  simp only at h hd
  subst h hd
  congr 1
  apply Array.ext
  · simp
  · intro i h1 h2
    simp [Act.eval, Array.getElem?_eq_getElem h1]

section
variable {P : Program} {Q : Exit → Act → World → Prop} {ops : Array Oper} {S : List Spec} {a : Act} {w : World} {o : Oper} {s : Spec}
theorem wanted_none (h : o.guard = none) : Region.wanted o (yielded ops a.tmps) = true := by unfold Region.wanted; rw [h]
theorem wanted_true {j d : Nat} (h : o.guard = some (j, true)) (hd : (ops[j]?).bind (·.dst) = some d) (hv : a.eval (.tmp d) = .bool true) : Region.wanted o (yielded ops a.tmps) = true := by
  have e : a.tmps[d]? = some (.bool true) := by
    unfold Act.eval at hv
    simp only [Array.getD_eq_getD_getElem?] at hv
    cases hq : a.tmps[d]? with
    | none => rw [hq] at hv; cases hv
    | some x => rw [hq] at hv; simp at hv; rw [hv]
  unfold Region.wanted yielded
  rw [h]
  simp [hd, e]
theorem loc_run {v : Value} {w' : World} (h : (execOp a.eval o).run P w = .ok (.value v) w') (hb : Below w.heap.size w w') (hs : s.p v w') : o.wp P a w (fun a' w' => ∃ v, a' = a.put o.dst v ∧ Below w.heap.size w w' ∧ s.p v w') Q := by
  unfold Oper.wp
  rw [h]
  exact ⟨v, rfl, hb, hs⟩
theorem loc_move {x : Operand} (ho : o.op = .move x) (hs : s.p (a.eval x) w) : o.wp P a w (fun a' w' => ∃ v, a' = a.put o.dst v ∧ Below w.heap.size w w' ∧ s.p v w') Q :=
  loc_run (by unfold execOp; rw [ho]; rfl) (Below.refl _ _) hs
theorem loc_assign {x : Operand} (ho : o.op = .assign x) (hs : s.p (a.eval x) w) : o.wp P a w (fun a' w' => ∃ v, a' = a.put o.dst v ∧ Below w.heap.size w w' ∧ s.p v w') Q :=
  loc_run (by unfold execOp; rw [ho]; rfl) (Below.refl _ _) hs
theorem loc_pick {c x y : Operand} (ho : o.op = .pick c x y) (hc : a.eval c = .bool true) (hs : s.p (a.eval x) w) : o.wp P a w (fun a' w' => ∃ v, a' = a.put o.dst v ∧ Below w.heap.size w w' ∧ s.p v w') Q :=
  loc_run (by unfold execOp; rw [ho]; simp only [hc]; rfl) (Below.refl _ _) hs
theorem loc_load {x : Operand} {t : TypeId} (ho : o.op = .load t x) {v : Value} (h : (Instr.loadAt t (a.eval x)).run P w = .ok v w) (hs : s.p v w) : o.wp P a w (fun a' w' => ∃ v, a' = a.put o.dst v ∧ Below w.heap.size w w' ∧ s.p v w') Q :=
  loc_run (v := v) (by unfold execOp; rw [ho]; simp only [Sem.run_bind, h, Result.andThen_ok, Sem.run_pure]) (Below.refl _ _) hs
theorem loc_call {f : FuncId} {args : List Operand} {ts : Array TypeId} (ho : o.op = .call { callee := .value (.func f), args := args.toArray, argTypes := ts })
    (hf : (P.funcs[f]?).map (fun fn => fn.name != "runtime.NumGoroutine" && fn.body.isSome) = some true) (h : Calls P f (args.map a.eval).toArray w fun e w' => ∃ v, e = .returned v ∧ Below w.heap.size w w' ∧ s.p v w') : o.wp P a w (fun a' w' => ∃ v, a' = a.put o.dst v ∧ Below w.heap.size w w' ∧ s.p v w') Q := by
  have hrun : (execOp a.eval o).run P w = .ok (.enter f (args.map a.eval).toArray) w := by
    unfold execOp; rw [ho]
    cases hfn : P.funcs[f]? with
    | none => rw [hfn] at hf; cases hf
    | some fn =>
      rw [hfn] at hf
      simp only [Option.map_some, Option.some.injEq, Bool.and_eq_true, bne_iff_ne, ne_eq] at hf
      have hb : fn.body ≠ none := fun e => by rw [e] at hf; exact absurd hf.2 (by simp)
      simp [resolve, Deferred.ofValue, invoke, callFunc, show a.eval (.func f) = .func (.func f) #[] #[] from rfl, hfn, hf.1, hb]
  unfold Oper.wp
  rw [hrun, Oper.upon_enter]
  refine h.mono ?_
  rintro e w' ⟨v, rfl, hb, hs⟩
  exact ⟨v, rfl, hb, hs⟩
end
section
variable {P : Program} {ops : Array Oper} {Q : Exit → Act → World → Prop} {a : Act} {w : World} {rest : List Oper}
theorem local_ret {fn : Func} {R : Ending → World → Prop} {t : Tmp} {v : Value} (h : fn.results = #[.tmp t]) (hd : a.defers = []) (hv : a.eval (.tmp t) = v) (hR : R (.returned v) w) : bodyPost P fn R .ret a w :=
  bodyPost_ret (results_tmp h _ _ _) hd (by rw [show a.tmps.getD t undef = v from hv]; exact hR)
end
end Go.Proofs.YtnpbnaapbimjaaaGreatDoor
namespace Go.Proofs.YtnpbnaapbimjaaaGreatDoor
open Go.ChangeShapes Go.WideShapes Go.ChangeAt Go.RowKit

theorem IsBytes.keep {w w' : World} {a : Option Addr} {l : List UInt8} {cap : Nat} (h : IsBytes w a l cap) (hb : Below w.heap.size w w') : IsBytes w' a l cap := by
  rcases h with h | ⟨x, h1, h2, h3, h4⟩
  · exact .inl h
  · exact .inr ⟨x, h1, h2, h3, fun j hj => below_cell hb (h4 j hj)⟩

section
variable {ops : Array Oper} {rest : List Oper} {o : Oper} {act : Act} {Q : Exit → Act → World → Prop}
end

end Go.Proofs.YtnpbnaapbimjaaaGreatDoor
namespace Go.Proofs.YtnpbnaapbimjaaaGreatDoor
open Go.RowKit

def BytesV (w : World) (v : Value) (l : List UInt8) : Prop := ∃ a c, v = .slice a l.length c ∧ IsBytes w a l c
theorem BytesV.keep {w w' : World} {v : Value} {l : List UInt8} (h : BytesV w v l) (hb : Below w.heap.size w w') : BytesV w' v l := by
  obtain ⟨a, c, h1, h2⟩ := h
  exact ⟨a, c, h1, h2.keep hb⟩
def Spec.bytes (l : List UInt8) : Spec := ⟨fun v w => BytesV w v l, fun _ _ _ h hb => h.keep hb⟩

section
variable {Q : Exit → Act → World → Prop} {a : Act} {w : World} {o : Oper} {s : Spec}
end
end Go.Proofs.YtnpbnaapbimjaaaGreatDoor
namespace Go.Proofs.YtnpbnaapbimjaaaGreatDoor
open Go.RowKit

/-- .. with what stays known of the value alone. -/
structure SpecQ extends Spec where
  q : Value → Prop
  weak : ∀ v w, p v w → q v
def SpecQ.val (v : Value) : SpecQ := ⟨.val v, fun x => x = v, fun _ _ h => h⟩
section
variable {P : Program} {Q : Exit → Act → World → Prop} {ops : Array Oper} {S : List (Option SpecQ)} {a0 : Act} {w0 : World}
theorem fr_put {a : Act} {o : Oper} {i : Nat} (ho : ops[i]? = some o) (hf : Fr ops a0 a) (v : Value) : Fr ops a0 (a.put o.dst v) := by
  refine ⟨?_, ?_, fun k hk => ?_⟩
  · have := hf.defers
    cases o.dst <;> simpa [Act.put] using this
  · have := hf.size
    cases o.dst <;> simpa [Act.put] using this
  · rw [eval_put_other, hf.base k hk]
    intro hk2
    have : isDst ops k = true := by
      unfold isDst
      exact List.any_eq_true.2 ⟨o, Array.mem_toList_iff.2 (Array.mem_of_getElem? ho), by rw [hk2]; simp⟩
    rw [hk] at this; cases this
theorem holds_put {a : Act} {o : Oper} {i j : Nat} {w : World} {T : List Spec} (hd : dstsOk ops a0.tmps.size = true) (ho : ops[i]? = some o) (hji : j ≠ i) {v : Value} (h : Holds ops T a w j) : Holds ops T (a.put o.dst v) w j := by
  unfold Holds at *
  cases hoj : ops[j]? with
  | none => simp
  | some o' =>
    cases hsj : T[j]? with
    | none => simp
    | some s' =>
      simp only [hoj, hsj] at h ⊢
      cases hdo : o'.dst with
      | none => trivial
      | some d =>
        simp only [hdo] at h ⊢
        show s'.p ((a.put o.dst v).eval (.tmp d)) w
        rw [eval_put_other]
        · exact h
        · intro e
          exact (dsts_lt hd ho e).2 j o' hoj hji hdo
end

section
variable {P : Program} {Q : Exit → Act → World → Prop} {ops : Array Oper} {a : Act} {w : World} {o : Oper} {s : SpecQ}
end
end Go.Proofs.YtnpbnaapbimjaaaGreatDoor
namespace Go.Proofs.YtnpbnaapbimjaaaGreatDoor

/-- A fact that no tactic looks into (Hid is a definition, which some unfold). -/
structure Box (p : Prop) : Prop where
  out : p
/-- Four bytes as a word, the first one the greatest. -/
def w4 (l : List UInt8) : UInt32 := l.foldl (fun x c => (x <<< 8) ||| c.toUInt32) 0
end Go.Proofs.YtnpbnaapbimjaaaGreatDoor
namespace Go.Proofs.YtnpbnaapbimjaaaGreatDoor
open Go.RowKit

theorem below_oneF (w : World) (o : Obj) : Below w.heap.size w (w.alloc o) := (Below.refl _ _).alloc (Nat.le_refl _) _
/-- Whether a field is valid. -/
def fldB (n v : ByteArray) : Bool := tokS n && valS v
theorem fldB_val {n v : ByteArray} (h : tokS n = true) : fldB n v = valS v := by unfold fldB; rw [h]; rfl

end Go.Proofs.YtnpbnaapbimjaaaGreatDoor
namespace Go.Proofs.YtnpbnaapbimjaaaGreatDoor
open Go.RowKit
open Go.Maps (Keyed string_keyed)

theorem keyedF : Keyed Tryz.prog 9 := string_keyed Tryz.underlying9
theorem zeroBF (w : World) : (zeroValue 4).run Tryz.prog w = .ok (.bool false) w := by kernel_rfl
/-- Whether a string is among these. -/
def inS (s : ByteArray) (S : List ByteArray) : Bool := S.any fun x => x.toList == s.toList
/-- Block b is a map of at most n entries, which has just the strings S, all with true. -/
def SetIn (w : World) (b n : Nat) (S : List ByteArray) : Prop :=
  ∃ D : DataW Unit, w.ownsMap Tryz.prog 9 (plainElem Tryz.prog 4) b n D ∧ ∀ s : ByteArray, D.atKey (.string s.data.toList) (.lit (.bool false)) = .lit (.bool (inS s S))
theorem SetIn.keep {w w' : World} {b n : Nat} {S : List ByteArray} (h : SetIn w b n S) (hb : Below w.heap.size w w') : SetIn w' b n S := by
  obtain ⟨D, h1, h2⟩ := h
  have hlt := h1.lt
  obtain ⟨es, clock, hbk, F, hs, hD⟩ := h1
  exact ⟨D, ⟨es, clock, by rw [hb.block b hlt]; exact hbk, F, hs, hD⟩, h2⟩
theorem SetIn.lt {w : World} {b n : Nat} {S : List ByteArray} (h : SetIn w b n S) : b < w.heap.size := by
  obtain ⟨D, h1, _⟩ := h; exact h1.lt
theorem SetIn.made (w : World) : SetIn (w.alloc (.map #[] 0)) w.heap.size 0 [] :=
  ⟨.map [], World.ownsMap_made _ _ _ _, fun s => by simp [DataW.atKey, inS]⟩

section
variable {ops : Array Oper} {rest : List Oper} {o : Oper} {act : Act} {Q : Exit → Act → World → Prop}
set_option maxRecDepth 100000 in
theorem SetIn.run {w : World} {b n : Nat} {S : List ByteArray} (h : SetIn w b n S) (s : ByteArray) (hs : s.size ≤ maxLen) :
    (Instr.lookup 74 (.map (some b)) (.string s) false).run Tryz.prog w = .ok (.bool (inS s S)) w := by
  obtain ⟨D, h1, h2⟩ := h
  obtain ⟨v, ps, hrun, hv⟩ := h1.lookup (t := 74) (e := 4) keyedF Tryz.underlying74 (zeroBF w) (plainElem_bool Tryz.underlying4 false) (key := .string s) (kl := .string s.data.toList) (WideMaps.keyOf_string_mk Tryz.underlying9 hs)
  rw [h2 s] at hv
  have : v = .bool (inS s S) := by
    unfold plainElem at hv
    rw [Tryz.underlying4] at hv
    generalize inS s S = r at *
    cases v <;> simp at hv
    rw [hv.1]
  rw [hrun, this]
theorem wpList_update_set (w : World) (hg : o.guard = none) (m x : Operand) (hop : o.op = Op.mapUpdate 74 m x (.const (.bool true))) {b n : Nat} {S : List ByteArray} {s : ByteArray}
    (hm : act.eval m = .map (some b)) (hS : SetIn w b n S) (hn : n < maxLen) (hx : act.eval x = .string s) (hs : s.size ≤ maxLen)
    (hK : ∀ w', SetIn w' b (n + 1) (S ++ [s]) → w.grownBy w' (some b) → wpList Tryz.prog ops Q rest (act.put o.dst undef) w') : wpList Tryz.prog ops Q (o :: rest) act w := by
  obtain ⟨D, h1, h2⟩ := hS
  refine wpList_mapUpdate_own w hg m x (.const (.bool true)) 74 hop 9 4 keyedF Tryz.underlying74 _ b n D hm h1 hn (.string s) (.bool true) (.string s.data.toList) hx rfl (WideMaps.keyOf_string_mk Tryz.underlying9 hs)
    (.lit (.bool true)) [] (plainElem_bool Tryz.underlying4 true) ?_
  intro w' h3 h4
  refine hK w' ⟨_, h3, fun s' => ?_⟩ h4
  by_cases he : s' = s
  · subst he
    rw [Maps.atKey_put_same (h1.isMap) (show WideAt.IsKeyLit (.string s'.data.toList) from trivial)]
    simp [inS]
  · rw [Maps.atKey_put_other (fun e => he (ba_ext (by injection e)))]
    rw [h2 s']
    have : (s.toList == s'.toList) = false := by rw [toList_eq]; simp; exact fun e => he e.symm
    simp [inS, this]
end

theorem lowS_sizeF (s : ByteArray) : (lowS s).size = s.size := by
  show (lowS s).data.size = s.data.size
  simp [lowS]
def RetSet (w : World) (S : List ByteArray) (e : Ending) (w' : World) : Prop :=
  ∃ b n, e = .returned (.map (some b)) ∧ SetIn w' b n S ∧ Below w.heap.size w w'

set_option maxRecDepth 100000 in
set_option maxHeartbeats 1000000 in
theorem setOf_any (l : List ByteArray) (a : Option Addr) (cap : Nat) (w : World) (h : StrsIn w a l) (hz : ∀ s ∈ l, s.size ≤ maxLen) (hl : l.length ≤ 140737488355328) :
    Calls Tryz.prog 46 #[.slice a l.length cap] w (RetSet w (l.map lowS)) := by
  have H0 := Box.mk h
  have HZ := Box.mk hz
  clear h hz
  have hmm := @run_makeMap Tryz.prog
  go_enter Tryz.func46, Tryz.ntmps46
  go_wp2_with fail
  obtain ⟨W, hW⟩ : ∃ W, W = w.alloc (.map #[] 0) := ⟨_, rfl⟩
  have HS := Box.mk (SetIn.made w)
  have HB := Box.mk (below_oneF w (.map #[] 0))
  rw [← hW] at HS HB ⊢
  clear hW
  generalize hb : w.heap.size = b at HS ⊢
  have HBS := Box.mk hb
  clear hb
  go_loopw [9] (fun iv wr => ∃ k : Nat, k ≤ l.length ∧ iv = .int .i64 k ∧ Box (SetIn wr b k ((l.take k).map lowS) ∧ Below w.heap.size w wr)) (fun iv _ => l.length - (intOf iv).toNat)
  case atStart => exact ⟨0, Nat.zero_le _, rfl, ⟨by simpa using HS.out, HB.out⟩⟩
  case round =>
    clear HS HB
    obtain ⟨k, hk, rfl, HM⟩ := hrel
    by_cases hlt : k < l.length
    · obtain ⟨x, rfl, hx⟩ := (H0.out.keep HM.out.2) k hlt
      have HT := Box.mk (show (l.take (k + 1)).map lowS = (l.take k).map lowS ++ [lowS l[k]] by rw [List.take_succ_eq_append_getElem hlt, List.map_append]; rfl)
      have HSZ := Box.mk (HZ.out _ (List.getElem_mem hlt))
      generalize l[k] = s at *
      go_wp2_with fail
      refine (lower_any s _ HSZ.out).mono ?_
      rintro e w1 ⟨rfl, hb1⟩
      have HS1 := Box.mk (HM.out.1.keep hb1)
      have HB1 := Box.mk (below_trans HM.out.2 hb1)
      have HLZ := Box.mk (show (lowS s).size ≤ maxLen by rw [lowS_sizeF]; exact HSZ.out)
      clear hb1
      go_wp2_with (at_mapUpdate; refine wpList_update_set _ rfl _ _ rfl rfl HS1.out (by unfold maxLen; omega) rfl HLZ.out ?c1)
      case c1 =>
        intro w2 hs2 hg2
        have HM2 := Box.mk (show SetIn w2 b (k + 1) ((l.take (k + 1)).map lowS) ∧ Below w.heap.size w w2 from ⟨by rw [HT.out, List.map_take]; exact hs2, HB1.out.grown hg2 HB1.out.size (fun j hj => by injection hj with hj; have := HBS.out; omega)⟩)
        clear hs2 hg2 HS1 HB1 HT
        go_wp2_with fail
        go_roundw
        case rel => exact ⟨k + 1, by omega, by go_num, HM2⟩
        case measure => simp [intOf]; omega
    · have HE := Box.mk (show SetIn wr b k (l.map lowS) by have := HM.out.1; rw [List.take_of_length_le (by omega)] at this; exact this)
      go_wp2_with fail
      go_ret
      exact ⟨b, k, rfl, HE.out, HM.out.2⟩

set_option maxHeartbeats 1000000 in
theorem hdrIn_any (n v : ByteArray) (b m : Nat) (S : List ByteArray) (w : World) (h : SetIn w b m S) (hn : n.size ≤ maxLen) :
    Calls Tryz.prog 47 #[.agg #[.string n, .string v], .map (some b)] w fun e w' => e = .returned (.bool (inS (lowS n) S)) ∧ Below w.heap.size w w' := by
  have H0 := Box.mk (h.keep (below_oneF w (.cells #[.string n, .string v] 77)))
  clear h
  go_enter Tryz.func47, Tryz.ntmps47
  go_wp2_with fail
  refine (lower_any n _ hn).mono ?_
  rintro e w1 ⟨rfl, hb⟩
  have hrun := (H0.out.keep hb).run (lowS n) (by rw [lowS_sizeF]; exact hn)
  have HB := Box.mk (below_trans (below_oneF w (.cells #[.string n, .string v] 77)) hb)
  clear hb
  generalize hr : inS (lowS n) S = r at *
  have HR := Box.mk hr
  clear hr
  go_wp2_with fail
  go_ret
  exact ⟨ret_bool HR.out.symm, HB.out⟩
end Go.Proofs.YtnpbnaapbimjaaaGreatDoor
