/- Contracts of the small functions of package ascii and of its reference: one byte, and loops over the bytes of a string. Contracts of Lower and Fold, of package ascii and of its reference. Plain facts on lists of bytes: trimming from both ends. Slices of strings in memory: one that is read, one that the call appends to, one that is kept beside it. The numbers that the shelf's contracts of Go's library (package strings, package strconv) have in this seat's translation: nothing is claimed here by itself. Contracts of Fold, Value, Trim, of package ascii and of its reference. Plain facts on lists of bytes: cutting at a byte, and the elements of comma-separated lists. Contracts of Same, Split and List, of package ascii and of its reference. Opening arguments: a byte, a slice of bytes. Opening an argument that is a slice of strings. Slices of bytes in memory: one that the call appends to; slices of numbers that are read. A region that draws its order, whose operations all leave the world in a class, but for the last one, which waits for all of them. -/
import Derived.Test.YtgmbfiikkogenaaGreatDoorRows
import Derived.WalkKit
import Derived.WalkSpells
import Derived.WalkLawsBesides
import Derived.BigQuiet
import Derived.Deep.QuietTactic
import Derived.Lib.Bytealg
import Derived.Lib.IndexLaws
import Derived.Lib.Hide
import Derived.Laws.IdiomStrings
import Derived.Lib.SlTrimSet
import Derived.Lib.IndexBytes
import Derived.Lib.Split
import Derived.Deep.AppendLies
import Derived.Shelf.SlGeneric
import Derived.Shelf.Strings.SlTrimAscii
import Derived.Shelf.Strings.SplitShaped
import Derived.Shelf.LaysM
import Derived.Shelf.Strings.BuilderK
import Derived.Shelf.Strconv.Itoa4
import Derived.Shelf.Strings.Builder2
import Derived.Shelf.SlLaysF0
import Derived.Shelf.SlLaysM
import Derived.Shelf.SlLaysN
import Derived.Ground.SlsfProg
import Derived.Ground.SlgmProg
import Derived.Ground.SlgnProg
import Derived.Test.YtgmbfiikkogenaaGreatDoorProg
import Derived.Lib.SplitLaws
import Derived.WalkSmall
import Derived.ProofKit
import Derived.OpenShut
import Derived.Lib.Strings
import Derived.SliceStrings
import Derived.Deep.Quiet
import Derived.Tactics
import Derived.KernelRfl
namespace Go.Proofs.YtgmbfiikkogenaaGreatDoor
open Go.RowKit

theorem ret_bool {a b : Bool} (h : a = b) : Ending.returned (.bool a) = .returned (.bool b) := by rw [h]
theorem ret_int {k : IntKind} {a b : Int} (h : a = b) : Ending.returned (.int k a) = .returned (.int k b) := by rw [h]
theorem ret_str {a b : ByteArray} (h : a = b) : Ending.returned (.string a) = .returned (.string b) := by rw [h]

def upB (c : Int) : Bool := decide (65 ≤ c) && decide (c ≤ 90)
def digB (c : Int) : Bool := decide (48 ≤ c) && decide (c ≤ 57)
def loB (c : Int) : Bool := decide (97 ≤ c) && decide (c ≤ 122)
def marks : ByteArray := ⟨#[33, 35, 36, 37, 38, 39, 42, 43, 45, 46, 94, 95, 96, 124, 126]⟩
def hasS (s : ByteArray) (c : UInt8) : Bool := s.data.toList.contains c
def tokB (c : UInt8) : Bool := upB c.toNat || loB c.toNat || digB c.toNat || hasS marks c
def tokS (s : ByteArray) : Bool := s.data.toList.all tokB && !s.data.toList.isEmpty

theorem take_snoc (s : ByteArray) (k : Nat) (h : k < s.size) : s.data.toList.take (k + 1) = s.data.toList.take k ++ [s[k]] := by
  rw [List.take_succ_eq_append_getElem (by simpa using h)]; rfl
theorem take_all (s : ByteArray) (k : Nat) (h : k ≤ s.size) (h2 : ¬ k < s.size) : s.data.toList.take k = s.data.toList := by
  rw [List.take_of_length_le]; simp; omega
set_option maxHeartbeats 400000 in
theorem isUpper_any (c : Int) (w : World) (h0 : 0 ≤ c) (h1 : c ≤ 255) :
    Calls Tryz.prog 76 #[.int .u8 c] w fun e w' => e = .returned (.bool (upB c)) ∧ w = w' := by
  go_enter Tryz.func76, Tryz.ntmps76
  go_wp2
  all_goals go_ret
  all_goals exact ⟨ret_bool (by unfold upB; rw [Bool.eq_iff_iff]; simp; omega), rfl⟩

theorem eqb_of {a b : UInt8} (h : ((a.toNat : Int) == (b.toNat : Int)) = true) : a = b := by
  apply UInt8.toNat_inj.1; simp at h; omega
end Go.Proofs.YtgmbfiikkogenaaGreatDoor
namespace Go.Proofs.YtgmbfiikkogenaaGreatDoor
open Go.RowKit

def lowB (c : UInt8) : UInt8 := if upB c.toNat then c + 32 else c
def lowS (s : ByteArray) : ByteArray := ⟨(s.data.toList.map lowB).toArray⟩
def foldS (a b : ByteArray) : Bool := (lowS a).toList == (lowS b).toList

/-- From block B on, a row of bytes l that may be written. -/
def BytesAt (w : World) (B : Nat) (l : List UInt8) : Prop :=
  ∀ j (hj : j < l.length), w.cell? ⟨B, j, none⟩ = some (.int .u8 (l[j].toNat : Int)) ∧ w.frozen? ⟨B, j, none⟩ = false

theorem BytesAt.set {w : World} {B : Nat} {l : List UInt8} (h : BytesAt w B l) {k : Nat} (hk : k < l.length) (c : UInt8) :
    BytesAt (w.setCell ⟨B, k, none⟩ (.int .u8 (c.toNat : Int))) B (l.set k c) := by
  intro j hj
  have hj' : j < l.length := by simpa using hj
  obtain ⟨h1, h2⟩ := h j hj'
  obtain ⟨k1, _⟩ := h k hk
  constructor
  · by_cases e : k = j
    · subst e
      rw [World.cell?_setCell_same _ _ _ k1]; simp
    · rw [World.cell?_setCell_other _ _ _ _ (by intro hh; apply e; cases hh; rfl)]
      rw [h1, List.getElem_set_ne e]
  · rw [← h2]; exact World.frozen?_setCell ..

theorem bytesAt_new (w : World) (s : ByteArray) (cap : Nat) :
    BytesAt (w.alloc (.cells (bytesRow s cap) 5 ((bytesRow s cap).size, (bytesRow s cap).size + 1))).drew w.heap.size s.data.toList := by
  intro j hj
  have hj' : j < s.data.size := by simpa using hj
  constructor
  · show (w.alloc _).cell? _ = _
    rw [World.cell?_alloc_mark, bytesRow_at s _ j hj']; simp
  · show (w.alloc _).frozen? _ = _
    rw [World.frozen?_alloc_mark]
    have : j < (bytesRow s cap).size := by
      have h := bytesRow_at s cap j hj'
      exact (Array.getElem?_eq_some_iff.1 h).1
    simp; omega

/-- The row after k rounds: the first k bytes lowered. -/
def lowRow (s : ByteArray) (k : Nat) : List UInt8 := (s.data.toList.take k).map lowB ++ s.data.toList.drop k
theorem lowRow_length (s : ByteArray) (k : Nat) : (lowRow s k).length = s.size := by
  unfold lowRow
  have : s.data.toList.length = s.size := by simp
  rw [List.length_append, List.length_map, List.length_take, List.length_drop]; omega
theorem lowRow_at (s : ByteArray) (k : Nat) (h : k < s.size) : (lowRow s k)[k]'(by rw [lowRow_length]; exact h) = s[k] := by
  unfold lowRow
  have hl : ((s.data.toList.take k).map lowB).length = k := by simp; omega
  rw [List.getElem_append_right (by omega), List.getElem_drop]
  have e : k + (k - ((s.data.toList.take k).map lowB).length) = k := by omega
  simp only [e]
  show s.data.toList[k] = s.data[k]
  simp
theorem lowRow_set (s : ByteArray) (k : Nat) (h : k < s.size) : lowRow s (k + 1) = (lowRow s k).set k (lowB s[k]) := by
  unfold lowRow
  have hl : ((s.data.toList.take k).map lowB).length = k := by simp; omega
  have hd : s.data.toList.drop k = s[k] :: s.data.toList.drop (k + 1) := by
    rw [List.drop_eq_getElem_cons (by simpa using h)]; rfl
  rw [hd, List.set_append_right _ _ (by omega), hl, Nat.sub_self, List.set_cons_zero, take_snoc s k h]
  simp
theorem lowRow_same (s : ByteArray) (k : Nat) (h : k < s.size) (hb : upB s[k].toNat = false) : lowRow s (k + 1) = lowRow s k := by
  rw [lowRow_set s k h]
  have : lowB s[k] = (lowRow s k)[k]'(by rw [lowRow_length]; exact h) := by rw [lowRow_at s k h]; unfold lowB; rw [hb]; rfl
  rw [this, List.set_getElem_self]
theorem lowRow_zero (s : ByteArray) : lowRow s 0 = s.data.toList := by simp [lowRow]
theorem lowRow_all (s : ByteArray) (k : Nat) (h : k ≤ s.size) (h2 : ¬ k < s.size) : lowRow s k = (s.data.toList.map lowB) := by
  have e : k = s.size := by omega
  unfold lowRow
  rw [take_all s k h h2, List.drop_of_length_le (by simp; omega)]; simp
theorem lowB_val (c : UInt8) (h : upB c.toNat = true) : ((lowB c).toNat : Int) = (c.toNat : Int) - 65 + 97 := by
  unfold lowB; rw [if_pos h]
  unfold upB at h; simp at h
  rw [UInt8.toNat_add]
  have : (32 : UInt8).toNat = 32 := rfl
  omega
theorem lowB_val' (c : UInt8) (h : upB c.toNat = true) : ((lowB c).toNat : Int) = (c.toNat : Int) + 32 := by
  rw [lowB_val c h]; omega

set_option maxHeartbeats 400000 in
theorem lower_any (s : ByteArray) (w : World) (hs : s.size ≤ maxLen) :
    Calls Tryz.prog 55 #[.string s] w fun e w' => e = .returned (.string (lowS s)) ∧ Below w.heap.size w w' := by
  unfold maxLen at hs
  have hcv := fun (w : World) (s : ByteArray) => run_bytes_of_string (P := Tryz.prog) w 9 24 5 s Tryz.underlying9 Tryz.underlying24 Tryz.underlying5
  go_enter Tryz.func55, Tryz.ntmps55
  go_wp2
  generalize grownCap w s.size 0 5 = cap
  have hn := Lib.hid (bytesAt_new w s cap)
  go_loopw [10] (fun i wr => ∃ k : Nat, k ≤ s.size ∧ i = .int .i64 k ∧ Hid (BytesAt wr w.heap.size (lowRow s k)) ∧ Below w.heap.size w wr) (fun i _ => s.size - (intOf i).toNat)
  case atStart => exact ⟨0, Nat.zero_le _, rfl, Lib.hid (by rw [lowRow_zero]; exact hn.out), ((Below.refl _ w).alloc (Nat.le_refl _) _).drew⟩
  case round =>
    obtain ⟨k, hk, rfl, HB, hbel⟩ := hrel
    by_cases hlt : k < s.size
    · obtain ⟨c1, c2⟩ := HB.out k (by rw [lowRow_length]; exact hlt)
      rw [lowRow_at s k hlt] at c1
      have b1 : (s[k].toNat : Int) ≤ 255 := by have := s[k].toNat_lt; omega
      by_cases hu : upB s[k].toNat = true
      · have hl := Lib.hid (lowB_val s[k] hu)
        have b2 : 65 ≤ (s[k].toNat : Int) ∧ (s[k].toNat : Int) ≤ 90 := by unfold upB at hu; simpa using hu
        obtain ⟨b3, b4⟩ := b2
        go_wp2_with (go_at_call 76; refine (isUpper_any _ _ (by omega) (by omega)).mono ?_; rintro e w' ⟨rfl, rfl⟩)
        go_roundw
        case rel => exact ⟨k + 1, by omega, by go_num, Lib.hid (by rw [lowRow_set s k hlt]; have := HB.out.set (by rw [lowRow_length]; exact hlt) (lowB s[k]); rw [hl.out] at this; exact this), hbel.setCell (by simp) _⟩
        case measure => simp [intOf]; omega
      · have hu' : upB s[k].toNat = false := by simpa using hu
        clear hu
        go_wp2_with (go_at_call 76; refine (isUpper_any _ _ (by omega) (by omega)).mono ?_; rintro e w' ⟨rfl, rfl⟩)
        go_roundw
        case rel => exact ⟨k + 1, by omega, by go_num, Lib.hid (by rw [lowRow_same s k hlt hu']; exact HB.out), hbel⟩
        case measure => simp [intOf]; omega
    · have hback := run_convert_bytes_back (P := Tryz.prog) wr 24 9 5 ⟨w.heap.size, 0, none⟩ cap (lowRow s k) Tryz.underlying24 Tryz.underlying5 Tryz.underlying9 (fun j hj => by
        rw [Addr.add_lit, Nat.zero_add]; exact (HB.out j hj).1)
      rw [lowRow_length] at hback
      go_wp2
      go_ret
      exact ⟨ret_str (by rw [lowRow_all s k hk hlt]; rfl), hbel⟩

set_option maxHeartbeats 400000 in
theorem refLower_any (s : ByteArray) (w : World) (hs : s.size ≤ maxLen) :
    Calls Tryz.prog 45 #[.string s] w fun e w' => e = .returned (.string (lowS s)) ∧ Below w.heap.size w w' := by
  unfold maxLen at hs
  have hcv := fun (w : World) (s : ByteArray) => run_bytes_of_string (P := Tryz.prog) w 9 24 5 s Tryz.underlying9 Tryz.underlying24 Tryz.underlying5
  go_enter Tryz.func45, Tryz.ntmps45
  go_wp2
  generalize grownCap w s.size 0 5 = cap
  have hn := Lib.hid (bytesAt_new w s cap)
  go_loopw [4] (fun i wr => ∃ k : Nat, k ≤ s.size ∧ i = .int .i64 k ∧ Hid (BytesAt wr w.heap.size (lowRow s k)) ∧ Below w.heap.size w wr) (fun i _ => s.size - (intOf i).toNat)
  case atStart => exact ⟨0, Nat.zero_le _, rfl, Lib.hid (by rw [lowRow_zero]; exact hn.out), ((Below.refl _ w).alloc (Nat.le_refl _) _).drew⟩
  case round =>
    obtain ⟨k, hk, rfl, HB, hbel⟩ := hrel
    by_cases hlt : k < s.size
    · obtain ⟨c1, c2⟩ := HB.out k (by rw [lowRow_length]; exact hlt)
      rw [lowRow_at s k hlt] at c1
      have b1 : (s[k].toNat : Int) ≤ 255 := by have := s[k].toNat_lt; omega
      by_cases hu : upB s[k].toNat = true
      · have hl := Lib.hid (lowB_val' s[k] hu)
        have b2 : 65 ≤ (s[k].toNat : Int) ∧ (s[k].toNat : Int) ≤ 90 := by unfold upB at hu; simpa using hu
        obtain ⟨b3, b4⟩ := b2
        have HU := Lib.hid hu; clear hu
        go_wp2
        go_roundw
        case rel => exact ⟨k + 1, by omega, by go_num, Lib.hid (by rw [lowRow_set s k hlt]; have := HB.out.set (by rw [lowRow_length]; exact hlt) (lowB s[k]); rw [hl.out] at this; exact this), hbel.setCell (by simp) _⟩
        case measure => simp [intOf]; omega
      · have hu' : upB s[k].toNat = false := by simpa using hu
        clear hu
        have HU := Lib.hid hu'
        have b2 : (s[k].toNat : Int) < 65 ∨ 90 < (s[k].toNat : Int) := by unfold upB at hu'; simp at hu'; omega
        clear hu'
        rcases b2 with b2 | b2
        all_goals
          go_wp2
          go_roundw
          case rel => exact ⟨k + 1, by omega, by go_num, Lib.hid (by rw [lowRow_same s k hlt HU.out]; exact HB.out), hbel⟩
          case measure => simp [intOf]; omega
    · have hback := run_convert_bytes_back (P := Tryz.prog) wr 24 9 5 ⟨w.heap.size, 0, none⟩ cap (lowRow s k) Tryz.underlying24 Tryz.underlying5 Tryz.underlying9 (fun j hj => by
        rw [Addr.add_lit, Nat.zero_add]; exact (HB.out j hj).1)
      rw [lowRow_length] at hback
      go_wp2
      go_ret
      exact ⟨ret_str (by rw [lowRow_all s k hk hlt]; rfl), hbel⟩
end Go.Proofs.YtgmbfiikkogenaaGreatDoor
namespace Go.Proofs.YtgmbfiikkogenaaGreatDoor
open Go

/-- The blanks: 32 and 9. -/
def blanks : List UInt8 := [32, 9]
def blankB (c : UInt8) : Bool := blanks.contains c
def rdrop (p : UInt8 → Bool) (l : List UInt8) : List UInt8 := (l.reverse.dropWhile p).reverse

theorem rdrop_cons (p : UInt8 → Bool) (a : UInt8) (t : List UInt8) : rdrop p (a :: t) = if (rdrop p t).isEmpty then [a].dropWhile p else a :: rdrop p t := by
  unfold rdrop
  rw [List.reverse_cons, List.dropWhile_append]
  have : (t.reverse.dropWhile p).reverse.isEmpty = (t.reverse.dropWhile p).isEmpty := by simp
  rw [this]
  split
  · cases h : p a <;> simp [List.dropWhile, h]
  · simp
theorem rdrop_empty (p : UInt8 → Bool) : ∀ t : List UInt8, (rdrop p t).isEmpty = t.all p
  | [] => rfl
  | a :: t => by
    rw [rdrop_cons, List.all_cons, rdrop_empty p t]
    cases ht : t.all p <;> cases h : p a <;> simp [List.dropWhile, h]
theorem dropWhile_all (p : UInt8 → Bool) : ∀ t : List UInt8, t.all p = true → t.dropWhile p = []
  | [], _ => rfl
  | a :: t, h => by
    rw [List.all_cons, Bool.and_eq_true] at h
    rw [List.dropWhile_cons, if_pos h.1]; exact dropWhile_all p t h.2

theorem trim_comm (p : UInt8 → Bool) : ∀ l : List UInt8, (rdrop p l).dropWhile p = rdrop p (l.dropWhile p)
  | [] => rfl
  | a :: t => by
    cases h : p a
    · have e : (a :: t).dropWhile p = a :: t := by rw [List.dropWhile_cons, if_neg (by simp [h])]
      rw [e, rdrop_cons]
      split
      · simp [List.dropWhile, h]
      · rw [List.dropWhile_cons, if_neg (by simp [h])]
    · have e : (a :: t).dropWhile p = t.dropWhile p := by rw [List.dropWhile_cons, if_pos h]
      rw [e, rdrop_cons, rdrop_empty]
      split
      · rename_i ht
        rw [dropWhile_all p t ht]; simp [List.dropWhile, h, rdrop]
      · rw [List.dropWhile_cons, if_pos h]; exact trim_comm p t

/-- Trim: the blanks of both ends are cut off. -/
def trimL (l : List UInt8) : List UInt8 := (rdrop blankB l).dropWhile blankB
theorem length_dropWhile (p : UInt8 → Bool) : ∀ l : List UInt8, (l.dropWhile p).length ≤ l.length
  | [] => Nat.le_refl _
  | a :: t => by
    rw [List.dropWhile_cons]; split
    · have := length_dropWhile p t; simp; omega
    · exact Nat.le_refl _
theorem trimL_length (l : List UInt8) : (trimL l).length ≤ l.length := by
  unfold trimL
  have h1 := length_dropWhile blankB (rdrop blankB l)
  have h2 : (rdrop blankB l).length ≤ l.length := by
    unfold rdrop; rw [List.length_reverse]; have := length_dropWhile blankB l.reverse; simpa using this
  omega
def trimBA (s : ByteArray) : ByteArray := ⟨(trimL s.data.toList).toArray⟩
theorem trimBA_list (s : ByteArray) : (trimBA s).data.toList = trimL s.data.toList := by simp [trimBA]
theorem trimBA_size (s : ByteArray) : (trimBA s).size ≤ s.size := by
  have := trimL_length s.data.toList
  have h1 : (trimBA s).size = (trimL s.data.toList).length := by show (trimBA s).data.size = _; simp [trimBA]
  have h2 : s.size = s.data.toList.length := by simp
  omega
theorem ba_ext {a b : ByteArray} (h : a.data.toList = b.data.toList) : a = b := by
  cases a; cases b; simp at h; simp [h]
/-- One step of the loop from the front, and its end. -/
theorem drop_step (t : ByteArray) (h : 0 < t.size) (hb : blankB t[0] = true) : (t.extract 1 t.size).data.toList.dropWhile blankB = t.data.toList.dropWhile blankB := by
  rw [Lib.extract_to_end]
  have e : t.data.toList = t[0] :: t.data.toList.drop 1 := by
    have : 0 < t.data.toList.length := by simpa using h
    rw [← List.drop_zero (l := t.data.toList), List.drop_eq_getElem_cons this]; simp; rfl
  conv => rhs; rw [e]
  rw [List.dropWhile_cons, if_pos hb]
theorem drop_end (t : ByteArray) (hb : ∀ h : 0 < t.size, blankB t[0] = false) : t.data.toList.dropWhile blankB = t.data.toList := by
  by_cases h : 0 < t.size
  · have e : t.data.toList = t[0] :: t.data.toList.drop 1 := by
      have : 0 < t.data.toList.length := by simpa using h
      rw [← List.drop_zero (l := t.data.toList), List.drop_eq_getElem_cons this]; simp; rfl
    rw [e, List.dropWhile_cons, if_neg (by simp [hb h])]
  · have : t.data.toList = [] := by apply List.eq_nil_of_length_eq_zero; have hl : t.data.toList.length = t.size := by simp
                                    omega
    rw [this]; rfl
theorem back_eq (t : ByteArray) (h : 0 < t.size) : t.data.toList = t.data.toList.take (t.size - 1) ++ [t[t.size - 1]] := by
  have h1 : t.size - 1 < t.data.toList.length := by simp; omega
  have : t.data.toList.take (t.size - 1 + 1) = t.data.toList := by rw [List.take_of_length_le]; simp; omega
  rw [List.take_succ_eq_append_getElem h1] at this
  exact this.symm
theorem rdrop_step (t : ByteArray) (h : 0 < t.size) (hb : blankB t[t.size - 1] = true) : rdrop blankB (t.extract 0 (t.size - 1)).data.toList = rdrop blankB t.data.toList := by
  rw [Lib.extract_from_zero]
  conv => rhs; rw [back_eq t h]
  unfold rdrop
  rw [List.reverse_append]; simp only [List.reverse_cons, List.reverse_nil, List.nil_append, List.cons_append]
  rw [List.dropWhile_cons, if_pos hb]
theorem rdrop_end (t : ByteArray) (hb : ∀ h : 0 < t.size, blankB t[t.size - 1] = false) : rdrop blankB t.data.toList = t.data.toList := by
  by_cases h : 0 < t.size
  · conv => lhs; rw [back_eq t h]
    unfold rdrop
    rw [List.reverse_append]; simp only [List.reverse_cons, List.reverse_nil, List.nil_append, List.cons_append]
    rw [List.dropWhile_cons, if_neg (by simp [hb h])]
    rw [List.reverse_cons, List.reverse_reverse]; exact (back_eq t h).symm
  · have : t.data.toList = [] := by apply List.eq_nil_of_length_eq_zero; have hl : t.data.toList.length = t.size := by simp
                                    omega
    rw [this]; rfl
end Go.Proofs.YtgmbfiikkogenaaGreatDoor
namespace Go.Proofs.YtgmbfiikkogenaaGreatDoor
open Go.RowKit

theorem lt_cell {w : World} {a : Addr} {v : Value} (h : w.cell? a = some v) : a.block < w.heap.size := by
  rcases Nat.lt_or_ge a.block w.heap.size with h' | h'
  · exact h'
  · simp [World.cell?, Array.getElem?_eq_none h'] at h
theorem below_trans {w w1 w2 : World} (h : Below w.heap.size w w1) (k : Below w1.heap.size w1 w2) : Below w.heap.size w w2 := h.trans (k.mono h.size)
theorem below_cell {w w' : World} (h : Below w.heap.size w w') {a : Addr} {v : Value} (hc : w.cell? a = some v) : w'.cell? a = some v := by
  rw [h.cell (lt_cell hc)]; exact hc

/-- The slice at a holds the strings l. -/
def StrsAt (w : World) (a : Option Addr) (l : List ByteArray) : Prop :=
  ∀ j (hj : j < l.length), ∃ b off, a = some ⟨b, off, none⟩ ∧ w.cell? ⟨b, off + j, none⟩ = some (.string l[j])
theorem StrsAt.keep {w w' : World} {a : Option Addr} {l : List ByteArray} (h : StrsAt w a l) (hb : Below w.heap.size w w') : StrsAt w' a l := fun j hj => by
  obtain ⟨b, off, e, hc⟩ := h j hj
  exact ⟨b, off, e, below_cell hb hc⟩
theorem StrsAt.nil (w : World) (a : Option Addr) : StrsAt w a [] := fun _ hj => absurd hj (Nat.not_lt_zero _)

/-- The call returns a slice of the strings l; what was there is as it was. -/
def RetStrs (w : World) (l : List ByteArray) (e : Ending) (w' : World) : Prop :=
  ∃ a cap, e = .returned (.slice a l.length cap) ∧ StrsAt w' a l ∧ Below w.heap.size w w'
/-- The same, and the slice is new and not nil. -/
def RetFresh (w : World) (l : List ByteArray) (e : Ending) (w' : World) : Prop :=
  ∃ g cap, e = .returned (.slice (some ⟨g, 0, none⟩) l.length cap) ∧ w.heap.size ≤ g ∧ g < w'.heap.size ∧ StrsAt w' (some ⟨g, 0, none⟩) l ∧ Below w.heap.size w w'

theorem Tryz.info9 : (Tryz.prog.info? 9).map (fun i => (i.zero, i.size, i.bytes)) = some (some (.string ⟨#[]⟩), 1, 16) := by kernel_rfl

/-- v is a slice of the call's own with the strings l; what was there before the call is as it was. -/
def Acc (w0 w : World) (v : Value) (l : List ByteArray) : Prop :=
  w.ownsRow w0.heap.size 9 1 v l.length (l.map Value.string) ∧ Below w0.heap.size w0 w
/-- Beside v lies the slice P of the strings parts. -/
def Aside (w : World) (v : Value) (P : Nat) (parts : List ByteArray) : Prop :=
  StrsAt w (some ⟨P, 0, none⟩) parts ∧ v.ownBlock ≠ some P ∧ P < w.heap.size

theorem Acc.start (w : World) : Acc w w (.slice none 0 0) [] := ⟨World.ownsRow_nil _ _ _ _, Below.refl _ _⟩
theorem Acc.size {w0 w : World} {v : Value} {l : List ByteArray} (h : Acc w0 w v l) : w0.heap.size ≤ w.heap.size := h.2.size
theorem ownsRow_keep {w w' : World} {base : Nat} {e : TypeId} {size n : Nat} {v : Value} {xs : List Value} (h : w.ownsRow base e size v n xs) (hb : Below w.heap.size w w') : w'.ownsRow base e size v n xs := by
  obtain ⟨h1, h2⟩ := h
  refine ⟨h1, ?_⟩
  rcases h2 with h2 | ⟨g, cap, cur, hv, hg, hc, r⟩
  · exact .inl h2
  · have hlt : g < w.heap.size := by
      rcases Nat.lt_or_ge g w.heap.size with h' | h'
      · exact h'
      · rw [Array.getElem?_eq_none h'] at hc; cases hc
    exact .inr ⟨g, cap, cur, hv, hg, by rw [hb.block g hlt]; exact hc, r⟩
theorem Acc.keep {w0 w w' : World} {v : Value} {l : List ByteArray} (h : Acc w0 w v l) (hb : Below w.heap.size w w') : Acc w0 w' v l :=
  ⟨ownsRow_keep h.1 hb, h.2.trans (hb.mono h.2.size)⟩
theorem Aside.keep {w w' : World} {v : Value} {P : Nat} {parts : List ByteArray} (h : Aside w v P parts) (hb : Below w.heap.size w w') : Aside w' v P parts :=
  ⟨h.1.keep hb, h.2.1, Nat.lt_of_lt_of_le h.2.2 hb.size⟩
theorem Acc.lt {w0 w : World} {v : Value} {l : List ByteArray} (h : Acc w0 w v l) {k : Nat} (hk : v.ownBlock = some k) : k < w.heap.size := (World.ownsRow.lt h.1 k hk).2
/-- A slice that is new beside v. -/
theorem Aside.fresh {w0 w w' : World} {v : Value} {l : List ByteArray} (h : Acc w0 w v l) {P : Nat} {parts : List ByteArray} (hP : w.heap.size ≤ P) (hlt : P < w'.heap.size) (hs : StrsAt w' (some ⟨P, 0, none⟩) parts) : Aside w' v P parts :=
  ⟨hs, fun e => by have := h.lt e; omega, hlt⟩
/-- The shape of v. -/
theorem Acc.shape {w0 w : World} {v : Value} {l : List ByteArray} (h : Acc w0 w v l) : ∃ a cap, v = .slice a l.length cap ∧ StrsAt w a l := by
  obtain ⟨⟨h1, h2⟩, _⟩ := h
  rcases h2 with ⟨rfl, h2⟩ | ⟨g, cap, cur, rfl, hg, hc, hcap, hm, hsz, ht⟩
  · have : l = [] := List.eq_nil_of_length_eq_zero h2
    subst this
    exact ⟨none, 0, rfl, StrsAt.nil _ _⟩
  · refine ⟨_, cap, rfl, fun j hj => ⟨g, 0, rfl, ?_⟩⟩
    have e : cur.toList[j]? = some (Value.string l[j]) := by
      have := congrArg (fun x => x[j]?) ht
      simp only [Nat.mul_one] at this
      rw [List.getElem?_take_of_lt hj, List.getElem?_map, List.getElem?_eq_getElem hj] at this
      exact this
    simp only [World.cell?, hc, Nat.zero_add]
    simpa using e

/-- The call returns a slice of its own with the strings l; what was there is as it was. -/
def RetAcc (w : World) (l : List ByteArray) (e : Ending) (w' : World) : Prop := ∃ v, e = .returned v ∧ Acc w w' v l
theorem Acc.lift {w w1 w2 : World} {v : Value} {l : List ByteArray} (h : Below w.heap.size w w1) (k : Acc w1 w2 v l) : Acc w w2 v l := by
  refine ⟨?_, below_trans h k.2⟩
  obtain ⟨⟨h1, h2⟩, _⟩ := k
  refine ⟨h1, ?_⟩
  rcases h2 with h2 | ⟨g, cap, cur, hv, hg, r⟩
  · exact .inl h2
  · exact .inr ⟨g, cap, cur, hv, Nat.le_trans h.size hg, r⟩
theorem Acc.isNew {w0 w : World} {v : Value} {l : List ByteArray} (h : Acc w0 w v l) (hne : l ≠ []) : ∃ g cap, v = .slice (some ⟨g, 0, none⟩) l.length cap ∧ w0.heap.size ≤ g ∧ g < w.heap.size ∧ StrsAt w (some ⟨g, 0, none⟩) l := by
  obtain ⟨a, cap, hv, hs⟩ := h.shape
  have hpos : 0 < l.length := by cases l with
    | nil => exact absurd rfl hne
    | cons _ _ => simp
  obtain ⟨⟨h1, h2⟩, hb⟩ := h
  rcases h2 with ⟨_, h2⟩ | ⟨g, cap', cur, hv', hg, hc, _⟩
  · omega
  · rw [hv] at hv'; cases hv'
    have hlt : g < w.heap.size := by
      rcases Nat.lt_or_ge g w.heap.size with h' | h'
      · exact h'
      · rw [Array.getElem?_eq_none h'] at hc; cases hc
    exact ⟨g, cap, hv, hg, hlt, hs⟩

section
variable {ops : Array Oper} {rest : List Oper} {o : Oper} {act : Act} {Q : Exit → Act → World → Prop}
/-- APPEND of one string to a slice of the call's own. -/
theorem wpList_append_acc (w : World) (hgd : o.guard = none) (s x : Operand) (ho : o.op = .call { callee := .builtin .append, args := #[s, x], argTypes := #[27, 27] })
    {w0 : World} {v : Value} {l : List ByteArray} (hs : act.eval s = v) (h : Acc w0 w v l) {b c : Nat} (hx : act.eval x = .slice (some ⟨b, 0, none⟩) 1 c) {y : ByteArray} (hy : w.cell? ⟨b, 0, none⟩ = some (.string y))
    (hn : l.length + 1 ≤ 8796093022208)
    (K : ∀ g cap w', Acc w0 w' (.slice (some ⟨g, 0, none⟩) (l.length + 1) cap) (l ++ [y]) → (∀ P parts, Aside w v P parts → Aside w' (.slice (some ⟨g, 0, none⟩) (l.length + 1) cap) P parts) →
      wpList Tryz.prog ops Q rest (act.put o.dst (.slice (some ⟨g, 0, none⟩) (l.length + 1) cap)) w') : wpList Tryz.prog ops Q (o :: rest) act w := by
  obtain ⟨i0, hi, hz0, hz1, hz2⟩ := info_parts Tryz.info9
  refine wpList_append_lies w hgd s x 27 ho w0.heap.size 9 i0 (.string ⟨#[]⟩) 1 16 Tryz.underlying27 hi hz0 hz1 hz2 rfl (by decide) v l.length (l.map Value.string) hs h.1 ⟨b, 0, none⟩ 1 c [.string y] hx rfl ?_ ?_ (by decide) (by unfold maxLen; omega) (by omega) h.2.size w.heap.size rfl ?_
  · intro j u hj
    match j, hj with
    | 0, hj => simp at hj; subst hj; rw [Addr.add_lit]; exact hy
    | j + 1, hj => simp at hj
  · intro u hu; simp at hu; subst hu; rfl
  · intro g cap w' hown hgrow hg hlt
    have hacc : Acc w0 w' (.slice (some ⟨g, 0, none⟩) (l.length + 1) cap) (l ++ [y]) := by
      refine ⟨by simpa using hown, h.2.grown hgrow h.2.size fun k hk => ?_⟩
      exact (World.ownsRow.lt h.1 k hk).1
    refine K g cap w' hacc (fun P parts hP => ⟨fun j hj => ?_, ?_, ?_⟩)
    · obtain ⟨b', off, e, hc⟩ := hP.1 j hj
      cases e
      exact ⟨P, 0, rfl, hgrow.cell hc (fun e => hP.2.1 e.symm)⟩
    · intro e
      have : g = P := by simpa [Value.ownBlock] using e
      subst this
      rcases hg with hg | hg
      · exact hP.2.1 hg
      · have := hP.2.2; omega
    · exact Nat.lt_of_lt_of_le hP.2.2 hgrow.size
end
end Go.Proofs.YtgmbfiikkogenaaGreatDoor
namespace Go.Proofs
open Go.Shelf
def Tryz.lays160_ren : Go.Shelf.Ren := ⟨fun | 160 => 130 | 232 => 135 | 231 => 134 | 227 => 136 | 234 => 138 | 233 => 137 | 236 => 140 | 235 => 139 | 228 => 145 | 271 => 147 | 151 => 146 | 197 => 142 | 120 => 154 | 152 => 153 | 260 => 148 | 137 => 157 | 119 => 158 | 224 => 151 | 225 => 150 | 217 => 149 | 266 => 155 | n => n, fun | 9 => 9 | 4 => 4 | 3 => 3 | 5 => 5 | 117 => 167 | 116 => 166 | 0 => 0 | 124 => 170 | 21 => 21 | 105 => 172 | 46 => 86 | 119 => 177 | 139 => 180 | 138 => 179 | n => n, fun | 3 => 3 | 4 => 4 | n => n⟩
theorem Tryz.lays160 : Go.Proofs.Lays.n160 Tryz.prog Tryz.lays160_ren := {
  mixed := by kernel_rfl
  f119 := Tryz.func158.trans (congrArg some (by kernel_rfl))
  f120 := Tryz.func154.trans (congrArg some (by kernel_rfl))
  f137 := Tryz.func157.trans (congrArg some (by kernel_rfl))
  f151 := Tryz.func146.trans (congrArg some (by kernel_rfl))
  f152 := Tryz.func153.trans (congrArg some (by kernel_rfl))
  f160 := Tryz.func130.trans (congrArg some (by kernel_rfl))
  f197 := Tryz.func142.trans (congrArg some (by kernel_rfl))
  f217 := Tryz.func149.trans (congrArg some (by kernel_rfl))
  f224 := Tryz.func151.trans (congrArg some (by kernel_rfl))
  f225 := Tryz.func150.trans (congrArg some (by kernel_rfl))
  f227 := Tryz.func136.trans (congrArg some (by kernel_rfl))
  f228 := Tryz.func145.trans (congrArg some (by kernel_rfl))
  f231 := Tryz.func134.trans (congrArg some (by kernel_rfl))
  f232 := Tryz.func135.trans (congrArg some (by kernel_rfl))
  f233 := Tryz.func137.trans (congrArg some (by kernel_rfl))
  f234 := Tryz.func138.trans (congrArg some (by kernel_rfl))
  f235 := Tryz.func139.trans (congrArg some (by kernel_rfl))
  f236 := Tryz.func140.trans (congrArg some (by kernel_rfl))
  f260 := Tryz.func148.trans (congrArg some (by kernel_rfl))
  f266 := Tryz.func155.trans (congrArg some (by kernel_rfl))
  f271 := Tryz.func147.trans (congrArg some (by kernel_rfl))
  t0 := Tryz.underlying0
  a0 := Tryz.isAgg0
  z0 := Tryz.sizeOf0
  v0 := Tryz.zeroValue0
  t3 := Tryz.underlying3
  a3 := Tryz.isAgg3
  z3 := Tryz.sizeOf3
  v3 := Tryz.zeroValue3
  t4 := Tryz.underlying4
  a4 := Tryz.isAgg4
  z4 := Tryz.sizeOf4
  v4 := Tryz.zeroValue4
  t5 := Tryz.underlying5
  a5 := Tryz.isAgg5
  z5 := Tryz.sizeOf5
  v5 := Tryz.zeroValue5
  t9 := Tryz.underlying9
  a9 := Tryz.isAgg9
  z9 := Tryz.sizeOf9
  v9 := Tryz.zeroValue9
  t21 := Tryz.underlying21
  a21 := Tryz.isAgg21
  z21 := Tryz.sizeOf21
  v21 := Tryz.zeroValue21
  t46 := Tryz.underlying86
  a46 := Tryz.isAgg86
  z46 := Tryz.sizeOf86
  v46 := Tryz.zeroValue86
  t105 := Tryz.underlying172
  a105 := Tryz.isAgg172
  z105 := Tryz.sizeOf172
  v105 := Tryz.zeroValue172
  t116 := Tryz.underlying166
  a116 := Tryz.isAgg166
  z116 := Tryz.sizeOf166
  t117 := Tryz.underlying167
  a117 := Tryz.isAgg167
  z117 := Tryz.sizeOf167
  v117 := Tryz.zeroValue167
  t119 := Tryz.underlying177
  a119 := Tryz.isAgg177
  z119 := Tryz.sizeOf177
  t124 := Tryz.underlying170
  a124 := Tryz.isAgg170
  z124 := Tryz.sizeOf170
  v124 := Tryz.zeroValue170
  t138 := Tryz.underlying179
  a138 := Tryz.isAgg179
  z138 := Tryz.sizeOf179
  v138 := Tryz.zeroValue179
  t139 := Tryz.underlying180
  a139 := Tryz.isAgg180
  z139 := Tryz.sizeOf180
  v139 := Tryz.zeroValue180
  g3 := by kernel_rfl
  g4 := by kernel_rfl }
def Tryz.lays146_ren : Go.Shelf.Ren := ⟨fun | 146 => 126 | 221 => 129 | 268 => 131 | 138 => 132 | 143 => 133 | 195 => 141 | 197 => 142 | 218 => 143 | 219 => 144 | 260 => 148 | 217 => 149 | 225 => 150 | 224 => 151 | 267 => 152 | 266 => 155 | 314 => 156 | n => n, fun | 9 => 9 | 31 => 27 | 3 => 3 | 4 => 4 | 0 => 0 | 105 => 172 | 21 => 21 | 5 => 5 | 46 => 86 | 119 => 177 | 139 => 180 | 138 => 179 | 146 => 181 | 51 => 73 | n => n, fun | 1 => 2 | 3 => 3 | 4 => 4 | n => n⟩
theorem Tryz.lays146 : Go.Proofs.Lays.n146 Tryz.prog Tryz.lays146_ren := {
  mixed := by kernel_rfl
  f138 := Tryz.func132.trans (congrArg some (by kernel_rfl))
  f143 := Tryz.func133.trans (congrArg some (by kernel_rfl))
  f146 := Tryz.func126.trans (congrArg some (by kernel_rfl))
  f195 := Tryz.func141.trans (congrArg some (by kernel_rfl))
  f197 := Tryz.func142.trans (congrArg some (by kernel_rfl))
  f217 := Tryz.func149.trans (congrArg some (by kernel_rfl))
  f218 := Tryz.func143.trans (congrArg some (by kernel_rfl))
  f219 := Tryz.func144.trans (congrArg some (by kernel_rfl))
  f221 := Tryz.func129.trans (congrArg some (by kernel_rfl))
  f224 := Tryz.func151.trans (congrArg some (by kernel_rfl))
  f225 := Tryz.func150.trans (congrArg some (by kernel_rfl))
  f260 := Tryz.func148.trans (congrArg some (by kernel_rfl))
  f266 := Tryz.func155.trans (congrArg some (by kernel_rfl))
  f267 := Tryz.func152.trans (congrArg some (by kernel_rfl))
  f268 := Tryz.func131.trans (congrArg some (by kernel_rfl))
  f314 := Tryz.func156.trans (congrArg some (by kernel_rfl))
  t0 := Tryz.underlying0
  a0 := Tryz.isAgg0
  z0 := Tryz.sizeOf0
  v0 := Tryz.zeroValue0
  t3 := Tryz.underlying3
  a3 := Tryz.isAgg3
  z3 := Tryz.sizeOf3
  v3 := Tryz.zeroValue3
  t4 := Tryz.underlying4
  a4 := Tryz.isAgg4
  z4 := Tryz.sizeOf4
  v4 := Tryz.zeroValue4
  t5 := Tryz.underlying5
  a5 := Tryz.isAgg5
  z5 := Tryz.sizeOf5
  v5 := Tryz.zeroValue5
  t9 := Tryz.underlying9
  a9 := Tryz.isAgg9
  z9 := Tryz.sizeOf9
  v9 := Tryz.zeroValue9
  t21 := Tryz.underlying21
  a21 := Tryz.isAgg21
  z21 := Tryz.sizeOf21
  v21 := Tryz.zeroValue21
  t31 := Tryz.underlying27
  a31 := Tryz.isAgg27
  z31 := Tryz.sizeOf27
  v31 := Tryz.zeroValue27
  t46 := Tryz.underlying86
  a46 := Tryz.isAgg86
  z46 := Tryz.sizeOf86
  v46 := Tryz.zeroValue86
  t51 := Tryz.underlying73
  a51 := Tryz.isAgg73
  z51 := Tryz.sizeOf73
  v51 := Tryz.zeroValue73
  t105 := Tryz.underlying172
  a105 := Tryz.isAgg172
  z105 := Tryz.sizeOf172
  v105 := Tryz.zeroValue172
  t119 := Tryz.underlying177
  a119 := Tryz.isAgg177
  z119 := Tryz.sizeOf177
  t138 := Tryz.underlying179
  a138 := Tryz.isAgg179
  z138 := Tryz.sizeOf179
  v138 := Tryz.zeroValue179
  t139 := Tryz.underlying180
  a139 := Tryz.isAgg180
  z139 := Tryz.sizeOf180
  v139 := Tryz.zeroValue180
  t146 := Tryz.underlying181
  a146 := Tryz.isAgg181
  z146 := Tryz.sizeOf181
  v146 := Tryz.zeroValue181
  g1 := by kernel_rfl
  g3 := by kernel_rfl
  g4 := by kernel_rfl }
def Tryz.laysM146_ren : Go.Shelf.Ren := ⟨fun | 146 => 126 | 221 => 129 | 268 => 131 | 138 => 132 | 143 => 133 | 195 => 141 | 197 => 142 | 218 => 143 | 219 => 144 | 260 => 148 | 217 => 149 | 225 => 150 | 224 => 151 | 267 => 152 | 266 => 155 | 314 => 156 | n => n, fun | 9 => 9 | 31 => 27 | 3 => 3 | 4 => 4 | 0 => 0 | 105 => 172 | 21 => 21 | 5 => 5 | 46 => 86 | 119 => 177 | 139 => 180 | 138 => 179 | 146 => 181 | 51 => 73 | n => n, fun | 1 => 2 | 3 => 3 | 4 => 4 | n => n⟩
theorem Tryz.laysM146 : Go.Proofs.LaysM.n146 Tryz.prog Tryz.laysM146_ren := {
  mixed := by kernel_rfl
  f138 := Tryz.func132.trans (congrArg some (by kernel_rfl))
  f143 := Tryz.func133.trans (congrArg some (by kernel_rfl))
  f146 := Tryz.func126.trans (congrArg some (by kernel_rfl))
  f195 := Tryz.func141.trans (congrArg some (by kernel_rfl))
  f197 := Tryz.func142.trans (congrArg some (by kernel_rfl))
  f217 := Tryz.func149.trans (congrArg some (by kernel_rfl))
  f218 := Tryz.func143.trans (congrArg some (by kernel_rfl))
  f219 := Tryz.func144.trans (congrArg some (by kernel_rfl))
  f221 := Tryz.func129.trans (congrArg some (by kernel_rfl))
  f224 := Tryz.func151.trans (congrArg some (by kernel_rfl))
  f225 := Tryz.func150.trans (congrArg some (by kernel_rfl))
  f260 := Tryz.func148.trans (congrArg some (by kernel_rfl))
  f266 := Tryz.func155.trans (congrArg some (by kernel_rfl))
  f267 := Tryz.func152.trans (congrArg some (by kernel_rfl))
  f268 := Tryz.func131.trans (congrArg some (by kernel_rfl))
  f314 := Tryz.func156.trans (congrArg some (by kernel_rfl))
  t0 := Tryz.underlying0
  a0 := Tryz.isAgg0
  z0 := Tryz.sizeOf0
  v0 := Tryz.zeroValue0
  t3 := Tryz.underlying3
  a3 := Tryz.isAgg3
  z3 := Tryz.sizeOf3
  v3 := Tryz.zeroValue3
  t4 := Tryz.underlying4
  a4 := Tryz.isAgg4
  z4 := Tryz.sizeOf4
  v4 := Tryz.zeroValue4
  t5 := Tryz.underlying5
  a5 := Tryz.isAgg5
  z5 := Tryz.sizeOf5
  v5 := Tryz.zeroValue5
  t9 := Tryz.underlying9
  a9 := Tryz.isAgg9
  z9 := Tryz.sizeOf9
  v9 := Tryz.zeroValue9
  t21 := Tryz.underlying21
  a21 := Tryz.isAgg21
  z21 := Tryz.sizeOf21
  v21 := Tryz.zeroValue21
  t31 := Tryz.underlying27
  a31 := Tryz.isAgg27
  z31 := Tryz.sizeOf27
  v31 := Tryz.zeroValue27
  t46 := Tryz.underlying86
  a46 := Tryz.isAgg86
  z46 := Tryz.sizeOf86
  v46 := Tryz.zeroValue86
  t51 := Tryz.underlying73
  a51 := Tryz.isAgg73
  z51 := Tryz.sizeOf73
  v51 := Tryz.zeroValue73
  t105 := Tryz.underlying172
  a105 := Tryz.isAgg172
  z105 := Tryz.sizeOf172
  v105 := Tryz.zeroValue172
  t119 := Tryz.underlying177
  a119 := Tryz.isAgg177
  z119 := Tryz.sizeOf177
  t138 := Tryz.underlying179
  a138 := Tryz.isAgg179
  z138 := Tryz.sizeOf179
  v138 := Tryz.zeroValue179
  t139 := Tryz.underlying180
  a139 := Tryz.isAgg180
  z139 := Tryz.sizeOf180
  v139 := Tryz.zeroValue180
  t146 := Tryz.underlying181
  a146 := Tryz.isAgg181
  z146 := Tryz.sizeOf181
  v146 := Tryz.zeroValue181
  g1 := by kernel_rfl
  g3 := by kernel_rfl
  g4 := by kernel_rfl
  i0 := by kernel_rfl
  i3 := by kernel_rfl
  i4 := by kernel_rfl
  i5 := by kernel_rfl
  i9 := by kernel_rfl
  i21 := by kernel_rfl
  i31 := by kernel_rfl
  i46 := by kernel_rfl
  i51 := by kernel_rfl
  i105 := by kernel_rfl
  i138 := by kernel_rfl
  i139 := by kernel_rfl
  i146 := by kernel_rfl
  m1 := by kernel_rfl
  s1_3 := fun w h => Go.Proofs.cell_of_shapedOpen_int (zero := #[.int .i64 0]) (t := 3) h (of_decide_eq_true (by kernel_rfl)) (by kernel_rfl) rfl (by kernel_rfl) (by kernel_rfl) Tryz.underlying3
  m3 := by kernel_rfl
  m4 := by kernel_rfl }
def Tryz.lays156_ren : Go.Shelf.Ren := ⟨fun | 156 => 36 | 165 => 58 | 166 => 59 | 169 => 60 | 240 => 80 | 241 => 81 | 276 => 99 | 277 => 100 | n => n, fun | 31 => 27 | 9 => 9 | 3 => 3 | 4 => 4 | 0 => 0 | 20 => 20 | 72 => 94 | 76 => 98 | 70 => 92 | 37 => 24 | 75 => 97 | 127 => 123 | 164 => 139 | 5 => 5 | 80 => 100 | n => n, fun | n => n⟩
theorem Tryz.lays156 : Go.Proofs.Lays.n156 Tryz.prog Tryz.lays156_ren := {
  mixed := by kernel_rfl
  f156 := Tryz.func36.trans (congrArg some (by kernel_rfl))
  f165 := Tryz.func58.trans (congrArg some (by kernel_rfl))
  f166 := Tryz.func59.trans (congrArg some (by kernel_rfl))
  f169 := Tryz.func60.trans (congrArg some (by kernel_rfl))
  f240 := Tryz.func80.trans (congrArg some (by kernel_rfl))
  f241 := Tryz.func81.trans (congrArg some (by kernel_rfl))
  f276 := Tryz.func99.trans (congrArg some (by kernel_rfl))
  f277 := Tryz.func100.trans (congrArg some (by kernel_rfl))
  t0 := Tryz.underlying0
  a0 := Tryz.isAgg0
  z0 := Tryz.sizeOf0
  v0 := Tryz.zeroValue0
  t3 := Tryz.underlying3
  a3 := Tryz.isAgg3
  z3 := Tryz.sizeOf3
  v3 := Tryz.zeroValue3
  t4 := Tryz.underlying4
  a4 := Tryz.isAgg4
  z4 := Tryz.sizeOf4
  v4 := Tryz.zeroValue4
  t9 := Tryz.underlying9
  a9 := Tryz.isAgg9
  z9 := Tryz.sizeOf9
  v9 := Tryz.zeroValue9
  t20 := Tryz.underlying20
  a20 := Tryz.isAgg20
  z20 := Tryz.sizeOf20
  v20 := Tryz.zeroValue20
  t31 := Tryz.underlying27
  a31 := Tryz.isAgg27
  z31 := Tryz.sizeOf27
  v31 := Tryz.zeroValue27
  t37 := Tryz.underlying24
  a37 := Tryz.isAgg24
  z37 := Tryz.sizeOf24
  v37 := Tryz.zeroValue24
  t70 := Tryz.underlying92
  a70 := Tryz.isAgg92
  z70 := Tryz.sizeOf92
  v70 := Tryz.zeroValue92
  t72 := Tryz.underlying94
  a72 := Tryz.isAgg94
  z72 := Tryz.sizeOf94
  v72 := Tryz.zeroValue94
  t75 := Tryz.underlying97
  a75 := Tryz.isAgg97
  z75 := Tryz.sizeOf97
  v75 := Tryz.zeroValue97
  t76 := Tryz.underlying98
  a76 := Tryz.isAgg98
  z76 := Tryz.sizeOf98
  v76 := Tryz.zeroValue98
  t127 := Tryz.underlying123
  a127 := Tryz.isAgg123
  z127 := Tryz.sizeOf123
  v127 := Tryz.zeroValue123
  t164 := Tryz.underlying139
  a164 := Tryz.isAgg139
  z164 := Tryz.sizeOf139
  v164 := Tryz.zeroValue139 }
def Tryz.lays106_ren : Go.Shelf.Ren := ⟨fun | 106 => 63 | 213 => 92 | 265 => 106 | n => n, fun | 9 => 9 | 3 => 3 | n => n, fun | n => n⟩
theorem Tryz.lays106 : Go.Proofs.Lays.n106 Tryz.prog Tryz.lays106_ren := {
  mixed := by kernel_rfl
  f106 := Tryz.func63.trans (congrArg some (by kernel_rfl))
  f213 := Tryz.func92.trans (congrArg some (by kernel_rfl))
  f265 := Tryz.func106.trans (congrArg some (by kernel_rfl))
  t3 := Tryz.underlying3
  a3 := Tryz.isAgg3
  z3 := Tryz.sizeOf3
  v3 := Tryz.zeroValue3
  t9 := Tryz.underlying9
  a9 := Tryz.isAgg9
  z9 := Tryz.sizeOf9
  v9 := Tryz.zeroValue9 }
def Tryz.sortF_ren : Go.Shelf.Ren := ⟨fun | 6 => 37 | 15 => 62 | 14 => 61 | 28 => 90 | 29 => 91 | 20 => 82 | 21 => 83 | 22 => 84 | 23 => 85 | 24 => 86 | 25 => 87 | 26 => 88 | 27 => 89 | 46 => 101 | 47 => 102 | 48 => 103 | 49 => 104 | 50 => 105 | 57 => 121 | n => n, fun | 22 => 23 | 24 => 46 | 25 => 71 | 3 => 3 | 39 => 86 | 0 => 0 | 53 => 73 | 55 => 134 | 4 => 4 | 46 => 126 | 45 => 125 | 50 => 130 | 5 => 5 | 9 => 9 | 66 => 141 | 70 => 145 | 76 => 154 | 77 => 155 | n => n, fun | n => n⟩
theorem Tryz.sortF : Go.Proofs.SlLaysF0.n6 Tryz.prog Tryz.sortF_ren := {
  mixed := by kernel_rfl
  f6 := ⟨Tryz.f37.name, by decide, Tryz.func37.trans (congrArg some (by kernel_rfl))⟩
  f14 := ⟨Tryz.f61.name, by decide, Tryz.func61.trans (congrArg some (by kernel_rfl))⟩
  f15 := Tryz.func62.trans (congrArg some (by kernel_rfl))
  f20 := ⟨Tryz.f82.name, by decide, Tryz.func82.trans (congrArg some (by kernel_rfl))⟩
  f21 := ⟨Tryz.f83.name, by decide, Tryz.func83.trans (congrArg some (by kernel_rfl))⟩
  f22 := ⟨Tryz.f84.name, by decide, Tryz.func84.trans (congrArg some (by kernel_rfl))⟩
  f23 := ⟨Tryz.f85.name, by decide, Tryz.func85.trans (congrArg some (by kernel_rfl))⟩
  f24 := ⟨Tryz.f86.name, by decide, Tryz.func86.trans (congrArg some (by kernel_rfl))⟩
  f25 := ⟨Tryz.f87.name, by decide, Tryz.func87.trans (congrArg some (by kernel_rfl))⟩
  f26 := ⟨Tryz.f88.name, by decide, Tryz.func88.trans (congrArg some (by kernel_rfl))⟩
  f27 := ⟨Tryz.f89.name, by decide, Tryz.func89.trans (congrArg some (by kernel_rfl))⟩
  f28 := Tryz.func90.trans (congrArg some (by kernel_rfl))
  f29 := Tryz.func91.trans (congrArg some (by kernel_rfl))
  f46 := ⟨Tryz.f101.name, by decide, Tryz.func101.trans (congrArg some (by kernel_rfl))⟩
  f47 := Tryz.func102.trans (congrArg some (by kernel_rfl))
  f48 := Tryz.func103.trans (congrArg some (by kernel_rfl))
  f49 := ⟨Tryz.f104.name, by decide, Tryz.func104.trans (congrArg some (by kernel_rfl))⟩
  f50 := ⟨Tryz.f105.name, by decide, Tryz.func105.trans (congrArg some (by kernel_rfl))⟩
  f57 := ⟨Tryz.f121.name, by decide, Tryz.func121.trans (congrArg some (by kernel_rfl))⟩
  t0 := Tryz.underlying0
  a0 := Tryz.isAgg0
  z0 := Tryz.sizeOf0
  v0 := Tryz.zeroValue0
  t3 := Tryz.underlying3
  a3 := Tryz.isAgg3
  z3 := Tryz.sizeOf3
  v3 := Tryz.zeroValue3
  t4 := Tryz.underlying4
  a4 := Tryz.isAgg4
  z4 := Tryz.sizeOf4
  v4 := Tryz.zeroValue4
  t5 := Tryz.underlying5
  a5 := Tryz.isAgg5
  z5 := Tryz.sizeOf5
  v5 := Tryz.zeroValue5
  t9 := Tryz.underlying9
  a9 := Tryz.isAgg9
  z9 := Tryz.sizeOf9
  v9 := Tryz.zeroValue9
  t22 := Tryz.underlying23
  a22 := Tryz.isAgg23
  z22 := Tryz.sizeOf23
  v22 := Tryz.zeroValue23
  t25 := Tryz.underlying71
  a25 := Tryz.isAgg71
  z25 := Tryz.sizeOf71
  v25 := Tryz.zeroValue71
  t39 := Tryz.underlying86
  a39 := Tryz.isAgg86
  z39 := Tryz.sizeOf86
  v39 := Tryz.zeroValue86
  t45 := Tryz.underlying125
  a45 := Tryz.isAgg125
  z45 := Tryz.sizeOf125
  v45 := Tryz.zeroValue125
  t46 := Tryz.underlying126
  a46 := Tryz.isAgg126
  z46 := Tryz.sizeOf126
  v46 := Tryz.zeroValue126
  t50 := Tryz.underlying130
  a50 := Tryz.isAgg130
  z50 := Tryz.sizeOf130
  v50 := Tryz.zeroValue130
  t53 := Tryz.underlying73
  a53 := Tryz.isAgg73
  z53 := Tryz.sizeOf73
  v53 := Tryz.zeroValue73
  t55 := Tryz.underlying134
  a55 := Tryz.isAgg134
  z55 := Tryz.sizeOf134
  v55 := Tryz.zeroValue134
  t66 := Tryz.underlying141
  a66 := Tryz.isAgg141
  z66 := Tryz.sizeOf141
  v66 := Tryz.zeroValue141
  t70 := Tryz.underlying145
  a70 := Tryz.isAgg145
  z70 := Tryz.sizeOf145
  v70 := Tryz.zeroValue145
  t76 := Tryz.underlying154
  a76 := Tryz.isAgg154
  z76 := Tryz.sizeOf154
  v76 := Tryz.zeroValue154
  t77 := Tryz.underlying155
  a77 := Tryz.isAgg155
  z77 := Tryz.sizeOf155
  v77 := Tryz.zeroValue155 }
def Tryz.sortS_ren : Go.Shelf.Ren := ⟨fun | 6 => 73 | 8 => 62 | 9 => 96 | 19 => 90 | 20 => 91 | 21 => 109 | 22 => 110 | 23 => 111 | 24 => 112 | 25 => 113 | 26 => 114 | 27 => 115 | 28 => 116 | 29 => 117 | 36 => 122 | 31 => 102 | 32 => 103 | 37 => 123 | 38 => 124 | 39 => 125 | 41 => 128 | n => n, fun | 27 => 27 | 29 => 9 | 3 => 3 | 32 => 86 | 26 => 27 | 0 => 0 | 44 => 73 | 46 => 134 | 4 => 4 | 36 => 126 | 35 => 125 | 41 => 130 | 5 => 5 | 9 => 9 | 53 => 141 | 57 => 145 | 63 => 154 | 64 => 155 | n => n, fun | n => n⟩
theorem Tryz.sortS : Go.Proofs.SlLaysM.n6 Tryz.prog Tryz.sortS_ren := {
  mixed := by kernel_rfl
  f6 := ⟨Tryz.f73.name, by decide, Tryz.func73.trans (congrArg some (by kernel_rfl))⟩
  f8 := Tryz.func62.trans (congrArg some (by kernel_rfl))
  f9 := ⟨Tryz.f96.name, by decide, Tryz.func96.trans (congrArg some (by kernel_rfl))⟩
  f19 := Tryz.func90.trans (congrArg some (by kernel_rfl))
  f20 := Tryz.func91.trans (congrArg some (by kernel_rfl))
  f21 := ⟨Tryz.f109.name, by decide, Tryz.func109.trans (congrArg some (by kernel_rfl))⟩
  f22 := ⟨Tryz.f110.name, by decide, Tryz.func110.trans (congrArg some (by kernel_rfl))⟩
  f23 := ⟨Tryz.f111.name, by decide, Tryz.func111.trans (congrArg some (by kernel_rfl))⟩
  f24 := ⟨Tryz.f112.name, by decide, Tryz.func112.trans (congrArg some (by kernel_rfl))⟩
  f25 := ⟨Tryz.f113.name, by decide, Tryz.func113.trans (congrArg some (by kernel_rfl))⟩
  f26 := ⟨Tryz.f114.name, by decide, Tryz.func114.trans (congrArg some (by kernel_rfl))⟩
  f27 := ⟨Tryz.f115.name, by decide, Tryz.func115.trans (congrArg some (by kernel_rfl))⟩
  f28 := ⟨Tryz.f116.name, by decide, Tryz.func116.trans (congrArg some (by kernel_rfl))⟩
  f29 := ⟨Tryz.f117.name, by decide, Tryz.func117.trans (congrArg some (by kernel_rfl))⟩
  f31 := Tryz.func102.trans (congrArg some (by kernel_rfl))
  f32 := Tryz.func103.trans (congrArg some (by kernel_rfl))
  f36 := ⟨Tryz.f122.name, by decide, Tryz.func122.trans (congrArg some (by kernel_rfl))⟩
  f37 := ⟨Tryz.f123.name, by decide, Tryz.func123.trans (congrArg some (by kernel_rfl))⟩
  f38 := ⟨Tryz.f124.name, by decide, Tryz.func124.trans (congrArg some (by kernel_rfl))⟩
  f39 := ⟨Tryz.f125.name, by decide, Tryz.func125.trans (congrArg some (by kernel_rfl))⟩
  f41 := ⟨Tryz.f128.name, by decide, Tryz.func128.trans (congrArg some (by kernel_rfl))⟩
  t0 := Tryz.underlying0
  a0 := Tryz.isAgg0
  z0 := Tryz.sizeOf0
  v0 := Tryz.zeroValue0
  t3 := Tryz.underlying3
  a3 := Tryz.isAgg3
  z3 := Tryz.sizeOf3
  v3 := Tryz.zeroValue3
  t4 := Tryz.underlying4
  a4 := Tryz.isAgg4
  z4 := Tryz.sizeOf4
  v4 := Tryz.zeroValue4
  t5 := Tryz.underlying5
  a5 := Tryz.isAgg5
  z5 := Tryz.sizeOf5
  v5 := Tryz.zeroValue5
  t9 := Tryz.underlying9
  a9 := Tryz.isAgg9
  z9 := Tryz.sizeOf9
  v9 := Tryz.zeroValue9
  t26 := Tryz.underlying27
  a26 := Tryz.isAgg27
  z26 := Tryz.sizeOf27
  v26 := Tryz.zeroValue27
  t27 := Tryz.underlying27
  a27 := Tryz.isAgg27
  z27 := Tryz.sizeOf27
  v27 := Tryz.zeroValue27
  t29 := Tryz.underlying9
  a29 := Tryz.isAgg9
  z29 := Tryz.sizeOf9
  v29 := Tryz.zeroValue9
  t32 := Tryz.underlying86
  a32 := Tryz.isAgg86
  z32 := Tryz.sizeOf86
  v32 := Tryz.zeroValue86
  t35 := Tryz.underlying125
  a35 := Tryz.isAgg125
  z35 := Tryz.sizeOf125
  v35 := Tryz.zeroValue125
  t36 := Tryz.underlying126
  a36 := Tryz.isAgg126
  z36 := Tryz.sizeOf126
  v36 := Tryz.zeroValue126
  t41 := Tryz.underlying130
  a41 := Tryz.isAgg130
  z41 := Tryz.sizeOf130
  v41 := Tryz.zeroValue130
  t44 := Tryz.underlying73
  a44 := Tryz.isAgg73
  z44 := Tryz.sizeOf73
  v44 := Tryz.zeroValue73
  t46 := Tryz.underlying134
  a46 := Tryz.isAgg134
  z46 := Tryz.sizeOf134
  v46 := Tryz.zeroValue134
  t53 := Tryz.underlying141
  a53 := Tryz.isAgg141
  z53 := Tryz.sizeOf141
  v53 := Tryz.zeroValue141
  t57 := Tryz.underlying145
  a57 := Tryz.isAgg145
  z57 := Tryz.sizeOf145
  v57 := Tryz.zeroValue145
  t63 := Tryz.underlying154
  a63 := Tryz.isAgg154
  z63 := Tryz.sizeOf154
  v63 := Tryz.zeroValue154
  t64 := Tryz.underlying155
  a64 := Tryz.isAgg155
  z64 := Tryz.sizeOf155
  v64 := Tryz.zeroValue155 }
def Tryz.compS_ren : Go.Shelf.Ren := ⟨fun | 44 => 74 | n => n, fun | 25 => 27 | 26 => 9 | 3 => 3 | 4 => 4 | 0 => 0 | n => n, fun | n => n⟩
theorem Tryz.compS : Go.Proofs.SlLaysN.n44 Tryz.prog Tryz.compS_ren := {
  mixed := by kernel_rfl
  f44 := ⟨Tryz.f74.name, by decide, Tryz.func74.trans (congrArg some (by kernel_rfl))⟩
  t0 := Tryz.underlying0
  a0 := Tryz.isAgg0
  z0 := Tryz.sizeOf0
  v0 := Tryz.zeroValue0
  t3 := Tryz.underlying3
  a3 := Tryz.isAgg3
  z3 := Tryz.sizeOf3
  v3 := Tryz.zeroValue3
  t4 := Tryz.underlying4
  a4 := Tryz.isAgg4
  z4 := Tryz.sizeOf4
  v4 := Tryz.zeroValue4
  t25 := Tryz.underlying27
  a25 := Tryz.isAgg27
  z25 := Tryz.sizeOf27
  v25 := Tryz.zeroValue27
  t26 := Tryz.underlying9
  a26 := Tryz.isAgg9
  z26 := Tryz.sizeOf9
  v26 := Tryz.zeroValue9
  i26 := by kernel_rfl }
end Go.Proofs
namespace Go.Proofs.YtgmbfiikkogenaaGreatDoor
open Go.RowKit

set_option maxHeartbeats 400000 in
theorem fold_any (a b : ByteArray) (w : World) (ha : a.size ≤ maxLen) (hb : b.size ≤ maxLen) :
    Calls Tryz.prog 120 #[.string a, .string b] w fun e w' => e = .returned (.bool (foldS a b)) ∧ Below w.heap.size w w' := by
  go_enter Tryz.func120, Tryz.ntmps120
  go_wp2_with fail
  refine (lower_any a _ ha).mono ?_
  rintro e w1 ⟨rfl, hb1⟩
  go_wp2_with fail
  refine (lower_any b _ hb).mono ?_
  rintro e w2 ⟨rfl, hb2⟩
  go_wp2_with fail
  go_ret
  exact ⟨ret_bool rfl, below_trans hb1 hb2⟩

set_option maxHeartbeats 400000 in
theorem refFold_any (a b : ByteArray) (w : World) (ha : a.size ≤ maxLen) (hb : b.size ≤ maxLen) :
    Calls Tryz.prog 69 #[.string a, .string b] w fun e w' => e = .returned (.bool (foldS a b)) ∧ Below w.heap.size w w' := by
  go_enter Tryz.func69, Tryz.ntmps69
  go_wp2_with fail
  refine (refLower_any a _ ha).mono ?_
  rintro e w1 ⟨rfl, hb1⟩
  go_wp2_with fail
  refine (refLower_any b _ hb).mono ?_
  rintro e w2 ⟨rfl, hb2⟩
  go_wp2_with fail
  go_ret
  exact ⟨ret_bool rfl, below_trans hb1 hb2⟩

theorem trimLib_any (s : ByteArray) (w : World) (hs : s.size ≤ maxLen) :
    Calls Tryz.prog 130 #[.string s, .string ⟨#[32, 9]⟩] w fun e w' => e = .returned (.string (trimBA s)) ∧ Below w.heap.size w w' :=
  (Any.strings_Trim_laid Tryz.lays160 (by kernel_rfl) s ⟨#[32, 9]⟩ w hs (by decide) (ascii_of_all (by decide))).mono fun _ _ ⟨he, hw⟩ => ⟨he, hw⟩

set_option maxHeartbeats 400000 in
theorem trim_any (s : ByteArray) (w : World) (hs : s.size ≤ maxLen) :
    Calls Tryz.prog 127 #[.string s] w fun e w' => e = .returned (.string (trimBA s)) ∧ Below w.heap.size w w' := by
  go_enter Tryz.func127, Tryz.ntmps127
  go_wp2_with fail
  refine (trimLib_any s _ hs).mono ?_
  rintro e w1 ⟨rfl, hb1⟩
  go_wp2_with fail
  go_ret
  exact ⟨rfl, hb1⟩

set_option maxHeartbeats 400000 in
theorem blank_any (c : UInt8) (w : World) :
    Calls Tryz.prog 75 #[.int .u8 c.toNat] w fun e w' => e = .returned (.bool (blankB c)) ∧ w = w' := by
  have h0 : blankB c = (((c.toNat : Int) == 32) || ((c.toNat : Int) == 9)) := by
    unfold blankB blanks
    rw [Bool.eq_iff_iff]
    simp only [List.contains_cons, List.contains_nil, Bool.or_false, Bool.or_eq_true, beq_iff_eq, ← UInt8.toNat_inj]
    have h1 : (32 : UInt8).toNat = 32 := rfl
    have h2 : (9 : UInt8).toNat = 9 := rfl
    omega
  have H0 := Lib.hid h0
  clear h0
  go_enter Tryz.func75, Tryz.ntmps75
  go_wp2
  all_goals go_ret
  all_goals exact ⟨ret_bool (by rw [H0.out]; try simp [*]), rfl⟩

def strLen : Value → Nat | .string s => s.size | _ => 0

set_option maxHeartbeats 800000 in
theorem refTrim_any (s : ByteArray) (w : World) (hs : s.size ≤ maxLen) :
    Calls Tryz.prog 54 #[.string s] w fun e w' => e = .returned (.string (trimBA s)) ∧ w = w' := by
  unfold maxLen at hs
  go_enter Tryz.func54, Tryz.ntmps54
  go_wp2
  go_loop [0] (fun v => ∃ t : ByteArray, v = .string t ∧ t.size ≤ s.size ∧ Hid (t.data.toList.dropWhile blankB = s.data.toList.dropWhile blankB)) (fun v => strLen v)
  case atStart => exact ⟨s, rfl, Nat.le_refl _, Lib.hid rfl⟩
  case round =>
    obtain ⟨t, rfl, hts, HT⟩ := hrel
    by_cases hgo : ∃ h : 0 < t.size, blankB t[0] = true
    · obtain ⟨hlt, hb⟩ := hgo
      have HB := Lib.hid hb
      have hsz : (t.extract 1 t.size).size = t.size - 1 := by simp
      have HS := Lib.hid hsz
      clear hsz
      go_wp2_with (go_at_call 75; refine (blank_any _ _).mono ?_; rintro e w' ⟨rfl, rfl⟩)
      go_round
      case rel => exact ⟨_, rfl, by rw [HS.out]; omega, Lib.hid (by rw [drop_step t hlt HB.out]; exact HT.out)⟩
      case measure => simp only [strLen]; rw [HS.out]; omega
    · have hE : t.data.toList = s.data.toList.dropWhile blankB := by
        rw [← HT.out]; symm; apply drop_end
        intro h; by_cases hb : blankB t[0] = true
        · exact absurd ⟨h, hb⟩ hgo
        · simpa using hb
      have HE := Lib.hid hE
      clear hE HT
      have hcase : ¬ 0 < t.size ∨ ∃ h : 0 < t.size, blankB t[0] = false := by
        by_cases h : 0 < t.size
        · right; exact ⟨h, by by_cases hb : blankB t[0] = true; exact absurd ⟨h, hb⟩ hgo; simpa using hb⟩
        · left; exact h
      clear hgo
      rcases hcase with hz | ⟨hlt, hb⟩
      all_goals
        go_wp2_with (go_at_call 75; refine (blank_any _ _).mono ?_; rintro e w' ⟨rfl, rfl⟩)
        go_loop [0] (fun v => ∃ t' : ByteArray, v = .string t' ∧ t'.size ≤ s.size ∧ Hid (rdrop blankB t'.data.toList = rdrop blankB t.data.toList)) (fun v => strLen v)
        case atStart => exact ⟨t, rfl, hts, Lib.hid rfl⟩
        case round =>
          obtain ⟨t', rfl, hts', HT'⟩ := hrel
          by_cases hgo : ∃ h : 0 < t'.size, blankB t'[t'.size - 1] = true
          · obtain ⟨hlt', hb'⟩ := hgo
            have HB' := Lib.hid hb'
            have hsz : (t'.extract 0 (t'.size - 1)).size = t'.size - 1 := by simp
            have HS := Lib.hid hsz
            clear hsz
            go_wp2_with (go_at_call 75; refine (blank_any _ _).mono ?_; rintro e w' ⟨rfl, rfl⟩)
            go_round
            case rel => exact ⟨_, rfl, by rw [HS.out]; omega, Lib.hid (by rw [rdrop_step t' hlt' HB'.out]; exact HT'.out)⟩
            case measure => simp only [strLen]; rw [HS.out]; omega
          · have hE' : t'.data.toList = trimL s.data.toList := by
              unfold trimL
              rw [trim_comm, ← HE.out, ← HT'.out]; symm; apply rdrop_end
              intro h; by_cases hb : blankB t'[t'.size - 1] = true
              · exact absurd ⟨h, hb⟩ hgo
              · simpa using hb
            have HE' := Lib.hid hE'
            clear hE' HT'
            have hcase : ¬ 0 < t'.size ∨ ∃ h : 0 < t'.size, blankB t'[t'.size - 1] = false := by
              by_cases h : 0 < t'.size
              · right; exact ⟨h, by by_cases hb : blankB t'[t'.size - 1] = true; exact absurd ⟨h, hb⟩ hgo; simpa using hb⟩
              · left; exact h
            clear hgo
            rcases hcase with hz' | ⟨hlt', hb'⟩
            all_goals
              go_wp2_with (go_at_call 75; refine (blank_any _ _).mono ?_; rintro e w' ⟨rfl, rfl⟩)
              go_ret
              exact ⟨ret_str (ba_ext (by rw [trimBA_list]; exact HE'.out)), rfl⟩

def valB (c : UInt8) : Bool := decide ((c.toNat : Int) = 9) || (decide (32 ≤ (c.toNat : Int)) && !decide ((c.toNat : Int) = 127))
def visS (s : ByteArray) : Bool := s.data.toList.all valB
def valS (s : ByteArray) : Bool := visS s && ((trimBA s).toList == s.toList)

end Go.Proofs.YtgmbfiikkogenaaGreatDoor
namespace Go.Proofs.YtgmbfiikkogenaaGreatDoor
open Go

/-- Puts bytes before the first piece. -/
def front (p : List UInt8) : List (List UInt8) → List (List UInt8)
  | [] => [p]
  | h :: r => (p ++ h) :: r
/-- The pieces between the bytes c. -/
def splitL (c : UInt8) : List UInt8 → List (List UInt8)
  | [] => [[]]
  | b :: t => if b = c then [] :: splitL c t else front [b] (splitL c t)

theorem splitL_ne (c : UInt8) : ∀ l, splitL c l ≠ []
  | [] => by simp [splitL]
  | b :: t => by
    unfold splitL; split
    · simp
    · cases splitL c t <;> simp [front]
theorem front_nil (X : List (List UInt8)) (h : X ≠ []) : front [] X = X := by cases X with
  | nil => exact absurd rfl h
  | cons a r => simp [front]
theorem front_front (p q : List UInt8) (X : List (List UInt8)) : front p (front q X) = front (p ++ q) X := by cases X <;> simp [front]

theorem index_cons_ne (b c : UInt8) (l : List UInt8) (h : b ≠ c) : Lib.index (b :: l) [c] = if Lib.index l [c] == -1 then -1 else Lib.index l [c] + 1 := by
  rw [Lib.index]
  have : (List.isPrefixOf [c] (b :: l)) = false := by simp [List.isPrefixOf]; exact fun e => h e.symm
  rw [this]; rfl
theorem index_cons_eq (c : UInt8) (l : List UInt8) : Lib.index (c :: l) [c] = 0 := by
  rw [Lib.index]
  have : (List.isPrefixOf [c] (c :: l)) = true := by simp [List.isPrefixOf]
  rw [this]; rfl

theorem splitK_eq (c : UInt8) : ∀ l : List UInt8, Lib.splitK [c] 0 (Lib.count l [c]) l = splitL c l
  | [] => rfl
  | b :: t => by
    have ih := splitK_eq c t
    by_cases h : b = c
    · subst h
      rw [Lib.count_cons_eq, Nat.add_comm, Lib.splitK, index_cons_eq, splitL, if_pos rfl]
      rw [if_neg (by decide)]
      simp only [Int.toNat_zero, List.take_zero, Nat.add_zero, List.length_cons, List.length_nil, Nat.zero_add]
      rw [List.drop_succ_cons, List.drop_zero, ih]
    · rw [Lib.count_cons_ne b c t h, splitL, if_neg h, ← ih]
      cases hk : Lib.count t [c] with
      | zero => rfl
      | succ k =>
        have hm : ¬ Lib.index t [c] = -1 := fun e => by rw [Lib.count_miss e] at hk; cases hk
        have hge := Lib.index_ge t [c]
        rw [Lib.splitK, Lib.splitK, index_cons_ne b c t h]
        have hA : (Lib.index t [c] == -1) = false := by simpa using hm
        have hB : (Lib.index t [c] + 1 == -1) = false := by rw [beq_eq_false_iff_ne]; omega
        simp only [hA, hB, Bool.false_eq_true, if_false]
        obtain ⟨i, hi⟩ : ∃ i : Nat, Lib.index t [c] = i := ⟨(Lib.index t [c]).toNat, by omega⟩
        rw [hi]
        have e1 : ((i : Int) + 1).toNat = i + 1 := by omega
        have e2 : (i : Int).toNat = i := by omega
        rw [e1, e2]
        simp [front]

def ofL (l : List UInt8) : ByteArray := ⟨l.toArray⟩
theorem ofL_list (l : List UInt8) : (ofL l).data.toList = l := by simp [ofL]
theorem ofL_of (s : ByteArray) : ofL s.data.toList = s := ba_ext (ofL_list _)
def splitS (c : UInt8) (s : ByteArray) : List ByteArray := (splitL c s.data.toList).map ofL
theorem splitB_eq (c : UInt8) (s : ByteArray) : Lib.splitB ⟨#[c]⟩ 0 (Lib.countB s ⟨#[c]⟩) s = splitS c s := by
  have h := Lib.splitB_data ⟨#[c]⟩ 0 (Lib.countB s ⟨#[c]⟩) s
  have e : Lib.splitK (ByteArray.mk #[c]).data.toList 0 (Lib.countB s ⟨#[c]⟩) s.data.toList = splitL c s.data.toList := splitK_eq c s.data.toList
  rw [e] at h
  unfold splitS
  rw [← h, List.map_map]
  have : ∀ L : List ByteArray, L = L.map (ofL ∘ fun x => x.data.toList) := fun L => by
    induction L with
    | nil => rfl
    | cons a t ih => rw [List.map_cons, ← ih]; simp [ofL_of]
  exact this _

/-- The elements of one list, of several. -/
def elemsOf (l : List ByteArray) : List ByteArray := (l.map trimBA).filter (fun x => !x.data.toList.isEmpty)
def elemL (s : ByteArray) : List ByteArray := elemsOf (splitS 44 s)
theorem elemsOf_yes (l : List ByteArray) (x : ByteArray) (h : (trimBA x).data.toList.isEmpty = false) : elemsOf (l ++ [x]) = elemsOf l ++ [trimBA x] := by
  unfold elemsOf; rw [List.map_append, List.filter_append]; simp only [List.map_cons, List.map_nil, List.filter, h]; rfl
theorem elemsOf_no (l : List ByteArray) (x : ByteArray) (h : (trimBA x).data.toList.isEmpty = true) : elemsOf (l ++ [x]) = elemsOf l := by
  unfold elemsOf; rw [List.map_append, List.filter_append]; simp only [List.map_cons, List.map_nil, List.filter, h]; simp
def listL (l : List ByteArray) : List ByteArray := l.flatMap elemL

theorem listL_snoc (l : List ByteArray) (x : ByteArray) : listL (l ++ [x]) = listL l ++ elemL x := by
  unfold listL; rw [List.flatMap_append]; simp
end Go.Proofs.YtgmbfiikkogenaaGreatDoor
namespace Go.Proofs.YtgmbfiikkogenaaGreatDoor
open Go.RowKit

def sameS (x y : List ByteArray) : Bool := decide (x = y)

theorem sameS_len {x y : List ByteArray} (h : ¬ x.length = y.length) : sameS x y = false := by
  unfold sameS; rw [decide_eq_false_iff_not]; intro e; exact h (by rw [e])
theorem sameS_no {x y : List ByteArray} {k : Nat} (h1 : k < x.length) (h2 : k < y.length) (h : ¬ x[k] = y[k]) : sameS x y = false := by
  unfold sameS; rw [decide_eq_false_iff_not]; intro e; subst e; exact h rfl
theorem sameS_yes {x y : List ByteArray} (hl : x.length = y.length) (h : ∀ j (h1 : j < x.length) (h2 : j < y.length), x[j] = y[j]) : sameS x y = true := by
  unfold sameS; rw [decide_eq_true_eq]; exact List.ext_getElem hl h
theorem toList_eq {a b : ByteArray} : (a.toList == b.toList) = decide (a = b) := by
  rw [Bool.eq_iff_iff, beq_iff_eq, decide_eq_true_eq, ByteArray.toList_eq, ByteArray.toList_eq]
  exact ⟨ba_ext, fun h => by rw [h]⟩

/-- How many bytes and strings a list holds. -/
def total : List ByteArray → Nat
  | [] => 0
  | s :: t => s.size + 1 + total t
theorem splitL_length (c : UInt8) : ∀ l : List UInt8, (splitL c l).length ≤ l.length + 1
  | [] => Nat.le_refl _
  | b :: t => by
    have := splitL_length c t
    rw [splitL]; split
    · simp; omega
    · cases h : splitL c t with
      | nil => simp [front]
      | cons q r => rw [h] at this; simp [front] at this ⊢; omega
theorem splitS_length (c : UInt8) (s : ByteArray) : (splitS c s).length ≤ s.size + 1 := by
  unfold splitS; rw [List.length_map]; have := splitL_length c s.data.toList; simpa using this
theorem splitL_small (c : UInt8) : ∀ (l p : List UInt8), p ∈ splitL c l → p.length ≤ l.length
  | [], p, h => by simp [splitL] at h; simp [h]
  | b :: t, p, h => by
    have ih := splitL_small c t
    rw [splitL] at h
    split at h
    · rcases List.mem_cons.1 h with rfl | h
      · simp
      · have := ih p h; simp; omega
    · cases hs : splitL c t with
      | nil => exact absurd hs (splitL_ne c t)
      | cons q r =>
        rw [hs] at h ih
        simp only [front, List.mem_cons] at h
        rcases h with rfl | h
        · have := ih q (by simp); simp; omega
        · have := ih p (by simp [h]); simp; omega
theorem splitS_small (c : UInt8) (s x : ByteArray) (h : x ∈ splitS c s) : x.size ≤ s.size := by
  unfold splitS at h
  obtain ⟨p, hp, rfl⟩ := List.mem_map.1 h
  have := splitL_small c _ p hp
  have e : (ofL p).size = p.length := by show (ofL p).data.size = _; simp [ofL]
  have e2 : s.data.toList.length = s.size := by simp
  omega

theorem total_at {l : List ByteArray} {n k : Nat} (h : k < l.length) (ht : total l ≤ n) : l[k].size + 1 ≤ n := by
  induction l generalizing k with
  | nil => exact absurd h (Nat.not_lt_zero _)
  | cons a t ih =>
    unfold total at ht
    cases k with
    | zero => simp only [List.getElem_cons_zero]; omega
    | succ k => simp only [List.getElem_cons_succ]; exact ih (by simpa using h) (by omega)

theorem elemsOf_length (l : List ByteArray) : (elemsOf l).length ≤ l.length := by
  unfold elemsOf
  have := List.length_filter_le (fun x : ByteArray => !x.data.toList.isEmpty) (l.map trimBA)
  simpa using this
theorem listL_length : ∀ l : List ByteArray, (listL l).length ≤ total l
  | [] => Nat.le_refl _
  | a :: t => by
    have h1 := listL_length t
    have h2 := elemsOf_length (splitS 44 a)
    have h3 := splitS_length 44 a
    have e : listL (a :: t) = elemL a ++ listL t := by unfold listL; rw [List.flatMap_cons]
    rw [e, List.length_append]
    unfold total elemL
    omega
theorem total_len : ∀ l : List ByteArray, l.length ≤ total l
  | [] => Nat.le_refl _
  | a :: t => by
    have h1 := total_len t
    simp only [List.length_cons, total]; omega
theorem total_take : ∀ (l : List ByteArray) (k : Nat), total (l.take k) ≤ total l
  | [], _ => by simp
  | a :: t, 0 => by simp [total]
  | a :: t, k + 1 => by
    have := total_take t k
    simp only [List.take_succ_cons, total]; omega

theorem split_any (s : ByteArray) (w : World) (m : Int) (hs : s.size < 4294967281) (hm : w.cell? ⟨2, 0, none⟩ = some (.int .i64 m)) :
    Calls Tryz.prog 126 #[.string s, .string ⟨#[44]⟩] w fun e w' => RetFresh w (splitS 44 s) e w' := by
  refine (Any.strings_Split Tryz.lays146 (by kernel_rfl) s ⟨#[44]⟩ m w hs hm (by decide)).mono ?_
  rintro e w' ⟨he, hw⟩
  have hlen : (splitS 44 s).length = Lib.countB s ⟨#[44]⟩ + 1 := by
    rw [← splitB_eq]; exact Lib.splitB_all _ (by decide) _ _ _ rfl
  refine ⟨w.heap.size, _, by rw [he, hlen], Nat.le_refl _, by rw [hw]; simp, fun j hj => ⟨_, 0, rfl, ?_⟩, by rw [hw]; exact (Below.refl _ _).alloc (Nat.le_refl _) _⟩
  rw [hw, splitB_eq]
  rw [World.cell?_alloc_mark]
  simp [hj]

set_option maxHeartbeats 800000 in
theorem list_acc (l : List ByteArray) (a : Option Addr) (ca : Nat) (w : World) (m : Int) (hl : StrsAt w a l) (hm : w.cell? ⟨2, 0, none⟩ = some (.int .i64 m)) (ht : total l ≤ 4000000000) :
    Calls Tryz.prog 118 #[.slice a l.length ca] w (RetAcc w (listL l)) := by
  have HM := Lib.hid hm
  have HLs := Lib.hid hl
  have HT := Lib.hid ht
  have hll : l.length ≤ 4000000000 := Nat.le_trans (total_len l) ht
  clear hm hl ht
  go_enter Tryz.func118, Tryz.ntmps118
  go_wp2
  go_loopw [3, 11] (fun v i wr => ∃ k : Nat, k ≤ l.length ∧ i = .int .i64 k ∧ Hid (Acc w wr v (listL (l.take k)))) (fun _ i _ => l.length - (intOf i).toNat)
  case atStart => exact ⟨0, Nat.zero_le _, rfl, Lib.hid (Acc.start w)⟩
  case round =>
    obtain ⟨k, hk, rfl, HA⟩ := hrel
    by_cases hlt : k < l.length
    · obtain ⟨b, off, rfl, hc⟩ := HLs.out k hlt
      have c1 := below_cell HA.out.2 hc
      clear hc
      have hb1 := Lib.hid (total_at hlt HT.out)
      go_wp2_with fail
      refine (split_any l[k] _ m (by have := hb1.out; omega) (below_cell HA.out.2 HM.out)).mono ?_
      rintro e w1 ⟨P, cp, rfl, hP1, hP2, hP3, hP4⟩
      have HA1 := Lib.hid (HA.out.keep hP4)
      have HS1 := Lib.hid (Aside.fresh HA.out hP1 hP2 hP3)
      have hpl := splitS_length 44 l[k]
      have hsz : Hid (∀ x ∈ splitS 44 l[k], x.size ≤ 4000000000) := Lib.hid (fun x hx => Nat.le_trans (splitS_small 44 l[k] x hx) (by have := hb1.out; omega))
      have hpl2 : (splitS 44 l[k]).length ≤ 4000000000 := by have := hb1.out; omega
      clear hP1 hP2 hP3 hP4 c1 hpl
      generalize hparts : splitS 44 l[k] = parts at *
      have HPA := Lib.hid hparts
      clear hparts
      go_wp2_with fail
      go_loopw [3, 18] (fun v i wq => ∃ j : Nat, j ≤ parts.length ∧ i = .int .i64 j ∧ Hid (Acc w wq v (listL (l.take k) ++ elemsOf (parts.take j))) ∧ Hid (Aside wq v P parts)) (fun _ i _ => parts.length - (intOf i).toNat)
      case atStart => exact ⟨0, Nat.zero_le _, rfl, Lib.hid (by simpa [elemsOf] using HA1.out), HS1⟩
      case round =>
        obtain ⟨j, hj, rfl, HB, HS⟩ := hrel
        by_cases hjl : j < parts.length
        · obtain ⟨b', o', e', c2⟩ := HS.out.1 j hjl
          cases e'
          rw [Nat.zero_add] at c2
          go_wp2_with fail
          refine (trim_any parts[j] _ ?_).mono ?_
          · have := hsz.out parts[j] (by simp); unfold maxLen; omega
          rintro e w2 ⟨rfl, hb2⟩
          have HB2 := Lib.hid (HB.out.keep hb2)
          have HS2 := Lib.hid (HS.out.keep hb2)
          clear hb2 c2
          by_cases hem : (trimBA parts[j]).data.toList.isEmpty = true
          · have het : (trimBA parts[j]).toList.isEmpty = true := by rw [ByteArray.toList_eq]; exact hem
            have HEM := Lib.hid hem
            clear hem
            go_wp2_with fail
            go_roundw
            case rel => exact ⟨j + 1, by omega, by go_num, Lib.hid (by rw [List.take_succ_eq_append_getElem hjl, elemsOf_no _ _ HEM.out]; exact HB2.out), HS2⟩
            case measure => simp [intOf]; omega
          · have hem' : (trimBA parts[j]).data.toList.isEmpty = false := by simpa using hem
            have het : (trimBA parts[j]).toList.isEmpty = false := by rw [ByteArray.toList_eq]; exact hem'
            have HEM := Lib.hid hem'
            clear hem hem'
            go_wp2_with (at_builtin; refine wpList_append_acc _ rfl _ _ rfl rfl (HB2.out.keep ((Below.refl _ _).alloc (Nat.le_refl _) _)) rfl (y := trimBA parts[j]) ?c1 ?c2 ?c3)
            case c1 => simp
            case c2 =>
              have h1 := listL_length (l.take k)
              have h2 := elemsOf_length (parts.take j)
              have h3 : (parts.take j).length ≤ j := List.length_take_le _ _
              have h4 := total_take l k
              have h5 := HT.out
              rw [List.length_append]; omega
            case c3 =>
              intro g cap w' hacc has
              have HACC := Lib.hid hacc
              have HAS := Lib.hid (has _ _ (HS2.out.keep ((Below.refl _ _).alloc (Nat.le_refl _) _)))
              clear hacc has
              go_wp2_with fail
              go_roundw
              case rel => exact ⟨j + 1, by omega, by go_num, Lib.hid (by rw [List.take_succ_eq_append_getElem hjl, elemsOf_yes _ _ HEM.out]; exact HACC.out), HAS⟩
              case measure => simp [intOf]; omega
        · have hpt : parts.take j = parts := List.take_of_length_le (by omega)
          have HPT := Lib.hid hpt
          clear hpt
          go_wp2_with fail
          go_roundw
          case rel => exact ⟨k + 1, by omega, by go_num, Lib.hid (by
            have := HB.out
            rw [HPT.out, ← HPA.out] at this
            rw [List.take_succ_eq_append_getElem hlt, listL_snoc]; exact this)⟩
          case measure => simp [intOf]; omega
    · have hpt : l.take k = l := List.take_of_length_le (by omega)
      have HF := HA.out
      rw [hpt] at HF
      have HFF := Lib.hid HF
      clear HF hpt HA
      go_wp2_with fail
      go_ret
      exact ⟨_, rfl, HFF.out⟩
theorem pieces_step {c : UInt8} {s : ByteArray} {i : Nat} (h : i < s.size) : splitL c (s.data.toList.drop i) = if s[i] = c then [] :: splitL c (s.data.toList.drop (i + 1)) else front [s[i]] (splitL c (s.data.toList.drop (i + 1))) := by
  rw [List.drop_eq_getElem_cons (by simpa using h), splitL]; rfl
theorem pieces_end (c : UInt8) (s : ByteArray) : splitL c (s.data.toList.drop s.size) = [[]] := by
  rw [List.drop_of_length_le (by simp)]; rfl
theorem extract_ofL (s : ByteArray) (a b : Nat) : s.extract a b = ofL ((s.data.toList.drop a).take (b - a)) := ba_ext (by rw [ofL_list, Lib.extract_data])
theorem drop_take_snoc (s : ByteArray) (a i : Nat) (ha : a ≤ i) (h : i < s.size) : (s.data.toList.drop a).take (i + 1 - a) = (s.data.toList.drop a).take (i - a) ++ [s[i]] := by
  have e : i + 1 - a = (i - a) + 1 := by omega
  have hl : s.data.toList.length = s.size := by simp
  rw [e, List.take_succ_eq_append_getElem (by rw [List.length_drop, hl]; omega), List.getElem_drop]
  have e2 : a + (i - a) = i := by omega
  simp only [e2]
  rfl

set_option maxHeartbeats 1000000 in
theorem refSplit_any (s : ByteArray) (c : UInt8) (w : World) (hs : s.size ≤ 4000000000) :
    Calls Tryz.prog 108 #[.string s, .int .u8 c.toNat] w fun e w' => RetFresh w (splitS c s) e w' := by
  go_enter Tryz.func108, Tryz.ntmps108
  go_wp2
  go_loopw [5, 6, 7] (fun v f i wr => ∃ k a : Nat, ∃ done : List (List UInt8), k ≤ s.size + 1 ∧ a ≤ k ∧ i = .int .i64 k ∧ f = .int .i64 a ∧ done.length ≤ k ∧ Hid (Acc w wr v (done.map ofL)) ∧
      Hid ((k ≤ s.size → done ++ front ((s.data.toList.drop a).take (k - a)) (splitL c (s.data.toList.drop k)) = splitL c s.data.toList) ∧ (¬ k ≤ s.size → done = splitL c s.data.toList))) (fun _ _ i _ => s.size + 1 - (intOf i).toNat)
  case atStart => exact ⟨0, 0, [], by omega, Nat.le_refl _, rfl, rfl, Nat.le_refl _, Lib.hid (Acc.start w), Lib.hid ⟨fun _ => by simp [front_nil _ (splitL_ne c _)], fun h => absurd (Nat.zero_le _) h⟩⟩
  case round =>
    obtain ⟨k, a, done, hk, hak, rfl, rfl, hdl, HA, HP⟩ := hrel
    by_cases hle : k ≤ s.size
    · have cont : ∀ (_ : k = s.size ∨ ∃ h : k < s.size, s[k] = c), Hid (done ++ [(s.data.toList.drop a).take (k - a)] ++ (if k < s.size then splitL c (s.data.toList.drop (k + 1)) else []) = splitL c s.data.toList) := by
        intro h
        have h1 := HP.out.1 hle
        rcases h with e | ⟨h, e⟩
        · subst e
          rw [pieces_end] at h1
          rw [if_neg (by omega), List.append_nil]
          simpa [Hid, front] using h1
        · rw [pieces_step h, if_pos e] at h1
          rw [if_pos h, List.append_assoc]
          simpa [Hid, front] using h1
      have CONT := Lib.hid cont
      clear cont
      by_cases hend : k = s.size
      · have HEND := Lib.hid hend
        have he1 : ((k : Int) == (s.size : Int)) = true := by simp [hend]
        clear hend
        go_wp2_with (at_builtin; refine wpList_append_acc _ rfl _ _ rfl rfl (HA.out.keep ((Below.refl _ _).alloc (Nat.le_refl _) _)) rfl (y := s.extract a k) ?c1 ?c2 ?c3)
        case c1 => simp
        case c2 => simp; omega
        case c3 =>
          intro g cap w' hacc has
          have HACC := Lib.hid hacc
          clear hacc has
          go_wp2_with fail
          go_roundw
          case rel => exact ⟨k + 1, k + 1, done ++ [(s.data.toList.drop a).take (k - a)], by omega, Nat.le_refl _, by go_num, by go_num, by simp; omega, Lib.hid (by
            have := HACC.out
            rw [extract_ofL] at this
            rw [List.map_append]; simpa using this), Lib.hid ⟨fun h => absurd h (by have := HEND.out; omega), fun _ => by
              have := (CONT.out (.inl HEND.out)).out
              rw [if_neg (by have := HEND.out; omega), List.append_nil] at this; exact this⟩⟩
          case measure => simp [intOf]; omega
      · have hlt : k < s.size := by omega
        have he1 : ((k : Int) == (s.size : Int)) = false := by rw [beq_eq_false_iff_ne]; omega
        clear hend
        by_cases hc : s[k] = c
        · have HC := Lib.hid hc
          have hb : ((s[k].toNat : Int) == (c.toNat : Int)) = true := by simp [hc]
          clear hc
          go_wp2_with (at_builtin; refine wpList_append_acc _ rfl _ _ rfl rfl (HA.out.keep ((Below.refl _ _).alloc (Nat.le_refl _) _)) rfl (y := s.extract a k) ?c1 ?c2 ?c3)
          case c1 => simp
          case c2 => simp; omega
          case c3 =>
            intro g cap w' hacc has
            have HACC := Lib.hid hacc
            clear hacc has
            go_wp2_with fail
            go_roundw
            case rel => exact ⟨k + 1, k + 1, done ++ [(s.data.toList.drop a).take (k - a)], by omega, Nat.le_refl _, by go_num, by go_num, by simp; omega, Lib.hid (by
              have := HACC.out
              rw [extract_ofL] at this
              rw [List.map_append]; simpa using this), Lib.hid ⟨fun _ => by
                have := (CONT.out (.inr ⟨hlt, HC.out⟩)).out
                rw [if_pos hlt] at this
                rw [Nat.sub_self, List.take_zero, front_nil _ (splitL_ne c _)]; exact this, fun h => absurd (show k + 1 ≤ s.size by omega) h⟩⟩
            case measure => simp [intOf]; omega
        · have HC := Lib.hid hc
          have hb : ((s[k].toNat : Int) == (c.toNat : Int)) = false := by
            rw [Bool.eq_false_iff]; intro h; exact hc (eqb_of h)
          clear hc
          go_wp2_with fail
          go_roundw
          case rel => exact ⟨k + 1, a, done, by omega, by omega, by go_num, rfl, by omega, HA, Lib.hid ⟨fun _ => by
            have h1 := HP.out.1 hle
            rw [pieces_step hlt, if_neg HC.out, front_front, ← drop_take_snoc s a k hak hlt] at h1
            exact h1, fun h => absurd (show k + 1 ≤ s.size by omega) h⟩⟩
          case measure => simp [intOf]; omega
    · have hdone := Lib.hid (HP.out.2 hle)
      go_wp2_with fail
      go_ret
      obtain ⟨g, cap, rfl, h1, h2, h3⟩ := HA.out.isNew (by rw [hdone.out]; simpa using splitL_ne c s.data.toList)
      have e : done.map ofL = splitS c s := by rw [hdone.out]; rfl
      rw [e] at h3 ⊢
      exact ⟨g, cap, rfl, h1, h2, h3, HA.out.2⟩

set_option maxHeartbeats 800000 in
theorem refList_acc (l : List ByteArray) (a : Option Addr) (ca : Nat) (w : World) (hl : StrsAt w a l) (ht : total l ≤ 4000000000) :
    Calls Tryz.prog 95 #[.slice a l.length ca] w (RetAcc w (listL l)) := by
  have HLs := Lib.hid hl
  have HT := Lib.hid ht
  have hll : l.length ≤ 4000000000 := Nat.le_trans (total_len l) ht
  clear hl ht
  go_enter Tryz.func95, Tryz.ntmps95
  go_wp2
  go_loopw [3, 4] (fun v i wr => ∃ k : Nat, k ≤ l.length ∧ i = .int .i64 k ∧ Hid (Acc w wr v (listL (l.take k)))) (fun _ i _ => l.length - (intOf i).toNat)
  case atStart => exact ⟨0, Nat.zero_le _, rfl, Lib.hid (Acc.start w)⟩
  case round =>
    obtain ⟨k, hk, rfl, HA⟩ := hrel
    by_cases hlt : k < l.length
    · obtain ⟨b, off, rfl, hc⟩ := HLs.out k hlt
      have c1 := below_cell HA.out.2 hc
      clear hc
      have hb1 := Lib.hid (total_at hlt HT.out)
      go_wp2_with fail
      refine (refSplit_any l[k] 44 _ (by have := hb1.out; omega)).mono ?_
      rintro e w1 ⟨P, cp, rfl, hP1, hP2, hP3, hP4⟩
      have HA1 := Lib.hid (HA.out.keep hP4)
      have HS1 := Lib.hid (Aside.fresh HA.out hP1 hP2 hP3)
      have hpl := splitS_length 44 l[k]
      have hsz : Hid (∀ x ∈ splitS 44 l[k], x.size ≤ 4000000000) := Lib.hid (fun x hx => Nat.le_trans (splitS_small 44 l[k] x hx) (by have := hb1.out; omega))
      have hpl2 : (splitS 44 l[k]).length ≤ 4000000000 := by have := hb1.out; omega
      clear hP1 hP2 hP3 hP4 c1 hpl
      generalize hparts : splitS 44 l[k] = parts at *
      have HPA := Lib.hid hparts
      clear hparts
      go_wp2_with fail
      go_loopw [3, 6] (fun v i wq => ∃ j : Nat, j ≤ parts.length ∧ i = .int .i64 j ∧ Hid (Acc w wq v (listL (l.take k) ++ elemsOf (parts.take j))) ∧ Hid (Aside wq v P parts)) (fun _ i _ => parts.length - (intOf i).toNat)
      case atStart => exact ⟨0, Nat.zero_le _, rfl, Lib.hid (by simpa [elemsOf] using HA1.out), HS1⟩
      case round =>
        obtain ⟨j, hj, rfl, HB, HS⟩ := hrel
        by_cases hjl : j < parts.length
        · obtain ⟨b', o', e', c2⟩ := HS.out.1 j hjl
          cases e'
          rw [Nat.zero_add] at c2
          go_wp2_with fail
          refine (refTrim_any parts[j] _ ?_).mono ?_
          · have := hsz.out parts[j] (by simp); unfold maxLen; omega
          rintro e w2 ⟨rfl, rfl⟩
          clear c2
          by_cases hem : (trimBA parts[j]).data.toList.isEmpty = true
          · have het : (trimBA parts[j]).toList.isEmpty = true := by rw [ByteArray.toList_eq]; exact hem
            have HEM := Lib.hid hem
            clear hem
            go_wp2_with fail
            go_roundw
            case rel => exact ⟨j + 1, by omega, by go_num, Lib.hid (by rw [List.take_succ_eq_append_getElem hjl, elemsOf_no _ _ HEM.out]; exact HB.out), HS⟩
            case measure => simp [intOf]; omega
          · have hem' : (trimBA parts[j]).data.toList.isEmpty = false := by simpa using hem
            have het : (trimBA parts[j]).toList.isEmpty = false := by rw [ByteArray.toList_eq]; exact hem'
            have HEM := Lib.hid hem'
            clear hem hem'
            go_wp2_with (at_builtin; refine wpList_append_acc _ rfl _ _ rfl rfl (HB.out.keep ((Below.refl _ _).alloc (Nat.le_refl _) _)) rfl (y := trimBA parts[j]) ?c1 ?c2 ?c3)
            case c1 => simp
            case c2 =>
              have h1 := listL_length (l.take k)
              have h2 := elemsOf_length (parts.take j)
              have h3 : (parts.take j).length ≤ j := List.length_take_le _ _
              have h4 := total_take l k
              have h5 := HT.out
              rw [List.length_append]; omega
            case c3 =>
              intro g cap w' hacc has
              have HACC := Lib.hid hacc
              have HAS := Lib.hid (has _ _ (HS.out.keep ((Below.refl _ _).alloc (Nat.le_refl _) _)))
              clear hacc has
              go_wp2_with fail
              go_roundw
              case rel => exact ⟨j + 1, by omega, by go_num, Lib.hid (by rw [List.take_succ_eq_append_getElem hjl, elemsOf_yes _ _ HEM.out]; exact HACC.out), HAS⟩
              case measure => simp [intOf]; omega
        · have hpt : parts.take j = parts := List.take_of_length_le (by omega)
          have HPT := Lib.hid hpt
          clear hpt
          go_wp2_with fail
          go_roundw
          case rel => exact ⟨k + 1, by omega, by go_num, Lib.hid (by
            have := HB.out
            rw [HPT.out, ← HPA.out] at this
            rw [List.take_succ_eq_append_getElem hlt, listL_snoc]; exact this)⟩
          case measure => simp [intOf]; omega
    · have hpt : l.take k = l := List.take_of_length_le (by omega)
      have HF := HA.out
      rw [hpt] at HF
      have HFF := Lib.hid HF
      clear HF hpt HA
      go_wp2_with fail
      go_ret
      exact ⟨_, rfl, HFF.out⟩
end Go.Proofs.YtgmbfiikkogenaaGreatDoor
namespace Go.Proofs.YtgmbfiikkogenaaGreatDoor
open Go.ChangeShapes Go.WideShapes Go.ChangeAt Go.RowKit

theorem byte_of {x : Int} (h : (Lit.int .u8 x).wf = true) : ∃ c : UInt8, x = (c.toNat : Int) := by
  have hb : 0 ≤ x ∧ x ≤ 255 := bounds_u8 h
  refine ⟨x.toNat.toUInt8, ?_⟩
  have : (x.toNat.toUInt8).toNat = x.toNat := by rw [Nat.toUInt8_eq, UInt8.toNat_ofNat']; omega
  omega

/-- The slice at a reads as the bytes l. -/
def IsBytes (w : World) (a : Option Addr) (l : List UInt8) (cap : Nat) : Prop :=
  (a = none ∧ l = [] ∧ cap = 0) ∨ ∃ x, a = some x ∧ l.length ≤ cap ∧ cap ≤ maxLen ∧ ∀ j (hj : j < l.length), w.cell? (x.add j) = some (.int .u8 (l[j].toNat : Int))

theorem open_bytes {H : Type} {enc : TypeId × Value → H} {W : World} {a : Option Addr} {len cap : Nat} {d : DataW H} {ps : List MemPlace} {base : Nat}
    (h : DataW.Trod enc Tryz.prog W base (fun _ => true) true 24 (.slice a len cap) d ps) : ∃ l : List UInt8, len = l.length ∧ IsBytes W a l cap := by
  obtain ⟨fuel, hf⟩ := h
  rcases open_ints Tryz.underlying24 Tryz.underlying5 (by kernel_rfl) hf with ⟨hcs, _⟩ | ⟨x, l, c, zs, hcs, _, hl, hm, hz, _, hcell, hwz⟩
  · simp [Value.cells] at hcs
    obtain ⟨rfl, rfl, rfl⟩ := hcs
    exact ⟨[], rfl, .inl ⟨rfl, rfl, rfl⟩⟩
  · simp [Value.cells] at hcs
    obtain ⟨rfl, rfl, rfl⟩ := hcs
    have hz' : zs.length = cap := by simpa using hz
    have hlen : ((zs.take len).map fun z => z.toNat.toUInt8).length = len := by simp; omega
    refine ⟨(zs.take len).map fun z => z.toNat.toUInt8, hlen.symm, .inr ⟨x, rfl, by rw [hlen]; exact hl, hm, fun j hj => ?_⟩⟩
    rw [hlen] at hj
    have hj' : j < zs.length := by omega
    rw [hcell j hj']
    have hw := hwz zs[j] (List.getElem_mem _)
    obtain ⟨c, hc⟩ := byte_of hw
    have e : zs.getD j 0 = zs[j] := by rw [List.getD_eq_getElem?_getD, List.getElem?_eq_getElem hj']; rfl
    rw [e]
    have e2 : ((zs.take len).map fun z => z.toNat.toUInt8)[j]'(by rw [hlen]; exact hj) = zs[j].toNat.toUInt8 := by simp
    rw [e2, hc]
    simp

/-- string(b) of a slice of bytes that came in. -/
theorem conv_bytes {W : World} {a : Option Addr} {l : List UInt8} {cap : Nat} (h : IsBytes W a l cap) :
    (convert 24 9 (.slice a l.length cap)).run Tryz.prog W = .ok (.string ⟨l.toArray⟩) W := by
  rcases h with ⟨rfl, rfl, rfl⟩ | ⟨x, rfl, _, _, hc⟩
  · simp [convert, run_underlying Tryz.underlying24, run_underlying Tryz.underlying9, run_underlying Tryz.underlying5, Conv.bytesToString]
    rfl
  · exact run_convert_bytes_back (P := Tryz.prog) W 24 9 5 x cap l Tryz.underlying24 Tryz.underlying5 Tryz.underlying9 hc
end Go.Proofs.YtgmbfiikkogenaaGreatDoor
namespace Go.Proofs.YtgmbfiikkogenaaGreatDoor
open Go.ChangeShapes Go.WideShapes Go.ChangeAt Go.RowKit

/-- The slice at a reads as the strings l. -/
def StrsIn (w : World) (a : Option Addr) (l : List ByteArray) : Prop :=
  ∀ j (hj : j < l.length), ∃ x, a = some x ∧ w.cell? (x.add j) = some (.string l[j])
theorem StrsIn.keep {w w' : World} {a : Option Addr} {l : List ByteArray} (h : StrsIn w a l) (hb : Below w.heap.size w w') : StrsIn w' a l := fun j hj => by
  obtain ⟨x, e, hc⟩ := h j hj
  exact ⟨x, e, below_cell hb hc⟩
theorem StrsIn.nil (w : World) (a : Option Addr) : StrsIn w a [] := fun _ hj => absurd hj (Nat.not_lt_zero _)
theorem StrsIn.take {w : World} {a : Option Addr} {l : List ByteArray} (h : StrsIn w a l) (k : Nat) : StrsIn w a (l.take k) := fun j hj => by
  have hj' : j < l.length := by rw [List.length_take] at hj; omega
  obtain ⟨x, e, hc⟩ := h j hj'
  exact ⟨x, e, by rw [List.getElem_take]; exact hc⟩
theorem StrsIn.of_at {w : World} {a : Option Addr} {l : List ByteArray} (h : StrsAt w a l) : StrsIn w a l := fun j hj => by
  obtain ⟨b, off, e, hc⟩ := h j hj
  exact ⟨_, e, by rw [show (⟨b, off, none⟩ : Addr).add j = ⟨b, off + j, none⟩ by unfold Addr.add; split <;> simp_all]; exact hc⟩

theorem open_strings_arg {H : Type} {enc : TypeId × Value → H} {W : World} {a : Option Addr} {len cap : Nat} {d : DataW H} {ps : List MemPlace} {base : Nat}
    (h : DataW.Trod enc Tryz.prog W base (fun _ => true) true 27 (.slice a len cap) d ps) :
    ∃ l : List ByteArray, len = l.length ∧ StrsIn W a l ∧ l.length ≤ cap ∧ cap ≤ maxLen ∧ ∀ s ∈ l, s.size ≤ maxLen := by
  obtain ⟨fuel, hf⟩ := h
  rcases open_strings Tryz.underlying27 Tryz.underlying9 (by kernel_rfl) hf with ⟨hcs, _⟩ | ⟨x, l, c, zs, hcs, _, hl, hm, hz, _, hcell, hwz⟩
  · simp [Value.cells] at hcs
    obtain ⟨rfl, rfl, rfl⟩ := hcs
    exact ⟨[], rfl, StrsIn.nil _ _, Nat.le_refl _, Nat.zero_le _, fun s hs => by cases hs⟩
  · simp [Value.cells] at hcs
    obtain ⟨rfl, rfl, rfl⟩ := hcs
    have hz' : zs.length = cap := by simpa using hz
    have hlen : (zs.take len).length = len := by simp; omega
    refine ⟨zs.take len, hlen.symm, fun j hj => ⟨x, rfl, ?_⟩, by rw [hlen]; exact hl, hm, fun s hs => hwz s (List.mem_of_mem_take hs)⟩
    rw [hlen] at hj
    have hj' : j < zs.length := by omega
    have e : zs.getD j ByteArray.empty = zs[j] := by rw [List.getD_eq_getElem?_getD, List.getElem?_eq_getElem hj']; rfl
    have e2 : (zs.take len)[j]'(by rw [hlen]; exact hj) = zs[j] := by simp
    rw [hcell j hj', e, e2]
end Go.Proofs.YtgmbfiikkogenaaGreatDoor
namespace Go.Proofs.YtgmbfiikkogenaaGreatDoor
open Go.RowKit

theorem Tryz.info5 : (Tryz.prog.info? 5).map (fun i => (i.zero, i.size, i.bytes)) = some (some (.int .u8 0), 1, 1) := by kernel_rfl
def bytesV (l : List UInt8) : List Value := l.map fun c => .int .u8 (c.toNat : Int)
theorem bytesV_len (l : List UInt8) : (bytesV l).length = l.length := by simp [bytesV]

/-- v is a slice of the call's own with the bytes l; what was there before the call is as it was. -/
def AccB (w0 w : World) (v : Value) (l : List UInt8) : Prop :=
  w.ownsRow w0.heap.size 5 1 v l.length (bytesV l) ∧ Below w0.heap.size w0 w
theorem AccB.start (w : World) : AccB w w (.slice none 0 0) [] := ⟨World.ownsRow_nil _ _ _ _, Below.refl _ _⟩
theorem AccB.size {w0 w : World} {v : Value} {l : List UInt8} (h : AccB w0 w v l) : w0.heap.size ≤ w.heap.size := h.2.size
theorem AccB.keep {w0 w w' : World} {v : Value} {l : List UInt8} (h : AccB w0 w v l) (hb : Below w.heap.size w w') : AccB w0 w' v l :=
  ⟨ownsRow_keep h.1 hb, h.2.trans (hb.mono h.2.size)⟩
theorem AccB.shape {w0 w : World} {v : Value} {l : List UInt8} (h : AccB w0 w v l) : ∃ a cap, v = .slice a l.length cap ∧ IsBytes w a l cap := by
  obtain ⟨⟨h1, h2⟩, _⟩ := h
  rcases h2 with ⟨rfl, h2⟩ | ⟨g, cap, cur, rfl, hg, hc, hcap, hm, hsz, ht⟩
  · have : l = [] := List.eq_nil_of_length_eq_zero h2
    subst this
    exact ⟨none, 0, rfl, .inl ⟨rfl, rfl, rfl⟩⟩
  · refine ⟨_, cap, rfl, .inr ⟨_, rfl, hcap, hm, fun j hj => ?_⟩⟩
    have e : cur.toList[j]? = some (Value.int .u8 (l[j].toNat : Int)) := by
      have := congrArg (fun x => x[j]?) ht
      simp only [Nat.mul_one, bytesV] at this
      rw [List.getElem?_take_of_lt hj, List.getElem?_map, List.getElem?_eq_getElem hj] at this
      exact this
    rw [Addr.add_lit]
    simp only [World.cell?, hc, Nat.zero_add]
    simpa using e

section
variable {ops : Array Oper} {rest : List Oper} {o : Oper} {act : Act} {Q : Exit → Act → World → Prop}
/-- APPEND of one byte to a slice of the call's own. -/
theorem wpList_append_accb (w : World) (hgd : o.guard = none) (s x : Operand) (ho : o.op = .call { callee := .builtin .append, args := #[s, x], argTypes := #[24, 24] })
    {w0 : World} {v : Value} {l : List UInt8} (hs : act.eval s = v) (h : AccB w0 w v l) {b c : Nat} (hx : act.eval x = .slice (some ⟨b, 0, none⟩) 1 c) {y : UInt8} (hy : w.cell? ⟨b, 0, none⟩ = some (.int .u8 (y.toNat : Int)))
    (hn : l.length + 1 ≤ 140737488355328)
    (K : ∀ g cap w', AccB w0 w' (.slice (some ⟨g, 0, none⟩) (l.length + 1) cap) (l ++ [y]) →
      wpList Tryz.prog ops Q rest (act.put o.dst (.slice (some ⟨g, 0, none⟩) (l.length + 1) cap)) w') : wpList Tryz.prog ops Q (o :: rest) act w := by
  obtain ⟨i0, hi, hz0, hz1, hz2⟩ := info_parts Tryz.info5
  refine wpList_append_lies w hgd s x 24 ho w0.heap.size 5 i0 (.int .u8 0) 1 1 Tryz.underlying24 hi hz0 hz1 hz2 rfl (by decide) v l.length (bytesV l) hs h.1 ⟨b, 0, none⟩ 1 c [.int .u8 (y.toNat : Int)] hx rfl ?_ ?_ (by decide) (by unfold maxLen; omega) (by omega) h.2.size w.heap.size rfl ?_
  · intro j u hj
    match j, hj with
    | 0, hj => simp at hj; subst hj; rw [Addr.add_lit]; exact hy
    | j + 1, hj => simp at hj
  · intro u hu; simp at hu; subst hu; rfl
  · intro g cap w' hown hgrow hg hlt
    refine K g cap w' ⟨by simpa [bytesV] using hown, h.2.grown hgrow h.2.size fun k hk => ?_⟩
    exact (World.ownsRow.lt h.1 k hk).1
end
end Go.Proofs.YtgmbfiikkogenaaGreatDoor
namespace Go.Proofs.YtgmbfiikkogenaaGreatDoor

section
variable {P : Program} {md : Region.Mode} {C : World → Prop} {l : List Oper} {o : Oper}

/-- Every operation waits for earlier ones alone. -/
def backB (l : List Oper) : Bool := (List.range l.length).all fun i => match l[i]? with | some x => x.after.all (fun e => decide (e.on < i)) && x.guard.isNone | none => true
/-- Each of the first n is waited for by a later one. -/
def sinkAll (md : Region.Mode) (l : List Oper) (n : Nat) : Bool :=
  (List.range n).all fun i => (List.range (n + 1)).any fun j => decide (i < j) && (match l[j]? with | some x => x.after.any (fun e => Region.binds md e && e.on == i) | none => false)

theorem backB_at (h : backB l = true) {i : Nat} {x : Oper} (hi : l[i]? = some x) : (∀ e ∈ x.after, e.on < i) ∧ x.guard = none := by
  have hlt := (List.getElem?_eq_some_iff.1 hi).1
  have := List.all_eq_true.1 h i (List.mem_range.2 hlt)
  rw [hi] at this
  simp only [Bool.and_eq_true, Array.all_eq_true_iff_forall_mem, decide_eq_true_eq, Option.isNone_iff_eq_none] at this
  exact this
theorem sinkAll_at {n : Nat} (h : sinkAll md l n = true) {i : Nat} (hi : i < n) : ∃ j x, i < j ∧ j ≤ n ∧ l[j]? = some x ∧ ∃ e ∈ x.after, Region.binds md e = true ∧ e.on = i := by
  have h1 := List.all_eq_true.1 h i (List.mem_range.2 hi)
  obtain ⟨j, hj, hj2⟩ := List.any_eq_true.1 h1
  simp only [Bool.and_eq_true, decide_eq_true_eq] at hj2
  cases hx : l[j]? with
  | none => rw [hx] at hj2; exact absurd hj2.2 (by simp)
  | some x =>
    rw [hx] at hj2
    obtain ⟨e, he, hb⟩ := Array.any_eq_true'.1 hj2.2
    simp only [Bool.and_eq_true, beq_iff_eq] at hb
    exact ⟨j, x, hj2.1, by have := List.mem_range.1 hj; omega, hx, e, he, hb.1, hb.2⟩

/-- What the marks satisfy on the way. -/
structure Marks (md : Region.Mode) (l : List Oper) (o : Oper) (m : Array Bool) : Prop where
  size : m.size = l.length + 1
  last : m.getD l.length true = false
  closed : ∀ j x, l[j]? = some x → m.getD j false = true → ∀ e ∈ x.after, Region.binds md e = true → m.getD e.on false = true
theorem full_at {j : Nat} (hj : j < l.length) : (l ++ [o]).toArray[j]? = l.toArray[j]? := by simp [List.getElem?_append_left hj]
theorem ready_full {m : Array Bool} {i : Nat} (hi : i < l.length) : i ∈ Region.ready md (l ++ [o]).toArray m ↔ i ∈ Region.ready md l.toArray m := by
  rw [mem_ready, mem_ready, full_at hi]
theorem marks_done (hB : backB l = true) {m : Array Bool} (h : Marks md l o m) (hr : Region.ready md l.toArray m = []) : ∀ i, i < l.length → m.getD i false = true := by
  intro i
  induction i using Nat.strongRecOn with
  | _ i ih =>
    intro hi
    cases hm : m.getD i false with
    | true => rfl
    | false =>
      exfalso
      have hx : l[i]? = some l[i] := List.getElem?_eq_getElem hi
      have : i ∈ Region.ready md l.toArray m := mem_ready.2 ⟨by
        have hs : i < m.size := by rw [h.size]; omega
        simp [hs] at hm ⊢; exact hm, l[i], by simp, fun e he _ => ih _ ((backB_at hB hx).1 e he) (by have := (backB_at hB hx).1 e he; omega)⟩
      rw [hr] at this; cases this
theorem marks_sink {m : Array Bool} (hS : sinkAll md (l ++ [o]) l.length = true) (h : Marks md l o m) (hr : l.length ∈ Region.ready md (l ++ [o]).toArray m) : ∀ d i, l.length - i = d → i < l.length → m.getD i false = true := by
  intro d
  induction d using Nat.strongRecOn with
  | _ d ih =>
    intro i hd hi
    obtain ⟨j, x, hij, hjn, hx, e, he, hb, rfl⟩ := sinkAll_at hS hi
    by_cases hjl : j = l.length
    · subst hjl
      obtain ⟨_, y, hy, hall⟩ := mem_ready.1 hr
      have : x = y := by simp at hx hy; rw [← hx, ← hy]
      subst this
      exact hall e he hb
    · have hjlt : j < l.length := by omega
      have hlx : l[j]? = some x := by rw [← hx, List.getElem?_append_left hjlt]
      exact h.closed j x hlx (ih _ (by omega) j rfl hjlt) e he hb
theorem marks_ready_nil {m : Array Bool} (hall : ∀ i, i < l.length → m.getD i false = true) : Region.ready md l.toArray m = [] := by
  rw [List.eq_nil_iff_forall_not_mem]
  intro i hi
  obtain ⟨h1, x, hx, _⟩ := mem_ready.1 hi
  have hlt : i < l.length := by simpa using (Array.getElem?_eq_some_iff.1 hx).1
  have h2 := hall i hlt
  rcases Nat.lt_or_ge i m.size with h | h
  · simp [h] at h1 h2; rw [h1] at h2; cases h2
  · simp [Array.getElem?_eq_none h] at h2
theorem marks_set {m : Array Bool} (h : Marks md l o m) {i : Nat} (hi : i < l.length) (hr : i ∈ Region.ready md l.toArray m) : Marks md l o (m.setIfInBounds i true) := by
  obtain ⟨_, y, hy, hall⟩ := mem_ready.1 hr
  refine ⟨by simpa using h.size, by rw [getD_set_ne true (by omega)]; exact h.last, fun j x hx hj e he hb => ?_⟩
  by_cases hij : i = j
  · subst hij
    have : x = y := by simp at hy; exact Option.some.inj (hx.symm.trans hy)
    subst this
    exact getD_set_true (hall e he hb)
  · rw [getD_set_ne false hij] at hj
    exact getD_set_true (h.closed j x hx hj e he hb)

theorem tail_done (hB : backB l = true) (hbo : ∀ e ∈ o.after, e.on < l.length) {Q : Exit → Act → World → Prop} {m : Array Bool} {a : Act} {w : World} (h : Marks md l o m) (hr : Region.ready md l.toArray m = [])
    (hq : wpOp P (l ++ [o]).toArray Q l.length (Q .normal) a w) (f : Nat) : wpAny P md (l ++ [o]).toArray Q (f + 1) m a w := by
  have hall := marks_done hB h hr
  have hlast : (l ++ [o]).toArray[l.length]? = some o := by simp
  have hn : l.length ∈ Region.ready md (l ++ [o]).toArray m := mem_ready.2 ⟨h.last, o, hlast, fun e he _ => hall _ (hbo e he)⟩
  refine ⟨fun h0 => (by rw [h0] at hn; cases hn), fun i hi => ?_⟩
  have hin : i = l.length := by
    obtain ⟨h1, x, hx, _⟩ := mem_ready.1 hi
    have hlt : i < l.length + 1 := by simpa using (Array.getElem?_eq_some_iff.1 hx).1
    rcases Nat.lt_or_ge i l.length with h2 | h2
    · have := (ready_full (o := o) h2).1 hi
      rw [hr] at this; cases this
    · omega
  subst hin
  have hnil : Region.ready md (l ++ [o]).toArray (m.setIfInBounds l.length true) = [] := by
    rw [List.eq_nil_iff_forall_not_mem]
    intro i hi
    obtain ⟨h1, x, hx, _⟩ := mem_ready.1 hi
    have hlt : i < l.length + 1 := by simpa using (Array.getElem?_eq_some_iff.1 hx).1
    have h2 : i < m.size := by rw [h.size]; exact hlt
    by_cases hie : i = l.length
    · subst hie; simp [h2] at h1
    · rw [getD_set_ne true (by omega)] at h1
      have h3 := hall i (by omega)
      simp [h2] at h1 h3; rw [h1] at h3; cases h3
  refine wpOp_mono (fun a' w' hQ => ?_) hq
  cases f with
  | zero => exact ⟨hnil, hQ⟩
  | succ f => exact ⟨fun _ => hQ, fun i hi => by rw [hnil] at hi; cases hi⟩

theorem wpAny_tail (hB : backB l = true) (hbo : ∀ e ∈ o.after, e.on < l.length) (hS : sinkAll md (l ++ [o]) l.length = true) {Q : Exit → Act → World → Prop} :
    ∀ (f : Nat) (m : Array Bool) (a : Act) (w : World), Marks md l o m → C w → wpAnyQ P md l.toArray C (fun a' => ∀ w', C w' → wpOp P (l ++ [o]).toArray Q l.length (Q .normal) a' w') f m a → wpAny P md (l ++ [o]).toArray Q (f + 1) m a w
  | 0, m, a, w, hm, hC, h => tail_done hB hbo hm h.1 (h.2 w hC) 0
  | f + 1, m, a, w, hm, hC, h => by
    by_cases hr : Region.ready md l.toArray m = []
    · exact tail_done hB hbo hm hr (h.1 hr w hC) (f + 1)
    · have hex : ∃ i, i ∈ Region.ready md l.toArray m := List.exists_mem_of_ne_nil _ hr
      obtain ⟨i0, hi0⟩ := hex
      have hlt0 : i0 < l.length := by
        obtain ⟨_, x, hx, _⟩ := mem_ready.1 hi0
        simpa using (Array.getElem?_eq_some_iff.1 hx).1
      refine ⟨fun h0 => ?_, fun i hi => ?_⟩
      · have := (ready_full (o := o) hlt0).2 hi0
        rw [h0] at this; cases this
      · have hlt : i < l.length := by
          obtain ⟨_, x, hx, _⟩ := mem_ready.1 hi
          have h1 : i < l.length + 1 := by simpa using (Array.getElem?_eq_some_iff.1 hx).1
          rcases Nat.lt_or_ge i l.length with h2 | h2
          · exact h2
          · have hie : i = l.length := by omega
            subst hie
            exact absurd (marks_ready_nil (md := md) fun j hj => marks_sink hS hm hi _ j rfl hj) hr
        have hil := (ready_full (o := o) hlt).1 hi
        have hx : l[i]? = some l[i] := List.getElem?_eq_getElem hlt
        have hg := (backB_at hB hx).2
        have hq := h.2 i hil
        have e1 : l.toArray[i]? = some l[i] := by simp
        have e2 : (l ++ [o]).toArray[i]? = some l[i] := by rw [full_at hlt]; exact e1
        have hw : ∀ y, Region.wanted l[i] y = true := fun y => by unfold Region.wanted; rw [hg]
        unfold qOp at hq
        simp only [e1, hw, if_true] at hq
        unfold wpOp
        simp only [e2, hw, if_true]
        exact .inl (Oper.wp_of_quiet hC (fun a' w' hw' h' => wpAny_tail hB hbo hS f _ a' w' (marks_set hm hlt hil) hw' h') hq)

/-- THE LAW. -/
theorem wp_region_quiet_tail {id : Nat} {Q : Exit → Act → World → Prop} {a : Act} {w : World} {full : List Oper} (n : Nat) (hm : P.follows .mixedOrders = true)
    (hlen : full.length = n + 1) (hB : backB full = true) (hS : sinkAll .any full n = true)
    (hL : (Region.noSelect (full.take n).toArray && Region.lexFrom .any (full.take n).toArray n 0 (Array.replicate (n + 1) false)) = true) (hC : C { w with drawn := w.drawn + 1 })
    (h : wpQuiet P (full.take n).toArray C (fun a' => ∀ w', C w' → wpList P full.toArray Q (full.drop n) a' w') (full.take n) a) : (Code.region id full.toArray true).wp P Q a w := by
  obtain ⟨l, o, rfl⟩ : ∃ l o, full = l ++ [o] := ⟨full.dropLast, full.getLast (by intro h; rw [h] at hlen; cases hlen), (List.dropLast_concat_getLast _).symm⟩
  have hn : l.length = n := by simpa using hlen
  subst hn
  have e1 : (l ++ [o]).take l.length = l := List.take_left' rfl
  have e2 : (l ++ [o]).drop l.length = [o] := List.drop_left' rfl
  rw [e1] at hL h
  rw [e2] at h
  simp only [Bool.and_eq_true] at hL
  have hB' : backB l = true := by
    unfold backB
    refine List.all_eq_true.2 fun i hi => ?_
    have hlt := List.mem_range.1 hi
    have h1 : (l ++ [o])[i]? = some l[i] := by rw [List.getElem?_append_left hlt, List.getElem?_eq_getElem hlt]
    have := backB_at hB h1
    rw [List.getElem?_eq_getElem hlt]
    simp only [Bool.and_eq_true, Array.all_eq_true_iff_forall_mem, decide_eq_true_eq, Option.isNone_iff_eq_none]
    exact this
  have hbo : ∀ e ∈ o.after, e.on < l.length := (backB_at hB (i := l.length) (x := o) (by simp)).1
  have hq := wpAnyQ_lex (P := P) (C := C) (md := .any) (Q := fun a' => ∀ w', C w' → wpOp P (l ++ [o]).toArray Q l.length (Q .normal) a' w') hL.1 l 0 (Array.replicate (l.length + 1) false) a (by simp) hL.2 ?_
  · refine wp_region_any hm ?_
    have := wpAny_tail (md := .any) hB' hbo hS l.length _ a _ ⟨by simp, by simp, fun j x hx hj => ?_⟩ hC hq
    · simpa using this
    · exfalso
      simp only [Array.getD_eq_getD_getElem?, Array.getElem?_replicate] at hj
      split at hj <;> simp at hj
  · have e3 : wpOps P (l ++ [o]).toArray Q (List.range' l.length [o].length) = wpList P (l ++ [o]).toArray Q [o] := wpOps_eq_wpList [o] l.length (fun j => by
      match j with
      | 0 => simp
      | j + 1 => simp)
    have e4 : ∀ a' w', wpOps P (l ++ [o]).toArray Q (List.range' l.length [o].length) a' w' = wpOp P (l ++ [o]).toArray Q l.length (wpOps P (l ++ [o]).toArray Q []) a' w' := fun a' w' => by
      rw [show List.range' l.length [o].length = l.length :: [] from rfl, wpOps_cons]
    rw [← e3] at h
    simp only [e4] at h
    exact h
/-- .. at the class 'the world after some draws'. -/
theorem wp_region_drawn_tail {id : Nat} {Q : Exit → Act → World → Prop} {a : Act} {w : World} {full : List Oper} (n : Nat) (hm : P.follows .mixedOrders = true)
    (hlen : full.length = n + 1) (hB : backB full = true) (hS : sinkAll .any full n = true)
    (hL : (Region.noSelect (full.take n).toArray && Region.lexFrom .any (full.take n).toArray n 0 (Array.replicate (n + 1) false)) = true)
    (h : wpQuiet P (full.take n).toArray (fun w' => ∃ m, w' = w.drewN m) (fun a' => ∀ w', (∃ m, w' = w.drewN m) → wpList P full.toArray Q (full.drop n) a' w') (full.take n) a) : (Code.region id full.toArray true).wp P Q a w :=
  wp_region_quiet_tail (C := fun w' => ∃ m, w' = w.drewN m) n hm hlen hB hS hL ⟨1, rfl⟩ h
end

section
variable {P : Program} {md : Region.Mode} {ops : Array Oper} {Q : Exit → Act → World → Prop}
theorem count_set : ∀ (l : List Bool) (i : Nat), i < l.length → l.getD i true = false → (l.set i true).countP (!·) + 1 = l.countP (!·)
  | b :: l, 0, _, h => by
    have : b = false := h
    subst this
    simp
  | b :: l, i + 1, hi, h => by
    have := count_set l i (by simpa using hi) (by simpa using h)
    rw [List.set_cons_succ, List.countP_cons, List.countP_cons]
    omega
/-- AN INVARIANT OVER THE MARKS: whatever may come up keeps it; where nothing may come up it gives what is asked. -/
theorem wpAny_inv (J : Array Bool → Act → World → Prop) (hstep : ∀ m a w, m.size = ops.size → J m a w → ∀ i, i ∈ Region.ready md ops m → wpOp P ops Q i (J (m.setIfInBounds i true)) a w)
    (hdone : ∀ m a w, m.size = ops.size → J m a w → Region.ready md ops m = [] → Q .normal a w) :
    ∀ (f : Nat) (m : Array Bool) (a : Act) (w : World), m.size = ops.size → m.toList.countP (!·) ≤ f → J m a w → wpAny P md ops Q f m a w
  | 0, m, a, w, hs, hc, hJ => by
    have hr : Region.ready md ops m = [] := by
      rw [List.eq_nil_iff_forall_not_mem]
      intro i hi
      obtain ⟨h1, x, hx, _⟩ := mem_ready.1 hi
      have hlt : i < m.size := by rw [hs]; exact (Array.getElem?_eq_some_iff.1 hx).1
      have h2 : m.toList.getD i true = false := by simpa [List.getD_eq_getElem?_getD, hlt] using h1
      have := count_set m.toList i (by simpa using hlt) h2
      omega
    exact ⟨hr, hdone m a w hs hJ hr⟩
  | f + 1, m, a, w, hs, hc, hJ => by
    refine ⟨fun hr => hdone m a w hs hJ hr, fun i hi => ?_⟩
    refine wpOp_mono (fun a' w' hJ' => wpAny_inv J hstep hdone f _ a' w' (by simpa using hs) ?_ hJ') (hstep m a w hs hJ i hi)
    obtain ⟨h1, x, hx, _⟩ := mem_ready.1 hi
    have hlt : i < m.size := by rw [hs]; exact (Array.getElem?_eq_some_iff.1 hx).1
    have h2 : m.toList.getD i true = false := by simpa [List.getD_eq_getElem?_getD, hlt] using h1
    have := count_set m.toList i (by simpa using hlt) h2
    rw [Array.toList_setIfInBounds]
    omega
theorem wp_region_inv {id : Nat} {a : Act} {w : World} (hm : P.follows .mixedOrders = true) (J : Array Bool → Act → World → Prop)
    (hstep : ∀ m a w, m.size = ops.size → J m a w → ∀ i, i ∈ Region.ready .any ops m → wpOp P ops Q i (J (m.setIfInBounds i true)) a w)
    (hdone : ∀ m a w, m.size = ops.size → J m a w → Region.ready .any ops m = [] → Q .normal a w) (h0 : J (Array.replicate ops.size false) a { w with drawn := w.drawn + 1 }) : (Code.region id ops true).wp P Q a w := by
  refine wp_region_any hm (wpAny_inv J hstep hdone _ _ _ _ (by simp) ?_ h0)
  have := List.countP_le_length (p := (!·)) (l := (Array.replicate ops.size false).toList)
  simpa using this
theorem wpOp_plain {i : Nat} {o : Oper} {K : Act → World → Prop} {a : Act} {w : World} (hi : ops[i]? = some o) (hg : o.guard = none) (h : o.wp P a w K Q) : wpOp P ops Q i K a w := by
  unfold wpOp
  simp only [hi]
  rw [if_pos (by unfold Region.wanted; rw [hg])]
  exact .inl h
end
end Go.Proofs.YtgmbfiikkogenaaGreatDoor
