/- Contracts of the small functions of package ascii and of its reference: one byte, and loops over the bytes of a string. Contracts of Lower and Fold, of package ascii and of its reference. Plain facts on lists of bytes: trimming from both ends. Slices of strings in memory: one that is read, one that the call appends to, one that is kept beside it. The numbers that the shelf's contracts of Go's library (package strings, package strconv) have in this seat's translation: nothing is claimed here by itself. Contracts of Fold, Value, Trim, of package ascii and of its reference. Plain facts on lists of bytes: cutting at a byte, and the elements of comma-separated lists. Contracts of Same, Split and List, of package ascii and of its reference. Opening arguments: a byte, a slice of bytes. Opening an argument that is a slice of strings. Slices of bytes in memory: one that the call appends to; slices of numbers that are read. A region that draws its order, whose operations all leave the world in a class, but for the last one, which waits for all of them. A region that draws its order, by what each operation leaves: one fact an operation, whatever the order. Appending a slice of bytes that came in to a slice of the call's own; the law HashWrite at open arguments; what the bound on the arguments gives. More of a region's single operations: comparisons, lengths, slices of slices that are built. A region that draws its order and stores once, by what each operation leaves. SHA-256 in plain words, over words of 32 bits; how the arithmetic of the translated code is spelt at them. Fields: Valid of package field and of its reference; a field's line. Slices of fields in memory: read, appended to, opened among the arguments. Values, Without and Has of package field. Has of package field (a closure), Elements, SameFields. A region that draws its order, whose one store comes behind all else: the rest goes on from there. Parse of package field: the index of a colon, strings.Cut. -/
import Derived.Test.YtbplpfcgmmflnaaDoorRows
import Derived.WalkKit
import Derived.WalkSpells
import Derived.WalkLawsBesides
import Derived.BigQuiet
import Derived.Deep.QuietTactic
import Derived.Lib.Bytealg
import Derived.Lib.IndexLaws
import Derived.Lib.Hide
import Derived.Laws.IdiomStrings
import Derived.Lib.SlTrimSet
import Derived.Lib.IndexBytes
import Derived.Lib.Split
import Derived.Deep.AppendLies
import Derived.Shelf.Strings.SlTrimAscii
import Derived.Shelf.Strings.SplitShaped
import Derived.Shelf.LaysM
import Derived.Shelf.Strings.BuilderK
import Derived.Shelf.Strconv.Itoa4
import Derived.Test.YtbplpfcgmmflnaaDoorProg
import Derived.Lib.SplitLaws
import Derived.WalkSmall
import Derived.ProofKit
import Derived.OpenShut
import Derived.Lib.Strings
import Derived.SliceStrings
import Derived.Deep.Quiet
import Derived.Tactics
import Derived.KernelRfl
import Derived.Below
import Derived.Laws.Bits64
import Derived.Lib.SlBytesConst
import Derived.Maps.AppendAt
import Derived.Laws.AppendOwnNone
import Derived.Great.BuildSlice
import Derived.Laws.Rows
import Derived.Laws.BitsAllLaws
import Derived.Laws.Shifts
import Derived.Maps.OwnOps
import Derived.Maps.OwnSet
import Derived.Deep.SlicePairs
import Derived.Lib.AppendZerosOnto
import Derived.Lib.AppendStr
import Derived.Laws.CopyOwn
import Derived.OwnWalk
namespace Go.Proofs.YtbplpfcgmmflnaaDoor
open Go.RowKit

theorem ret_bool {a b : Bool} (h : a = b) : Ending.returned (.bool a) = .returned (.bool b) := by rw [h]
theorem ret_int {k : IntKind} {a b : Int} (h : a = b) : Ending.returned (.int k a) = .returned (.int k b) := by rw [h]
theorem ret_str {a b : ByteArray} (h : a = b) : Ending.returned (.string a) = .returned (.string b) := by rw [h]

def upB (c : Int) : Bool := decide (65 ≤ c) && decide (c ≤ 90)
def digB (c : Int) : Bool := decide (48 ≤ c) && decide (c ≤ 57)
def loB (c : Int) : Bool := decide (97 ≤ c) && decide (c ≤ 122)
def marks : ByteArray := ⟨#[33, 35, 36, 37, 38, 39, 42, 43, 45, 46, 94, 95, 96, 124, 126]⟩
def hasS (s : ByteArray) (c : UInt8) : Bool := s.data.toList.contains c
def tokB (c : UInt8) : Bool := upB c.toNat || loB c.toNat || digB c.toNat || hasS marks c
def tokS (s : ByteArray) : Bool := s.data.toList.all tokB && !s.data.toList.isEmpty

theorem take_snoc (s : ByteArray) (k : Nat) (h : k < s.size) : s.data.toList.take (k + 1) = s.data.toList.take k ++ [s[k]] := by
  rw [List.take_succ_eq_append_getElem (by simpa using h)]; rfl
theorem take_all (s : ByteArray) (k : Nat) (h : k ≤ s.size) (h2 : ¬ k < s.size) : s.data.toList.take k = s.data.toList := by
  rw [List.take_of_length_le]; simp; omega
theorem mem_at (s : ByteArray) (k : Nat) (h : k < s.size) : s[k] ∈ s.data.toList := by
  show s.data[k] ∈ s.data.toList
  simp

theorem toList_isEmpty (s : ByteArray) : s.toList.isEmpty = s.data.isEmpty := by
  rw [ByteArray.toList_eq s]; simp

set_option maxHeartbeats 400000 in
theorem digit_any (c : Int) (w : World) (h0 : 0 ≤ c) (h1 : c ≤ 255) :
    Calls Tryd.prog 59 #[.int .u8 c] w fun e w' => e = .returned (.bool (digB c)) ∧ w = w' := by
  go_enter Tryd.func59, Tryd.ntmps59
  go_wp2
  all_goals go_ret
  all_goals exact ⟨ret_bool (by unfold digB; rw [Bool.eq_iff_iff]; simp; omega), rfl⟩

theorem eqb_of {a b : UInt8} (h : ((a.toNat : Int) == (b.toNat : Int)) = true) : a = b := by
  apply UInt8.toNat_inj.1; simp at h; omega
set_option maxHeartbeats 400000 in
theorem has_any (s : ByteArray) (c : UInt8) (w : World) (hs : s.size ≤ maxLen) :
    Calls Tryd.prog 60 #[.string s, .int .u8 c.toNat] w fun e w' => e = .returned (.bool (hasS s c)) ∧ w = w' := by
  unfold maxLen at hs
  go_enter Tryd.func60, Tryd.ntmps60
  go_wp2
  go_loop [5] (fun i => ∃ k : Nat, k ≤ s.size ∧ i = .int .i64 k ∧ Hid (∀ x ∈ s.data.toList.take k, ¬ x = c)) (fun i => s.size - (intOf i).toNat)
  case atStart => exact ⟨0, Nat.zero_le _, rfl, Lib.hid (by simp)⟩
  case round =>
    obtain ⟨k, hk, rfl, HP⟩ := hrel
    by_cases hlt : k < s.size
    · by_cases hc : s[k] = c
      · have HC := Lib.hid hc
        have hb : ((s[k].toNat : Int) == (c.toNat : Int)) = true := by simp [hc]
        clear hc
        go_wp2
        go_ret
        exact ⟨ret_bool (by unfold hasS; have := mem_at s k hlt; rw [HC.out] at this; symm; simpa using this), rfl⟩
      · have HC := Lib.hid hc
        have hb : ((s[k].toNat : Int) == (c.toNat : Int)) = false := by
          rw [Bool.eq_false_iff]; intro h; exact hc (eqb_of h)
        clear hc
        go_wp2
        go_round
        case rel => exact ⟨k + 1, by omega, by go_num, Lib.hid (by rw [take_snoc s k hlt]; intro x hx; rcases List.mem_append.1 hx with h | h; exact HP.out x h; simp at h; rw [h]; exact HC.out)⟩
        case measure => simp [intOf]; omega
    · go_wp2
      go_ret
      exact ⟨ret_bool (by have := HP.out; rw [take_all s k hk hlt] at this; unfold hasS; symm; rw [Bool.eq_false_iff]; intro h; exact this c (by simpa using h) rfl), rfl⟩

set_option maxRecDepth 100000 in
set_option maxHeartbeats 400000 in
theorem indexByteLite_any (s : ByteArray) (c : UInt8) (w : World) :
    Calls Tryd.prog 82 #[.string s, .int .u8 c.toNat] w fun e w' => e = .returned (.int .i64 (Lib.indexByte s.data.toList c)) ∧ w = w' := by
  go_enter Tryd.func82, Tryd.ntmps82
  go_wp2
  rw [run_callFunc_extern Tryd.func94 (by kernel_rfl) (by kernel_rfl) (by kernel_rfl) (e := Extern.BytealgIndexByte.indexByte) (by kernel_rfl), Lib.run_indexByteString]
  simp only [Result.andThen]
  rw [Oper.upon_value]
  go_wp2
  go_ret
  exact ⟨ret_int (by simp), rfl⟩

set_option maxHeartbeats 400000 in
theorem indexByte_any (s : ByteArray) (c : UInt8) (w : World) :
    Calls Tryd.prog 91 #[.string s, .int .u8 c.toNat] w fun e w' => e = .returned (.int .i64 (Lib.indexByte s.data.toList c)) ∧ w = w' := by
  go_enter Tryd.func91, Tryd.ntmps91
  go_wp2_with (go_at_call 82; refine (indexByteLite_any _ _ _).mono ?_; rintro e w' ⟨rfl, rfl⟩)
  go_ret
  exact ⟨rfl, rfl⟩

theorem indexByte_has (s : ByteArray) (c : UInt8) : decide (0 ≤ Lib.indexByte s.data.toList c) = hasS s c := by
  have hge := Lib.indexByte_ge s.data.toList c
  unfold hasS
  by_cases h : Lib.indexByte s.data.toList c = -1
  · have := Lib.indexByte_none h
    rw [h, Bool.eq_iff_iff]
    simp only [Int.reduceNeg, decide_eq_true_eq, List.contains_iff_mem]
    constructor
    · intro h; omega
    · intro hm; obtain ⟨k, hk⟩ := List.mem_iff_getElem?.1 hm; exact absurd hk (this k)
  · obtain ⟨o, ho⟩ : ∃ o : Nat, Lib.indexByte s.data.toList c = o := ⟨(Lib.indexByte s.data.toList c).toNat, by omega⟩
    have := (Lib.indexByte_some ho).1
    rw [ho, Bool.eq_iff_iff]
    simp only [decide_eq_true_eq, List.contains_iff_mem]
    exact ⟨fun _ => List.mem_of_getElem? this, fun _ => by omega⟩

set_option maxHeartbeats 400000 in
theorem isTokenByte_any (c : UInt8) (w : World) :
    Calls Tryd.prog 76 #[.int .u8 c.toNat] w fun e w' => e = .returned (.bool (tokB c)) ∧ w = w' := by
  have hi := indexByte_has marks c
  have HI := Lib.hid hi
  clear hi
  have b1 : (c.toNat : Int) ≤ 255 := by have := c.toNat_lt; omega
  go_enter Tryd.func76, Tryd.ntmps76
  go_wp2_with (first | (go_at_call 91; refine (indexByte_any marks _ _).mono ?_; rintro e w' ⟨rfl, rfl⟩) | (go_at_call 90; go_in))
  all_goals go_ret
  all_goals exact ⟨ret_bool (by
    unfold tokB
    rw [← HI.out]
    generalize Lib.indexByte marks.data.toList c = n
    rw [Bool.eq_iff_iff]
    simp [upB, loB, digB]
    omega), rfl⟩

theorem tokS_no {s : ByteArray} {k : Nat} (hlt : k < s.size) (hc : tokB s[k] = false) : false = tokS s := by
  unfold tokS
  have : s.data.toList.all tokB = false := by
    rw [Bool.eq_false_iff]; intro h
    have := List.all_eq_true.1 h _ (mem_at s k hlt); rw [hc] at this; cases this
  rw [this]; rfl

set_option maxHeartbeats 400000 in
theorem token_any (s : ByteArray) (w : World) (hs : s.size ≤ maxLen) :
    Calls Tryd.prog 58 #[.string s] w fun e w' => e = .returned (.bool (tokS s)) ∧ w = w' := by
  unfold maxLen at hs
  go_enter Tryd.func58, Tryd.ntmps58
  go_wp2
  go_loop [6] (fun i => ∃ k : Nat, k ≤ s.size ∧ i = .int .i64 k ∧ Hid ((s.data.toList.take k).all tokB = true)) (fun i => s.size - (intOf i).toNat)
  case atStart => exact ⟨0, Nat.zero_le _, rfl, Lib.hid (by simp)⟩
  case round =>
    obtain ⟨k, hk, rfl, HP⟩ := hrel
    by_cases hlt : k < s.size
    · by_cases hc : tokB s[k] = true
      · go_wp2_with (go_at_call 76; refine (isTokenByte_any _ _).mono ?_; rintro e w' ⟨rfl, rfl⟩)
        go_round
        case rel => exact ⟨k + 1, by omega, by go_num, Lib.hid (by rw [take_snoc s k hlt, List.all_append, HP.out]; simpa using hc)⟩
        case measure => simp [intOf]; omega
      · have hc' : tokB s[k] = false := by simpa using hc
        clear hc
        go_wp2_with (go_at_call 76; refine (isTokenByte_any _ _).mono ?_; rintro e w' ⟨rfl, rfl⟩)
        go_ret
        exact ⟨ret_bool (tokS_no hlt hc'), rfl⟩
    · go_wp2
      go_ret
      exact ⟨ret_bool (by have := HP.out; rw [take_all s k hk hlt] at this; unfold tokS; rw [this]; simp [toList_isEmpty]), rfl⟩

set_option maxHeartbeats 400000 in
theorem refToken_any (s : ByteArray) (w : World) (hs : s.size ≤ maxLen) :
    Calls Tryd.prog 51 #[.string s] w fun e w' => e = .returned (.bool (tokS s)) ∧ w = w' := by
  unfold maxLen at hs
  go_enter Tryd.func51, Tryd.ntmps51
  go_wp2
  go_loop [3] (fun i => ∃ k : Nat, k ≤ s.size ∧ i = .int .i64 k ∧ Hid ((s.data.toList.take k).all tokB = true)) (fun i => s.size - (intOf i).toNat)
  case atStart => exact ⟨0, Nat.zero_le _, rfl, Lib.hid (by simp)⟩
  case round =>
    obtain ⟨k, hk, rfl, HP⟩ := hrel
    by_cases hlt : k < s.size
    · have b1 : (s[k].toNat : Int) ≤ 255 := by have := s[k].toNat_lt; omega
      by_cases hd : digB (s[k].toNat : Int) = true <;> by_cases hh : hasS marks s[k] = true <;> try simp only [Bool.not_eq_true] at hd hh
      all_goals go_wp2_with (first | (go_at_call 60; refine (has_any marks _ _ (by decide)).mono ?_; rintro e w' ⟨rfl, rfl⟩) | (go_at_call 59; refine (digit_any _ _ (by omega) (by omega)).mono ?_; rintro e w' ⟨rfl, rfl⟩))
      all_goals first
        | (go_round
           case rel => exact ⟨k + 1, by omega, by go_num, Lib.hid (by rw [take_snoc s k hlt, List.all_append, HP.out]; first | (simp [tokB, upB, loB, hd, hh]; done) | (simp [tokB, upB, loB, hd, hh]; omega) | (exfalso; rename_i hx; simp at hx; omega))⟩
           case measure => simp [intOf]; omega)
        | (go_ret
           exact ⟨ret_bool (tokS_no hlt (by simp [tokB, upB, loB, hd, hh]; try omega)), rfl⟩)
    · go_wp2
      go_ret
      exact ⟨ret_bool (by have := HP.out; rw [take_all s k hk hlt] at this; unfold tokS; rw [this]; simp [toList_isEmpty]), rfl⟩
end Go.Proofs.YtbplpfcgmmflnaaDoor
namespace Go.Proofs.YtbplpfcgmmflnaaDoor
open Go.RowKit

/-- From block B on, a row of bytes l that may be written. -/
def BytesAt (w : World) (B : Nat) (l : List UInt8) : Prop :=
  ∀ j (hj : j < l.length), w.cell? ⟨B, j, none⟩ = some (.int .u8 (l[j].toNat : Int)) ∧ w.frozen? ⟨B, j, none⟩ = false

theorem BytesAt.set {w : World} {B : Nat} {l : List UInt8} (h : BytesAt w B l) {k : Nat} (hk : k < l.length) (c : UInt8) :
    BytesAt (w.setCell ⟨B, k, none⟩ (.int .u8 (c.toNat : Int))) B (l.set k c) := by
  intro j hj
  have hj' : j < l.length := by simpa using hj
  obtain ⟨h1, h2⟩ := h j hj'
  obtain ⟨k1, _⟩ := h k hk
  constructor
  · by_cases e : k = j
    · subst e
      rw [World.cell?_setCell_same _ _ _ k1]; simp
    · rw [World.cell?_setCell_other _ _ _ _ (by intro hh; apply e; cases hh; rfl)]
      rw [h1, List.getElem_set_ne e]
  · rw [← h2]; exact World.frozen?_setCell ..

end Go.Proofs.YtbplpfcgmmflnaaDoor
namespace Go.Proofs.YtbplpfcgmmflnaaDoor
open Go

/-- The blanks: 32 and 9. -/
def blanks : List UInt8 := [32, 9]
def blankB (c : UInt8) : Bool := blanks.contains c
def rdrop (p : UInt8 → Bool) (l : List UInt8) : List UInt8 := (l.reverse.dropWhile p).reverse

theorem rdrop_cons (p : UInt8 → Bool) (a : UInt8) (t : List UInt8) : rdrop p (a :: t) = if (rdrop p t).isEmpty then [a].dropWhile p else a :: rdrop p t := by
  unfold rdrop
  rw [List.reverse_cons, List.dropWhile_append]
  have : (t.reverse.dropWhile p).reverse.isEmpty = (t.reverse.dropWhile p).isEmpty := by simp
  rw [this]
  split
  · cases h : p a <;> simp [List.dropWhile, h]
  · simp
theorem rdrop_empty (p : UInt8 → Bool) : ∀ t : List UInt8, (rdrop p t).isEmpty = t.all p
  | [] => rfl
  | a :: t => by
    rw [rdrop_cons, List.all_cons, rdrop_empty p t]
    cases ht : t.all p <;> cases h : p a <;> simp [List.dropWhile, h]
theorem dropWhile_all (p : UInt8 → Bool) : ∀ t : List UInt8, t.all p = true → t.dropWhile p = []
  | [], _ => rfl
  | a :: t, h => by
    rw [List.all_cons, Bool.and_eq_true] at h
    rw [List.dropWhile_cons, if_pos h.1]; exact dropWhile_all p t h.2

theorem trim_comm (p : UInt8 → Bool) : ∀ l : List UInt8, (rdrop p l).dropWhile p = rdrop p (l.dropWhile p)
  | [] => rfl
  | a :: t => by
    cases h : p a
    · have e : (a :: t).dropWhile p = a :: t := by rw [List.dropWhile_cons, if_neg (by simp [h])]
      rw [e, rdrop_cons]
      split
      · simp [List.dropWhile, h]
      · rw [List.dropWhile_cons, if_neg (by simp [h])]
    · have e : (a :: t).dropWhile p = t.dropWhile p := by rw [List.dropWhile_cons, if_pos h]
      rw [e, rdrop_cons, rdrop_empty]
      split
      · rename_i ht
        rw [dropWhile_all p t ht]; simp [List.dropWhile, h, rdrop]
      · rw [List.dropWhile_cons, if_pos h]; exact trim_comm p t

theorem dropWhile_idem (p : UInt8 → Bool) : ∀ l : List UInt8, (l.dropWhile p).dropWhile p = l.dropWhile p
  | [] => rfl
  | a :: t => by
    cases h : p a
    · rw [List.dropWhile_cons, if_neg (by simp [h]), List.dropWhile_cons, if_neg (by simp [h])]
    · rw [List.dropWhile_cons, if_pos h]; exact dropWhile_idem p t
theorem rdrop_idem (p : UInt8 → Bool) (l : List UInt8) : rdrop p (rdrop p l) = rdrop p l := by
  unfold rdrop; rw [List.reverse_reverse, dropWhile_idem]

/-- Trim: the blanks of both ends are cut off. -/
def trimL (l : List UInt8) : List UInt8 := (rdrop blankB l).dropWhile blankB
theorem trimL_idem (l : List UInt8) : trimL (trimL l) = trimL l := by
  unfold trimL
  rw [trim_comm, dropWhile_idem, ← trim_comm, rdrop_idem]
theorem length_dropWhile (p : UInt8 → Bool) : ∀ l : List UInt8, (l.dropWhile p).length ≤ l.length
  | [] => Nat.le_refl _
  | a :: t => by
    rw [List.dropWhile_cons]; split
    · have := length_dropWhile p t; simp; omega
    · exact Nat.le_refl _
theorem trimL_length (l : List UInt8) : (trimL l).length ≤ l.length := by
  unfold trimL
  have h1 := length_dropWhile blankB (rdrop blankB l)
  have h2 : (rdrop blankB l).length ≤ l.length := by
    unfold rdrop; rw [List.length_reverse]; have := length_dropWhile blankB l.reverse; simpa using this
  omega
def trimBA (s : ByteArray) : ByteArray := ⟨(trimL s.data.toList).toArray⟩
theorem trimBA_list (s : ByteArray) : (trimBA s).data.toList = trimL s.data.toList := by simp [trimBA]
theorem trimBA_size (s : ByteArray) : (trimBA s).size ≤ s.size := by
  have := trimL_length s.data.toList
  have h1 : (trimBA s).size = (trimL s.data.toList).length := by show (trimBA s).data.size = _; simp [trimBA]
  have h2 : s.size = s.data.toList.length := by simp
  omega
theorem ba_ext {a b : ByteArray} (h : a.data.toList = b.data.toList) : a = b := by
  cases a; cases b; simp at h; simp [h]
theorem trimBA_idem (s : ByteArray) : trimBA (trimBA s) = trimBA s := ba_ext (by rw [trimBA_list, trimBA_list, trimL_idem])

/-- One step of the loop from the front, and its end. -/
theorem drop_step (t : ByteArray) (h : 0 < t.size) (hb : blankB t[0] = true) : (t.extract 1 t.size).data.toList.dropWhile blankB = t.data.toList.dropWhile blankB := by
  rw [Lib.extract_to_end]
  have e : t.data.toList = t[0] :: t.data.toList.drop 1 := by
    have : 0 < t.data.toList.length := by simpa using h
    rw [← List.drop_zero (l := t.data.toList), List.drop_eq_getElem_cons this]; simp; rfl
  conv => rhs; rw [e]
  rw [List.dropWhile_cons, if_pos hb]
theorem drop_end (t : ByteArray) (hb : ∀ h : 0 < t.size, blankB t[0] = false) : t.data.toList.dropWhile blankB = t.data.toList := by
  by_cases h : 0 < t.size
  · have e : t.data.toList = t[0] :: t.data.toList.drop 1 := by
      have : 0 < t.data.toList.length := by simpa using h
      rw [← List.drop_zero (l := t.data.toList), List.drop_eq_getElem_cons this]; simp; rfl
    rw [e, List.dropWhile_cons, if_neg (by simp [hb h])]
  · have : t.data.toList = [] := by apply List.eq_nil_of_length_eq_zero; have hl : t.data.toList.length = t.size := by simp
                                    omega
    rw [this]; rfl
theorem back_eq (t : ByteArray) (h : 0 < t.size) : t.data.toList = t.data.toList.take (t.size - 1) ++ [t[t.size - 1]] := by
  have h1 : t.size - 1 < t.data.toList.length := by simp; omega
  have : t.data.toList.take (t.size - 1 + 1) = t.data.toList := by rw [List.take_of_length_le]; simp; omega
  rw [List.take_succ_eq_append_getElem h1] at this
  exact this.symm
theorem rdrop_step (t : ByteArray) (h : 0 < t.size) (hb : blankB t[t.size - 1] = true) : rdrop blankB (t.extract 0 (t.size - 1)).data.toList = rdrop blankB t.data.toList := by
  rw [Lib.extract_from_zero]
  conv => rhs; rw [back_eq t h]
  unfold rdrop
  rw [List.reverse_append]; simp only [List.reverse_cons, List.reverse_nil, List.nil_append, List.cons_append]
  rw [List.dropWhile_cons, if_pos hb]
theorem rdrop_end (t : ByteArray) (hb : ∀ h : 0 < t.size, blankB t[t.size - 1] = false) : rdrop blankB t.data.toList = t.data.toList := by
  by_cases h : 0 < t.size
  · conv => lhs; rw [back_eq t h]
    unfold rdrop
    rw [List.reverse_append]; simp only [List.reverse_cons, List.reverse_nil, List.nil_append, List.cons_append]
    rw [List.dropWhile_cons, if_neg (by simp [hb h])]
    rw [List.reverse_cons, List.reverse_reverse]; exact (back_eq t h).symm
  · have : t.data.toList = [] := by apply List.eq_nil_of_length_eq_zero; have hl : t.data.toList.length = t.size := by simp
                                    omega
    rw [this]; rfl
end Go.Proofs.YtbplpfcgmmflnaaDoor
namespace Go.Proofs.YtbplpfcgmmflnaaDoor
open Go.RowKit

theorem lt_cell {w : World} {a : Addr} {v : Value} (h : w.cell? a = some v) : a.block < w.heap.size := by
  rcases Nat.lt_or_ge a.block w.heap.size with h' | h'
  · exact h'
  · simp [World.cell?, Array.getElem?_eq_none h'] at h
theorem below_trans {w w1 w2 : World} (h : Below w.heap.size w w1) (k : Below w1.heap.size w1 w2) : Below w.heap.size w w2 := h.trans (k.mono h.size)
theorem below_cell {w w' : World} (h : Below w.heap.size w w') {a : Addr} {v : Value} (hc : w.cell? a = some v) : w'.cell? a = some v := by
  rw [h.cell (lt_cell hc)]; exact hc

/-- The slice at a holds the strings l. -/
def StrsAt (w : World) (a : Option Addr) (l : List ByteArray) : Prop :=
  ∀ j (hj : j < l.length), ∃ b off, a = some ⟨b, off, none⟩ ∧ w.cell? ⟨b, off + j, none⟩ = some (.string l[j])
theorem StrsAt.keep {w w' : World} {a : Option Addr} {l : List ByteArray} (h : StrsAt w a l) (hb : Below w.heap.size w w') : StrsAt w' a l := fun j hj => by
  obtain ⟨b, off, e, hc⟩ := h j hj
  exact ⟨b, off, e, below_cell hb hc⟩
theorem StrsAt.nil (w : World) (a : Option Addr) : StrsAt w a [] := fun _ hj => absurd hj (Nat.not_lt_zero _)

/-- The same, and the slice is new and not nil. -/
def RetFresh (w : World) (l : List ByteArray) (e : Ending) (w' : World) : Prop :=
  ∃ g cap, e = .returned (.slice (some ⟨g, 0, none⟩) l.length cap) ∧ w.heap.size ≤ g ∧ g < w'.heap.size ∧ StrsAt w' (some ⟨g, 0, none⟩) l ∧ Below w.heap.size w w'

theorem Tryd.info9 : (Tryd.prog.info? 9).map (fun i => (i.zero, i.size, i.bytes)) = some (some (.string ⟨#[]⟩), 1, 16) := by kernel_rfl

/-- v is a slice of the call's own with the strings l; what was there before the call is as it was. -/
def Acc (w0 w : World) (v : Value) (l : List ByteArray) : Prop :=
  w.ownsRow w0.heap.size 9 1 v l.length (l.map Value.string) ∧ Below w0.heap.size w0 w
/-- Beside v lies the slice P of the strings parts. -/
def Aside (w : World) (v : Value) (P : Nat) (parts : List ByteArray) : Prop :=
  StrsAt w (some ⟨P, 0, none⟩) parts ∧ v.ownBlock ≠ some P ∧ P < w.heap.size

theorem Acc.start (w : World) : Acc w w (.slice none 0 0) [] := ⟨World.ownsRow_nil _ _ _ _, Below.refl _ _⟩
theorem Acc.size {w0 w : World} {v : Value} {l : List ByteArray} (h : Acc w0 w v l) : w0.heap.size ≤ w.heap.size := h.2.size
theorem ownsRow_keep {w w' : World} {base : Nat} {e : TypeId} {size n : Nat} {v : Value} {xs : List Value} (h : w.ownsRow base e size v n xs) (hb : Below w.heap.size w w') : w'.ownsRow base e size v n xs := by
  obtain ⟨h1, h2⟩ := h
  refine ⟨h1, ?_⟩
  rcases h2 with h2 | ⟨g, cap, cur, hv, hg, hc, r⟩
  · exact .inl h2
  · have hlt : g < w.heap.size := by
      rcases Nat.lt_or_ge g w.heap.size with h' | h'
      · exact h'
      · rw [Array.getElem?_eq_none h'] at hc; cases hc
    exact .inr ⟨g, cap, cur, hv, hg, by rw [hb.block g hlt]; exact hc, r⟩
theorem Acc.keep {w0 w w' : World} {v : Value} {l : List ByteArray} (h : Acc w0 w v l) (hb : Below w.heap.size w w') : Acc w0 w' v l :=
  ⟨ownsRow_keep h.1 hb, h.2.trans (hb.mono h.2.size)⟩
theorem Aside.keep {w w' : World} {v : Value} {P : Nat} {parts : List ByteArray} (h : Aside w v P parts) (hb : Below w.heap.size w w') : Aside w' v P parts :=
  ⟨h.1.keep hb, h.2.1, Nat.lt_of_lt_of_le h.2.2 hb.size⟩
theorem Acc.lt {w0 w : World} {v : Value} {l : List ByteArray} (h : Acc w0 w v l) {k : Nat} (hk : v.ownBlock = some k) : k < w.heap.size := (World.ownsRow.lt h.1 k hk).2
/-- The shape of v. -/
theorem Acc.shape {w0 w : World} {v : Value} {l : List ByteArray} (h : Acc w0 w v l) : ∃ a cap, v = .slice a l.length cap ∧ StrsAt w a l := by
  obtain ⟨⟨h1, h2⟩, _⟩ := h
  rcases h2 with ⟨rfl, h2⟩ | ⟨g, cap, cur, rfl, hg, hc, hcap, hm, hsz, ht⟩
  · have : l = [] := List.eq_nil_of_length_eq_zero h2
    subst this
    exact ⟨none, 0, rfl, StrsAt.nil _ _⟩
  · refine ⟨_, cap, rfl, fun j hj => ⟨g, 0, rfl, ?_⟩⟩
    have e : cur.toList[j]? = some (Value.string l[j]) := by
      have := congrArg (fun x => x[j]?) ht
      simp only [Nat.mul_one] at this
      rw [List.getElem?_take_of_lt hj, List.getElem?_map, List.getElem?_eq_getElem hj] at this
      exact this
    simp only [World.cell?, hc, Nat.zero_add]
    simpa using e

theorem Acc.isNew {w0 w : World} {v : Value} {l : List ByteArray} (h : Acc w0 w v l) (hne : l ≠ []) : ∃ g cap, v = .slice (some ⟨g, 0, none⟩) l.length cap ∧ w0.heap.size ≤ g ∧ g < w.heap.size ∧ StrsAt w (some ⟨g, 0, none⟩) l := by
  obtain ⟨a, cap, hv, hs⟩ := h.shape
  have hpos : 0 < l.length := by cases l with
    | nil => exact absurd rfl hne
    | cons _ _ => simp
  obtain ⟨⟨h1, h2⟩, hb⟩ := h
  rcases h2 with ⟨_, h2⟩ | ⟨g, cap', cur, hv', hg, hc, _⟩
  · omega
  · rw [hv] at hv'; cases hv'
    have hlt : g < w.heap.size := by
      rcases Nat.lt_or_ge g w.heap.size with h' | h'
      · exact h'
      · rw [Array.getElem?_eq_none h'] at hc; cases hc
    exact ⟨g, cap, hv, hg, hlt, hs⟩

section
variable {ops : Array Oper} {rest : List Oper} {o : Oper} {act : Act} {Q : Exit → Act → World → Prop}
/-- APPEND of one string to a slice of the call's own. -/
theorem wpList_append_acc (w : World) (hgd : o.guard = none) (s x : Operand) (ho : o.op = .call { callee := .builtin .append, args := #[s, x], argTypes := #[51, 51] })
    {w0 : World} {v : Value} {l : List ByteArray} (hs : act.eval s = v) (h : Acc w0 w v l) {b c : Nat} (hx : act.eval x = .slice (some ⟨b, 0, none⟩) 1 c) {y : ByteArray} (hy : w.cell? ⟨b, 0, none⟩ = some (.string y))
    (hn : l.length + 1 ≤ 8796093022208)
    (K : ∀ g cap w', Acc w0 w' (.slice (some ⟨g, 0, none⟩) (l.length + 1) cap) (l ++ [y]) → (∀ P parts, Aside w v P parts → Aside w' (.slice (some ⟨g, 0, none⟩) (l.length + 1) cap) P parts) →
      wpList Tryd.prog ops Q rest (act.put o.dst (.slice (some ⟨g, 0, none⟩) (l.length + 1) cap)) w') : wpList Tryd.prog ops Q (o :: rest) act w := by
  obtain ⟨i0, hi, hz0, hz1, hz2⟩ := info_parts Tryd.info9
  refine wpList_append_lies w hgd s x 51 ho w0.heap.size 9 i0 (.string ⟨#[]⟩) 1 16 Tryd.underlying51 hi hz0 hz1 hz2 rfl (by decide) v l.length (l.map Value.string) hs h.1 ⟨b, 0, none⟩ 1 c [.string y] hx rfl ?_ ?_ (by decide) (by unfold maxLen; omega) (by omega) h.2.size w.heap.size rfl ?_
  · intro j u hj
    match j, hj with
    | 0, hj => simp at hj; subst hj; rw [Addr.add_lit]; exact hy
    | j + 1, hj => simp at hj
  · intro u hu; simp at hu; subst hu; rfl
  · intro g cap w' hown hgrow hg hlt
    have hacc : Acc w0 w' (.slice (some ⟨g, 0, none⟩) (l.length + 1) cap) (l ++ [y]) := by
      refine ⟨by simpa using hown, h.2.grown hgrow h.2.size fun k hk => ?_⟩
      exact (World.ownsRow.lt h.1 k hk).1
    refine K g cap w' hacc (fun P parts hP => ⟨fun j hj => ?_, ?_, ?_⟩)
    · obtain ⟨b', off, e, hc⟩ := hP.1 j hj
      cases e
      exact ⟨P, 0, rfl, hgrow.cell hc (fun e => hP.2.1 e.symm)⟩
    · intro e
      have : g = P := by simpa [Value.ownBlock] using e
      subst this
      rcases hg with hg | hg
      · exact hP.2.1 hg
      · have := hP.2.2; omega
    · exact Nat.lt_of_lt_of_le hP.2.2 hgrow.size
end
end Go.Proofs.YtbplpfcgmmflnaaDoor
namespace Go.Proofs
open Go.Shelf
def Tryd.lays160_ren : Go.Shelf.Ren := ⟨fun | 160 => 57 | 232 => 70 | 231 => 69 | 227 => 71 | 234 => 73 | 233 => 72 | 236 => 75 | 235 => 74 | 228 => 86 | 271 => 89 | 151 => 88 | 197 => 87 | 120 => 98 | 152 => 97 | 260 => 96 | 137 => 91 | 119 => 99 | 224 => 84 | 225 => 83 | 217 => 82 | 266 => 94 | n => n, fun | 9 => 9 | 4 => 4 | 3 => 3 | 5 => 5 | 117 => 95 | 116 => 94 | 0 => 0 | 124 => 98 | 21 => 21 | 105 => 106 | 46 => 52 | 119 => 115 | 139 => 118 | 138 => 117 | n => n, fun | 3 => 4 | 4 => 5 | n => n⟩
theorem Tryd.lays160 : Go.Proofs.Lays.n160 Tryd.prog Tryd.lays160_ren := {
  mixed := by kernel_rfl
  f119 := Tryd.func99.trans (congrArg some (by kernel_rfl))
  f120 := Tryd.func98.trans (congrArg some (by kernel_rfl))
  f137 := Tryd.func91.trans (congrArg some (by kernel_rfl))
  f151 := Tryd.func88.trans (congrArg some (by kernel_rfl))
  f152 := Tryd.func97.trans (congrArg some (by kernel_rfl))
  f160 := Tryd.func57.trans (congrArg some (by kernel_rfl))
  f197 := Tryd.func87.trans (congrArg some (by kernel_rfl))
  f217 := Tryd.func82.trans (congrArg some (by kernel_rfl))
  f224 := Tryd.func84.trans (congrArg some (by kernel_rfl))
  f225 := Tryd.func83.trans (congrArg some (by kernel_rfl))
  f227 := Tryd.func71.trans (congrArg some (by kernel_rfl))
  f228 := Tryd.func86.trans (congrArg some (by kernel_rfl))
  f231 := Tryd.func69.trans (congrArg some (by kernel_rfl))
  f232 := Tryd.func70.trans (congrArg some (by kernel_rfl))
  f233 := Tryd.func72.trans (congrArg some (by kernel_rfl))
  f234 := Tryd.func73.trans (congrArg some (by kernel_rfl))
  f235 := Tryd.func74.trans (congrArg some (by kernel_rfl))
  f236 := Tryd.func75.trans (congrArg some (by kernel_rfl))
  f260 := Tryd.func96.trans (congrArg some (by kernel_rfl))
  f266 := Tryd.func94.trans (congrArg some (by kernel_rfl))
  f271 := Tryd.func89.trans (congrArg some (by kernel_rfl))
  t0 := Tryd.underlying0
  a0 := Tryd.isAgg0
  z0 := Tryd.sizeOf0
  v0 := Tryd.zeroValue0
  t3 := Tryd.underlying3
  a3 := Tryd.isAgg3
  z3 := Tryd.sizeOf3
  v3 := Tryd.zeroValue3
  t4 := Tryd.underlying4
  a4 := Tryd.isAgg4
  z4 := Tryd.sizeOf4
  v4 := Tryd.zeroValue4
  t5 := Tryd.underlying5
  a5 := Tryd.isAgg5
  z5 := Tryd.sizeOf5
  v5 := Tryd.zeroValue5
  t9 := Tryd.underlying9
  a9 := Tryd.isAgg9
  z9 := Tryd.sizeOf9
  v9 := Tryd.zeroValue9
  t21 := Tryd.underlying21
  a21 := Tryd.isAgg21
  z21 := Tryd.sizeOf21
  v21 := Tryd.zeroValue21
  t46 := Tryd.underlying52
  a46 := Tryd.isAgg52
  z46 := Tryd.sizeOf52
  v46 := Tryd.zeroValue52
  t105 := Tryd.underlying106
  a105 := Tryd.isAgg106
  z105 := Tryd.sizeOf106
  v105 := Tryd.zeroValue106
  t116 := Tryd.underlying94
  a116 := Tryd.isAgg94
  z116 := Tryd.sizeOf94
  t117 := Tryd.underlying95
  a117 := Tryd.isAgg95
  z117 := Tryd.sizeOf95
  v117 := Tryd.zeroValue95
  t119 := Tryd.underlying115
  a119 := Tryd.isAgg115
  z119 := Tryd.sizeOf115
  t124 := Tryd.underlying98
  a124 := Tryd.isAgg98
  z124 := Tryd.sizeOf98
  v124 := Tryd.zeroValue98
  t138 := Tryd.underlying117
  a138 := Tryd.isAgg117
  z138 := Tryd.sizeOf117
  v138 := Tryd.zeroValue117
  t139 := Tryd.underlying118
  a139 := Tryd.isAgg118
  z139 := Tryd.sizeOf118
  v139 := Tryd.zeroValue118
  g3 := by kernel_rfl
  g4 := by kernel_rfl }
def Tryd.laysM173_ren : Go.Shelf.Ren := ⟨fun | 173 => 43 | 246 => 53 | 283 => 61 | 284 => 62 | 285 => 63 | 286 => 64 | 129 => 78 | 317 => 77 | 318 => 79 | 319 => 80 | 320 => 81 | 337 => 92 | 338 => 93 | n => n, fun | 2 => 2 | 3 => 3 | 9 => 9 | 4 => 4 | 171 => 83 | 0 => 0 | 53 => 84 | 37 => 23 | 5 => 5 | 173 => 87 | 212 => 100 | 51 => 101 | 20 => 20 | 213 => 102 | 46 => 52 | 232 => 113 | 233 => 114 | n => n, fun | 17 => 0 | 18 => 2 | 19 => 3 | n => n⟩
theorem Tryd.laysM173 : Go.Proofs.LaysM.n173 Tryd.prog Tryd.laysM173_ren := {
  mixed := by kernel_rfl
  f129 := Tryd.func78.trans (congrArg some (by kernel_rfl))
  f173 := Tryd.func43.trans (congrArg some (by kernel_rfl))
  f246 := Tryd.func53.trans (congrArg some (by kernel_rfl))
  f283 := Tryd.func61.trans (congrArg some (by kernel_rfl))
  f284 := Tryd.func62.trans (congrArg some (by kernel_rfl))
  f285 := Tryd.func63.trans (congrArg some (by kernel_rfl))
  f286 := Tryd.func64.trans (congrArg some (by kernel_rfl))
  f317 := Tryd.func77.trans (congrArg some (by kernel_rfl))
  f318 := Tryd.func79.trans (congrArg some (by kernel_rfl))
  f319 := Tryd.func80.trans (congrArg some (by kernel_rfl))
  f320 := Tryd.func81.trans (congrArg some (by kernel_rfl))
  f337 := Tryd.func92.trans (congrArg some (by kernel_rfl))
  f338 := Tryd.func93.trans (congrArg some (by kernel_rfl))
  t0 := Tryd.underlying0
  a0 := Tryd.isAgg0
  z0 := Tryd.sizeOf0
  v0 := Tryd.zeroValue0
  t2 := Tryd.underlying2
  a2 := Tryd.isAgg2
  z2 := Tryd.sizeOf2
  v2 := Tryd.zeroValue2
  t3 := Tryd.underlying3
  a3 := Tryd.isAgg3
  z3 := Tryd.sizeOf3
  v3 := Tryd.zeroValue3
  t4 := Tryd.underlying4
  a4 := Tryd.isAgg4
  z4 := Tryd.sizeOf4
  v4 := Tryd.zeroValue4
  t5 := Tryd.underlying5
  a5 := Tryd.isAgg5
  z5 := Tryd.sizeOf5
  v5 := Tryd.zeroValue5
  t9 := Tryd.underlying9
  a9 := Tryd.isAgg9
  z9 := Tryd.sizeOf9
  v9 := Tryd.zeroValue9
  t20 := Tryd.underlying20
  a20 := Tryd.isAgg20
  z20 := Tryd.sizeOf20
  v20 := Tryd.zeroValue20
  t37 := Tryd.underlying23
  a37 := Tryd.isAgg23
  z37 := Tryd.sizeOf23
  v37 := Tryd.zeroValue23
  t46 := Tryd.underlying52
  a46 := Tryd.isAgg52
  z46 := Tryd.sizeOf52
  v46 := Tryd.zeroValue52
  t51 := Tryd.underlying101
  a51 := Tryd.isAgg101
  z51 := Tryd.sizeOf101
  v51 := Tryd.zeroValue101
  t53 := Tryd.underlying84
  a53 := Tryd.isAgg84
  z53 := Tryd.sizeOf84
  v53 := Tryd.zeroValue84
  t171 := Tryd.underlying83
  a171 := Tryd.isAgg83
  z171 := Tryd.sizeOf83
  v171 := Tryd.zeroValue83
  t173 := Tryd.underlying87
  a173 := Tryd.isAgg87
  z173 := Tryd.sizeOf87
  v173 := Tryd.zeroValue87
  t212 := Tryd.underlying100
  a212 := Tryd.isAgg100
  z212 := Tryd.sizeOf100
  v212 := Tryd.zeroValue100
  t213 := Tryd.underlying102
  a213 := Tryd.isAgg102
  z213 := Tryd.sizeOf102
  t232 := Tryd.underlying113
  a232 := Tryd.isAgg113
  z232 := Tryd.sizeOf113
  v232 := Tryd.zeroValue113
  t233 := Tryd.underlying114
  a233 := Tryd.isAgg114
  z233 := Tryd.sizeOf114
  v233 := Tryd.zeroValue114
  g17 := by kernel_rfl
  g18 := by kernel_rfl
  g19 := by kernel_rfl
  i0 := by kernel_rfl
  i2 := by kernel_rfl
  i3 := by kernel_rfl
  i4 := by kernel_rfl
  i5 := by kernel_rfl
  i9 := by kernel_rfl
  i20 := by kernel_rfl
  i37 := by kernel_rfl
  i46 := by kernel_rfl
  i51 := by kernel_rfl
  i53 := by kernel_rfl
  i171 := by kernel_rfl
  i173 := by kernel_rfl
  i212 := by kernel_rfl
  i232 := by kernel_rfl
  i233 := by kernel_rfl
  m17 := by kernel_rfl
  m18 := by kernel_rfl
  m19 := by kernel_rfl }
end Go.Proofs
namespace Go.Proofs.YtbplpfcgmmflnaaDoor
open Go.RowKit

theorem trimLib_any (s : ByteArray) (w : World) (hs : s.size ≤ maxLen) :
    Calls Tryd.prog 57 #[.string s, .string ⟨#[32, 9]⟩] w fun e w' => e = .returned (.string (trimBA s)) ∧ Below w.heap.size w w' :=
  (Any.strings_Trim_laid Tryd.lays160 (by kernel_rfl) s ⟨#[32, 9]⟩ w hs (by decide) (ascii_of_all (by decide))).mono fun _ _ ⟨he, hw⟩ => ⟨he, hw⟩

set_option maxHeartbeats 400000 in
theorem trim_any (s : ByteArray) (w : World) (hs : s.size ≤ maxLen) :
    Calls Tryd.prog 47 #[.string s] w fun e w' => e = .returned (.string (trimBA s)) ∧ Below w.heap.size w w' := by
  go_enter Tryd.func47, Tryd.ntmps47
  go_wp2_with fail
  refine (trimLib_any s _ hs).mono ?_
  rintro e w1 ⟨rfl, hb1⟩
  go_wp2_with fail
  go_ret
  exact ⟨rfl, hb1⟩

set_option maxHeartbeats 400000 in
theorem blank_any (c : UInt8) (w : World) :
    Calls Tryd.prog 50 #[.int .u8 c.toNat] w fun e w' => e = .returned (.bool (blankB c)) ∧ w = w' := by
  have h0 : blankB c = (((c.toNat : Int) == 32) || ((c.toNat : Int) == 9)) := by
    unfold blankB blanks
    rw [Bool.eq_iff_iff]
    simp only [List.contains_cons, List.contains_nil, Bool.or_false, Bool.or_eq_true, beq_iff_eq, ← UInt8.toNat_inj]
    have h1 : (32 : UInt8).toNat = 32 := rfl
    have h2 : (9 : UInt8).toNat = 9 := rfl
    omega
  have H0 := Lib.hid h0
  clear h0
  go_enter Tryd.func50, Tryd.ntmps50
  go_wp2
  all_goals go_ret
  all_goals exact ⟨ret_bool (by rw [H0.out]; try simp [*]), rfl⟩

def strLen : Value → Nat | .string s => s.size | _ => 0

set_option maxHeartbeats 800000 in
theorem refTrim_any (s : ByteArray) (w : World) (hs : s.size ≤ maxLen) :
    Calls Tryd.prog 41 #[.string s] w fun e w' => e = .returned (.string (trimBA s)) ∧ w = w' := by
  unfold maxLen at hs
  go_enter Tryd.func41, Tryd.ntmps41
  go_wp2
  go_loop [0] (fun v => ∃ t : ByteArray, v = .string t ∧ t.size ≤ s.size ∧ Hid (t.data.toList.dropWhile blankB = s.data.toList.dropWhile blankB)) (fun v => strLen v)
  case atStart => exact ⟨s, rfl, Nat.le_refl _, Lib.hid rfl⟩
  case round =>
    obtain ⟨t, rfl, hts, HT⟩ := hrel
    by_cases hgo : ∃ h : 0 < t.size, blankB t[0] = true
    · obtain ⟨hlt, hb⟩ := hgo
      have HB := Lib.hid hb
      have hsz : (t.extract 1 t.size).size = t.size - 1 := by simp
      have HS := Lib.hid hsz
      clear hsz
      go_wp2_with (go_at_call 50; refine (blank_any _ _).mono ?_; rintro e w' ⟨rfl, rfl⟩)
      go_round
      case rel => exact ⟨_, rfl, by rw [HS.out]; omega, Lib.hid (by rw [drop_step t hlt HB.out]; exact HT.out)⟩
      case measure => simp only [strLen]; rw [HS.out]; omega
    · have hE : t.data.toList = s.data.toList.dropWhile blankB := by
        rw [← HT.out]; symm; apply drop_end
        intro h; by_cases hb : blankB t[0] = true
        · exact absurd ⟨h, hb⟩ hgo
        · simpa using hb
      have HE := Lib.hid hE
      clear hE HT
      have hcase : ¬ 0 < t.size ∨ ∃ h : 0 < t.size, blankB t[0] = false := by
        by_cases h : 0 < t.size
        · right; exact ⟨h, by by_cases hb : blankB t[0] = true; exact absurd ⟨h, hb⟩ hgo; simpa using hb⟩
        · left; exact h
      clear hgo
      rcases hcase with hz | ⟨hlt, hb⟩
      all_goals
        go_wp2_with (go_at_call 50; refine (blank_any _ _).mono ?_; rintro e w' ⟨rfl, rfl⟩)
        go_loop [0] (fun v => ∃ t' : ByteArray, v = .string t' ∧ t'.size ≤ s.size ∧ Hid (rdrop blankB t'.data.toList = rdrop blankB t.data.toList)) (fun v => strLen v)
        case atStart => exact ⟨t, rfl, hts, Lib.hid rfl⟩
        case round =>
          obtain ⟨t', rfl, hts', HT'⟩ := hrel
          by_cases hgo : ∃ h : 0 < t'.size, blankB t'[t'.size - 1] = true
          · obtain ⟨hlt', hb'⟩ := hgo
            have HB' := Lib.hid hb'
            have hsz : (t'.extract 0 (t'.size - 1)).size = t'.size - 1 := by simp
            have HS := Lib.hid hsz
            clear hsz
            go_wp2_with (go_at_call 50; refine (blank_any _ _).mono ?_; rintro e w' ⟨rfl, rfl⟩)
            go_round
            case rel => exact ⟨_, rfl, by rw [HS.out]; omega, Lib.hid (by rw [rdrop_step t' hlt' HB'.out]; exact HT'.out)⟩
            case measure => simp only [strLen]; rw [HS.out]; omega
          · have hE' : t'.data.toList = trimL s.data.toList := by
              unfold trimL
              rw [trim_comm, ← HE.out, ← HT'.out]; symm; apply rdrop_end
              intro h; by_cases hb : blankB t'[t'.size - 1] = true
              · exact absurd ⟨h, hb⟩ hgo
              · simpa using hb
            have HE' := Lib.hid hE'
            clear hE' HT'
            have hcase : ¬ 0 < t'.size ∨ ∃ h : 0 < t'.size, blankB t'[t'.size - 1] = false := by
              by_cases h : 0 < t'.size
              · right; exact ⟨h, by by_cases hb : blankB t'[t'.size - 1] = true; exact absurd ⟨h, hb⟩ hgo; simpa using hb⟩
              · left; exact h
            clear hgo
            rcases hcase with hz' | ⟨hlt', hb'⟩
            all_goals
              go_wp2_with (go_at_call 50; refine (blank_any _ _).mono ?_; rintro e w' ⟨rfl, rfl⟩)
              go_ret
              exact ⟨ret_str (ba_ext (by rw [trimBA_list]; exact HE'.out)), rfl⟩

def valB (c : UInt8) : Bool := decide ((c.toNat : Int) = 9) || (decide (32 ≤ (c.toNat : Int)) && !decide ((c.toNat : Int) = 127))
def visS (s : ByteArray) : Bool := s.data.toList.all valB
def valS (s : ByteArray) : Bool := visS s && ((trimBA s).toList == s.toList)

set_option maxHeartbeats 400000 in
theorem isValueByte_any (c : UInt8) (w : World) :
    Calls Tryd.prog 66 #[.int .u8 c.toNat] w fun e w' => e = .returned (.bool (valB c)) ∧ w = w' := by
  go_enter Tryd.func66, Tryd.ntmps66
  go_wp2
  all_goals go_ret
  all_goals exact ⟨ret_bool (by unfold valB; rw [Bool.eq_iff_iff]; simp; omega), rfl⟩

theorem visS_no {s : ByteArray} {k : Nat} (hlt : k < s.size) (hc : valB s[k] = false) : visS s = false := by
  unfold visS
  rw [Bool.eq_false_iff]; intro h
  have := List.all_eq_true.1 h _ (mem_at s k hlt); rw [hc] at this; cases this
theorem visS_yes {s : ByteArray} {k : Nat} (hk : k ≤ s.size) (hlt : ¬ k < s.size) (h : (s.data.toList.take k).all valB = true) : visS s = true := by
  rw [take_all s k hk hlt] at h; exact h

set_option maxHeartbeats 400000 in
theorem value_any (s : ByteArray) (w : World) (hs0 : s.size ≤ maxLen) :
    Calls Tryd.prog 55 #[.string s] w fun e w' => e = .returned (.bool (valS s)) ∧ Below w.heap.size w w' := by
  have hs := hs0
  unfold maxLen at hs
  have HS0 := Lib.hid hs0
  clear hs0
  go_enter Tryd.func55, Tryd.ntmps55
  go_wp2
  go_loop [6] (fun i => ∃ k : Nat, k ≤ s.size ∧ i = .int .i64 k ∧ Hid ((s.data.toList.take k).all valB = true)) (fun i => s.size - (intOf i).toNat)
  case atStart => exact ⟨0, Nat.zero_le _, rfl, Lib.hid (by simp)⟩
  case round =>
    obtain ⟨k, hk, rfl, HP⟩ := hrel
    by_cases hlt : k < s.size
    · by_cases hc : valB s[k] = true
      · go_wp2_with (go_at_call 66; refine (isValueByte_any _ _).mono ?_; rintro e w' ⟨rfl, rfl⟩)
        go_round
        case rel => exact ⟨k + 1, by omega, by go_num, Lib.hid (by rw [take_snoc s k hlt, List.all_append, HP.out]; simpa using hc)⟩
        case measure => simp [intOf]; omega
      · have hc' : valB s[k] = false := by simpa using hc
        clear hc
        go_wp2_with (go_at_call 66; refine (isValueByte_any _ _).mono ?_; rintro e w' ⟨rfl, rfl⟩)
        go_ret
        exact ⟨ret_bool (by unfold valS; rw [visS_no hlt hc']; rfl), Below.refl _ _⟩
    · go_wp2_with fail
      refine (trim_any s _ HS0.out).mono ?_
      rintro e w1 ⟨rfl, hb1⟩
      go_wp2_with fail
      go_ret
      exact ⟨ret_bool (by unfold valS; rw [visS_yes hk hlt HP.out, Bool.true_and, Bool.beq_comm]), hb1⟩

set_option maxHeartbeats 400000 in
theorem visible_any (s : ByteArray) (w : World) (hs : s.size ≤ maxLen) :
    Calls Tryd.prog 34 #[.string s] w fun e w' => e = .returned (.bool (visS s)) ∧ w = w' := by
  unfold maxLen at hs
  go_enter Tryd.func34, Tryd.ntmps34
  go_wp2
  go_loop [3] (fun i => ∃ k : Nat, k ≤ s.size ∧ i = .int .i64 k ∧ Hid ((s.data.toList.take k).all valB = true)) (fun i => s.size - (intOf i).toNat)
  case atStart => exact ⟨0, Nat.zero_le _, rfl, Lib.hid (by simp)⟩
  case round =>
    obtain ⟨k, hk, rfl, HP⟩ := hrel
    by_cases hlt : k < s.size
    · have b1 : (s[k].toNat : Int) ≤ 255 := by have := s[k].toNat_lt; omega
      have hcase : Hid (valB s[k] = true) ∧ (s[k].toNat : Int) = 9 ∨ Hid (valB s[k] = true) ∧ ¬ (s[k].toNat : Int) = 9 ∧ 32 ≤ (s[k].toNat : Int) ∧ ¬ (s[k].toNat : Int) = 127
          ∨ Hid (valB s[k] = false) ∧ ¬ (s[k].toNat : Int) = 9 ∧ (s[k].toNat : Int) < 32 ∨ Hid (valB s[k] = false) ∧ (s[k].toNat : Int) = 127 := by
        unfold Hid valB
        by_cases h9 : (s[k].toNat : Int) = 9 <;> by_cases h32 : 32 ≤ (s[k].toNat : Int) <;> by_cases h127 : (s[k].toNat : Int) = 127 <;> simp [h9, h32, h127] <;> omega
      rcases hcase with ⟨HC, h9⟩ | ⟨HC, h9, h32, h127⟩ | ⟨HC, h9, h32⟩ | ⟨HC, h127⟩
      all_goals try have n9 : ((s[k].toNat : Int) != 9) = true := by rw [bne_iff_ne]; omega
      all_goals try have e127 : ((s[k].toNat : Int) == 127) = false := by rw [beq_eq_false_iff_ne]; omega
      all_goals
        go_wp2
        first
        | (go_round
           case rel => exact ⟨k + 1, by omega, by go_num, Lib.hid (by rw [take_snoc s k hlt, List.all_append, HP.out]; have := HC.out; simpa using this)⟩
           case measure => simp [intOf]; omega)
        | (go_ret
           exact ⟨ret_bool (visS_no hlt HC.out).symm, rfl⟩)
    · go_wp2
      go_ret
      exact ⟨ret_bool (visS_yes hk hlt HP.out).symm, rfl⟩

set_option maxHeartbeats 400000 in
theorem refValue_any (s : ByteArray) (w : World) (hs : s.size ≤ maxLen) :
    Calls Tryd.prog 52 #[.string s] w fun e w' => e = .returned (.bool (valS s)) ∧ w = w' := by
  go_enter Tryd.func52, Tryd.ntmps52
  by_cases hv : visS s = true
  · go_wp2_with fail
    refine (visible_any s _ hs).mono ?_
    rintro e w1 ⟨rfl, rfl⟩
    go_wp2_with fail
    refine (refTrim_any s _ hs).mono ?_
    rintro e w1 ⟨rfl, rfl⟩
    go_wp2_with fail
    go_ret
    exact ⟨ret_bool (by unfold valS; rw [hv, Bool.true_and]), rfl⟩
  · have hv' : visS s = false := by simpa using hv
    clear hv
    go_wp2_with fail
    refine (visible_any s _ hs).mono ?_
    rintro e w1 ⟨rfl, rfl⟩
    go_wp2_with fail
    go_ret
    exact ⟨ret_bool (by unfold valS; rw [hv']; rfl), rfl⟩
end Go.Proofs.YtbplpfcgmmflnaaDoor
namespace Go.Proofs.YtbplpfcgmmflnaaDoor
open Go

/-- Puts bytes before the first piece. -/
def front (p : List UInt8) : List (List UInt8) → List (List UInt8)
  | [] => [p]
  | h :: r => (p ++ h) :: r
/-- The pieces between the bytes c. -/
def splitL (c : UInt8) : List UInt8 → List (List UInt8)
  | [] => [[]]
  | b :: t => if b = c then [] :: splitL c t else front [b] (splitL c t)

theorem splitL_ne (c : UInt8) : ∀ l, splitL c l ≠ []
  | [] => by simp [splitL]
  | b :: t => by
    unfold splitL; split
    · simp
    · cases splitL c t <;> simp [front]
theorem front_nil (X : List (List UInt8)) (h : X ≠ []) : front [] X = X := by cases X with
  | nil => exact absurd rfl h
  | cons a r => simp [front]
theorem front_front (p q : List UInt8) (X : List (List UInt8)) : front p (front q X) = front (p ++ q) X := by cases X <;> simp [front]

def ofL (l : List UInt8) : ByteArray := ⟨l.toArray⟩
theorem ofL_list (l : List UInt8) : (ofL l).data.toList = l := by simp [ofL]
def splitS (c : UInt8) (s : ByteArray) : List ByteArray := (splitL c s.data.toList).map ofL
theorem splitL_append (c : UInt8) : ∀ a b : List UInt8, splitL c (a ++ c :: b) = splitL c a ++ splitL c b
  | [], b => by simp [splitL]
  | x :: a, b => by
    rw [List.cons_append, splitL, splitL]
    by_cases h : x = c
    · rw [if_pos h, if_pos h, splitL_append c a b]; rfl
    · rw [if_neg h, if_neg h, splitL_append c a b]
      cases hs : splitL c a with
      | nil => exact absurd hs (splitL_ne c a)
      | cons p r => rfl
theorem splitL_whole (c : UInt8) : ∀ l : List UInt8, ¬ c ∈ l → splitL c l = [l]
  | [], _ => rfl
  | b :: t, h => by
    rw [splitL, if_neg (by intro e; apply h; simp [e]), splitL_whole c t (by intro hc; apply h; simp [hc])]; rfl
end Go.Proofs.YtbplpfcgmmflnaaDoor
namespace Go.Proofs.YtbplpfcgmmflnaaDoor
open Go.RowKit

theorem toList_eq {a b : ByteArray} : (a.toList == b.toList) = decide (a = b) := by
  rw [Bool.eq_iff_iff, beq_iff_eq, decide_eq_true_eq, ByteArray.toList_eq, ByteArray.toList_eq]
  exact ⟨ba_ext, fun h => by rw [h]⟩

theorem splitS_pos (c : UInt8) (s : ByteArray) : 0 < (splitS c s).length := by
  unfold splitS; rw [List.length_map]
  have := splitL_ne c s.data.toList
  cases h : splitL c s.data.toList with
  | nil => exact absurd h this
  | cons a t => simp
theorem splitL_small (c : UInt8) : ∀ (l p : List UInt8), p ∈ splitL c l → p.length ≤ l.length
  | [], p, h => by simp [splitL] at h; simp [h]
  | b :: t, p, h => by
    have ih := splitL_small c t
    rw [splitL] at h
    split at h
    · rcases List.mem_cons.1 h with rfl | h
      · simp
      · have := ih p h; simp; omega
    · cases hs : splitL c t with
      | nil => exact absurd hs (splitL_ne c t)
      | cons q r =>
        rw [hs] at h ih
        simp only [front, List.mem_cons] at h
        rcases h with rfl | h
        · have := ih q (by simp); simp; omega
        · have := ih p (by simp [h]); simp; omega
theorem splitS_small (c : UInt8) (s x : ByteArray) (h : x ∈ splitS c s) : x.size ≤ s.size := by
  unfold splitS at h
  obtain ⟨p, hp, rfl⟩ := List.mem_map.1 h
  have := splitL_small c _ p hp
  have e : (ofL p).size = p.length := by show (ofL p).data.size = _; simp [ofL]
  have e2 : s.data.toList.length = s.size := by simp
  omega

theorem pieces_step {c : UInt8} {s : ByteArray} {i : Nat} (h : i < s.size) : splitL c (s.data.toList.drop i) = if s[i] = c then [] :: splitL c (s.data.toList.drop (i + 1)) else front [s[i]] (splitL c (s.data.toList.drop (i + 1))) := by
  rw [List.drop_eq_getElem_cons (by simpa using h), splitL]; rfl
theorem pieces_end (c : UInt8) (s : ByteArray) : splitL c (s.data.toList.drop s.size) = [[]] := by
  rw [List.drop_of_length_le (by simp)]; rfl
theorem extract_ofL (s : ByteArray) (a b : Nat) : s.extract a b = ofL ((s.data.toList.drop a).take (b - a)) := ba_ext (by rw [ofL_list, Lib.extract_data])
theorem drop_take_snoc (s : ByteArray) (a i : Nat) (ha : a ≤ i) (h : i < s.size) : (s.data.toList.drop a).take (i + 1 - a) = (s.data.toList.drop a).take (i - a) ++ [s[i]] := by
  have e : i + 1 - a = (i - a) + 1 := by omega
  have hl : s.data.toList.length = s.size := by simp
  rw [e, List.take_succ_eq_append_getElem (by rw [List.length_drop, hl]; omega), List.getElem_drop]
  have e2 : a + (i - a) = i := by omega
  simp only [e2]
  rfl

set_option maxHeartbeats 1000000 in
theorem refSplit_any (s : ByteArray) (c : UInt8) (w : World) (hs : s.size ≤ 4000000000) :
    Calls Tryd.prog 32 #[.string s, .int .u8 c.toNat] w fun e w' => RetFresh w (splitS c s) e w' := by
  go_enter Tryd.func32, Tryd.ntmps32
  go_wp2
  go_loopw [5, 6, 7] (fun v f i wr => ∃ k a : Nat, ∃ done : List (List UInt8), k ≤ s.size + 1 ∧ a ≤ k ∧ i = .int .i64 k ∧ f = .int .i64 a ∧ done.length ≤ k ∧ Hid (Acc w wr v (done.map ofL)) ∧
      Hid ((k ≤ s.size → done ++ front ((s.data.toList.drop a).take (k - a)) (splitL c (s.data.toList.drop k)) = splitL c s.data.toList) ∧ (¬ k ≤ s.size → done = splitL c s.data.toList))) (fun _ _ i _ => s.size + 1 - (intOf i).toNat)
  case atStart => exact ⟨0, 0, [], by omega, Nat.le_refl _, rfl, rfl, Nat.le_refl _, Lib.hid (Acc.start w), Lib.hid ⟨fun _ => by simp [front_nil _ (splitL_ne c _)], fun h => absurd (Nat.zero_le _) h⟩⟩
  case round =>
    obtain ⟨k, a, done, hk, hak, rfl, rfl, hdl, HA, HP⟩ := hrel
    by_cases hle : k ≤ s.size
    · have cont : ∀ (_ : k = s.size ∨ ∃ h : k < s.size, s[k] = c), Hid (done ++ [(s.data.toList.drop a).take (k - a)] ++ (if k < s.size then splitL c (s.data.toList.drop (k + 1)) else []) = splitL c s.data.toList) := by
        intro h
        have h1 := HP.out.1 hle
        rcases h with e | ⟨h, e⟩
        · subst e
          rw [pieces_end] at h1
          rw [if_neg (by omega), List.append_nil]
          simpa [Hid, front] using h1
        · rw [pieces_step h, if_pos e] at h1
          rw [if_pos h, List.append_assoc]
          simpa [Hid, front] using h1
      have CONT := Lib.hid cont
      clear cont
      by_cases hend : k = s.size
      · have HEND := Lib.hid hend
        have he1 : ((k : Int) == (s.size : Int)) = true := by simp [hend]
        clear hend
        go_wp2_with (at_builtin; refine wpList_append_acc _ rfl _ _ rfl rfl (HA.out.keep ((Below.refl _ _).alloc (Nat.le_refl _) _)) rfl (y := s.extract a k) ?c1 ?c2 ?c3)
        case c1 => simp
        case c2 => simp; omega
        case c3 =>
          intro g cap w' hacc has
          have HACC := Lib.hid hacc
          clear hacc has
          go_wp2_with fail
          go_roundw
          case rel => exact ⟨k + 1, k + 1, done ++ [(s.data.toList.drop a).take (k - a)], by omega, Nat.le_refl _, by go_num, by go_num, by simp; omega, Lib.hid (by
            have := HACC.out
            rw [extract_ofL] at this
            rw [List.map_append]; simpa using this), Lib.hid ⟨fun h => absurd h (by have := HEND.out; omega), fun _ => by
              have := (CONT.out (.inl HEND.out)).out
              rw [if_neg (by have := HEND.out; omega), List.append_nil] at this; exact this⟩⟩
          case measure => simp [intOf]; omega
      · have hlt : k < s.size := by omega
        have he1 : ((k : Int) == (s.size : Int)) = false := by rw [beq_eq_false_iff_ne]; omega
        clear hend
        by_cases hc : s[k] = c
        · have HC := Lib.hid hc
          have hb : ((s[k].toNat : Int) == (c.toNat : Int)) = true := by simp [hc]
          clear hc
          go_wp2_with (at_builtin; refine wpList_append_acc _ rfl _ _ rfl rfl (HA.out.keep ((Below.refl _ _).alloc (Nat.le_refl _) _)) rfl (y := s.extract a k) ?c1 ?c2 ?c3)
          case c1 => simp
          case c2 => simp; omega
          case c3 =>
            intro g cap w' hacc has
            have HACC := Lib.hid hacc
            clear hacc has
            go_wp2_with fail
            go_roundw
            case rel => exact ⟨k + 1, k + 1, done ++ [(s.data.toList.drop a).take (k - a)], by omega, Nat.le_refl _, by go_num, by go_num, by simp; omega, Lib.hid (by
              have := HACC.out
              rw [extract_ofL] at this
              rw [List.map_append]; simpa using this), Lib.hid ⟨fun _ => by
                have := (CONT.out (.inr ⟨hlt, HC.out⟩)).out
                rw [if_pos hlt] at this
                rw [Nat.sub_self, List.take_zero, front_nil _ (splitL_ne c _)]; exact this, fun h => absurd (show k + 1 ≤ s.size by omega) h⟩⟩
            case measure => simp [intOf]; omega
        · have HC := Lib.hid hc
          have hb : ((s[k].toNat : Int) == (c.toNat : Int)) = false := by
            rw [Bool.eq_false_iff]; intro h; exact hc (eqb_of h)
          clear hc
          go_wp2_with fail
          go_roundw
          case rel => exact ⟨k + 1, a, done, by omega, by omega, by go_num, rfl, by omega, HA, Lib.hid ⟨fun _ => by
            have h1 := HP.out.1 hle
            rw [pieces_step hlt, if_neg HC.out, front_front, ← drop_take_snoc s a k hak hlt] at h1
            exact h1, fun h => absurd (show k + 1 ≤ s.size by omega) h⟩⟩
          case measure => simp [intOf]; omega
    · have hdone := Lib.hid (HP.out.2 hle)
      go_wp2_with fail
      go_ret
      obtain ⟨g, cap, rfl, h1, h2, h3⟩ := HA.out.isNew (by rw [hdone.out]; simpa using splitL_ne c s.data.toList)
      have e : done.map ofL = splitS c s := by rw [hdone.out]; rfl
      rw [e] at h3 ⊢
      exact ⟨g, cap, rfl, h1, h2, h3, HA.out.2⟩

end Go.Proofs.YtbplpfcgmmflnaaDoor
namespace Go.Proofs.YtbplpfcgmmflnaaDoor
open Go.ChangeShapes Go.WideShapes Go.ChangeAt Go.RowKit

theorem byte_of {x : Int} (h : (Lit.int .u8 x).wf = true) : ∃ c : UInt8, x = (c.toNat : Int) := by
  have hb : 0 ≤ x ∧ x ≤ 255 := bounds_u8 h
  refine ⟨x.toNat.toUInt8, ?_⟩
  have : (x.toNat.toUInt8).toNat = x.toNat := by rw [Nat.toUInt8_eq, UInt8.toNat_ofNat']; omega
  omega

/-- The slice at a reads as the bytes l. -/
def IsBytes (w : World) (a : Option Addr) (l : List UInt8) (cap : Nat) : Prop :=
  (a = none ∧ l = [] ∧ cap = 0) ∨ ∃ x, a = some x ∧ l.length ≤ cap ∧ cap ≤ maxLen ∧ ∀ j (hj : j < l.length), w.cell? (x.add j) = some (.int .u8 (l[j].toNat : Int))

theorem open_bytes {H : Type} {enc : TypeId × Value → H} {W : World} {a : Option Addr} {len cap : Nat} {d : DataW H} {ps : List MemPlace} {base : Nat}
    (h : DataW.Trod enc Tryd.prog W base (fun _ => true) true 23 (.slice a len cap) d ps) : ∃ l : List UInt8, len = l.length ∧ IsBytes W a l cap := by
  obtain ⟨fuel, hf⟩ := h
  rcases open_ints Tryd.underlying23 Tryd.underlying5 (by kernel_rfl) hf with ⟨hcs, _⟩ | ⟨x, l, c, zs, hcs, _, hl, hm, hz, _, hcell, hwz⟩
  · simp [Value.cells] at hcs
    obtain ⟨rfl, rfl, rfl⟩ := hcs
    exact ⟨[], rfl, .inl ⟨rfl, rfl, rfl⟩⟩
  · simp [Value.cells] at hcs
    obtain ⟨rfl, rfl, rfl⟩ := hcs
    have hz' : zs.length = cap := by simpa using hz
    have hlen : ((zs.take len).map fun z => z.toNat.toUInt8).length = len := by simp; omega
    refine ⟨(zs.take len).map fun z => z.toNat.toUInt8, hlen.symm, .inr ⟨x, rfl, by rw [hlen]; exact hl, hm, fun j hj => ?_⟩⟩
    rw [hlen] at hj
    have hj' : j < zs.length := by omega
    rw [hcell j hj']
    have hw := hwz zs[j] (List.getElem_mem _)
    obtain ⟨c, hc⟩ := byte_of hw
    have e : zs.getD j 0 = zs[j] := by rw [List.getD_eq_getElem?_getD, List.getElem?_eq_getElem hj']; rfl
    rw [e]
    have e2 : ((zs.take len).map fun z => z.toNat.toUInt8)[j]'(by rw [hlen]; exact hj) = zs[j].toNat.toUInt8 := by simp
    rw [e2, hc]
    simp

/-- string(b) of a slice of bytes that came in. -/
theorem conv_bytes {W : World} {a : Option Addr} {l : List UInt8} {cap : Nat} (h : IsBytes W a l cap) :
    (convert 23 9 (.slice a l.length cap)).run Tryd.prog W = .ok (.string ⟨l.toArray⟩) W := by
  rcases h with ⟨rfl, rfl, rfl⟩ | ⟨x, rfl, _, _, hc⟩
  · simp [convert, run_underlying Tryd.underlying23, run_underlying Tryd.underlying9, run_underlying Tryd.underlying5, Conv.bytesToString]
    rfl
  · exact run_convert_bytes_back (P := Tryd.prog) W 23 9 5 x cap l Tryd.underlying23 Tryd.underlying5 Tryd.underlying9 hc
theorem isBytes_len {W : World} {a : Option Addr} {l : List UInt8} {cap : Nat} (h : IsBytes W a l cap) : l.length ≤ maxLen := by
  rcases h with ⟨_, rfl, _⟩ | ⟨_, _, h1, h2, _⟩
  · exact Nat.zero_le _
  · exact Nat.le_trans h1 h2
end Go.Proofs.YtbplpfcgmmflnaaDoor
namespace Go.Proofs.YtbplpfcgmmflnaaDoor
open Go.ChangeShapes Go.WideShapes Go.ChangeAt Go.RowKit

/-- The slice at a reads as the strings l. -/
def StrsIn (w : World) (a : Option Addr) (l : List ByteArray) : Prop :=
  ∀ j (hj : j < l.length), ∃ x, a = some x ∧ w.cell? (x.add j) = some (.string l[j])
theorem StrsIn.keep {w w' : World} {a : Option Addr} {l : List ByteArray} (h : StrsIn w a l) (hb : Below w.heap.size w w') : StrsIn w' a l := fun j hj => by
  obtain ⟨x, e, hc⟩ := h j hj
  exact ⟨x, e, below_cell hb hc⟩
theorem StrsIn.nil (w : World) (a : Option Addr) : StrsIn w a [] := fun _ hj => absurd hj (Nat.not_lt_zero _)
theorem StrsIn.take {w : World} {a : Option Addr} {l : List ByteArray} (h : StrsIn w a l) (k : Nat) : StrsIn w a (l.take k) := fun j hj => by
  have hj' : j < l.length := by rw [List.length_take] at hj; omega
  obtain ⟨x, e, hc⟩ := h j hj'
  exact ⟨x, e, by rw [List.getElem_take]; exact hc⟩
end Go.Proofs.YtbplpfcgmmflnaaDoor
namespace Go.Proofs.YtbplpfcgmmflnaaDoor
open Go.RowKit

theorem Tryd.info5 : (Tryd.prog.info? 5).map (fun i => (i.zero, i.size, i.bytes)) = some (some (.int .u8 0), 1, 1) := by kernel_rfl
def bytesV (l : List UInt8) : List Value := l.map fun c => .int .u8 (c.toNat : Int)
theorem bytesV_len (l : List UInt8) : (bytesV l).length = l.length := by simp [bytesV]

/-- v is a slice of the call's own with the bytes l; what was there before the call is as it was. -/
def AccB (w0 w : World) (v : Value) (l : List UInt8) : Prop :=
  w.ownsRow w0.heap.size 5 1 v l.length (bytesV l) ∧ Below w0.heap.size w0 w
theorem AccB.start (w : World) : AccB w w (.slice none 0 0) [] := ⟨World.ownsRow_nil _ _ _ _, Below.refl _ _⟩
theorem AccB.size {w0 w : World} {v : Value} {l : List UInt8} (h : AccB w0 w v l) : w0.heap.size ≤ w.heap.size := h.2.size
theorem AccB.keep {w0 w w' : World} {v : Value} {l : List UInt8} (h : AccB w0 w v l) (hb : Below w.heap.size w w') : AccB w0 w' v l :=
  ⟨ownsRow_keep h.1 hb, h.2.trans (hb.mono h.2.size)⟩
theorem AccB.shape {w0 w : World} {v : Value} {l : List UInt8} (h : AccB w0 w v l) : ∃ a cap, v = .slice a l.length cap ∧ IsBytes w a l cap := by
  obtain ⟨⟨h1, h2⟩, _⟩ := h
  rcases h2 with ⟨rfl, h2⟩ | ⟨g, cap, cur, rfl, hg, hc, hcap, hm, hsz, ht⟩
  · have : l = [] := List.eq_nil_of_length_eq_zero h2
    subst this
    exact ⟨none, 0, rfl, .inl ⟨rfl, rfl, rfl⟩⟩
  · refine ⟨_, cap, rfl, .inr ⟨_, rfl, hcap, hm, fun j hj => ?_⟩⟩
    have e : cur.toList[j]? = some (Value.int .u8 (l[j].toNat : Int)) := by
      have := congrArg (fun x => x[j]?) ht
      simp only [Nat.mul_one, bytesV] at this
      rw [List.getElem?_take_of_lt hj, List.getElem?_map, List.getElem?_eq_getElem hj] at this
      exact this
    rw [Addr.add_lit]
    simp only [World.cell?, hc, Nat.zero_add]
    simpa using e

section
variable {ops : Array Oper} {rest : List Oper} {o : Oper} {act : Act} {Q : Exit → Act → World → Prop}
/-- APPEND of one byte to a slice of the call's own. -/
theorem wpList_append_accb (w : World) (hgd : o.guard = none) (s x : Operand) (ho : o.op = .call { callee := .builtin .append, args := #[s, x], argTypes := #[23, 23] })
    {w0 : World} {v : Value} {l : List UInt8} (hs : act.eval s = v) (h : AccB w0 w v l) {b c : Nat} (hx : act.eval x = .slice (some ⟨b, 0, none⟩) 1 c) {y : UInt8} (hy : w.cell? ⟨b, 0, none⟩ = some (.int .u8 (y.toNat : Int)))
    (hn : l.length + 1 ≤ 140737488355328)
    (K : ∀ g cap w', AccB w0 w' (.slice (some ⟨g, 0, none⟩) (l.length + 1) cap) (l ++ [y]) →
      wpList Tryd.prog ops Q rest (act.put o.dst (.slice (some ⟨g, 0, none⟩) (l.length + 1) cap)) w') : wpList Tryd.prog ops Q (o :: rest) act w := by
  obtain ⟨i0, hi, hz0, hz1, hz2⟩ := info_parts Tryd.info5
  refine wpList_append_lies w hgd s x 23 ho w0.heap.size 5 i0 (.int .u8 0) 1 1 Tryd.underlying23 hi hz0 hz1 hz2 rfl (by decide) v l.length (bytesV l) hs h.1 ⟨b, 0, none⟩ 1 c [.int .u8 (y.toNat : Int)] hx rfl ?_ ?_ (by decide) (by unfold maxLen; omega) (by omega) h.2.size w.heap.size rfl ?_
  · intro j u hj
    match j, hj with
    | 0, hj => simp at hj; subst hj; rw [Addr.add_lit]; exact hy
    | j + 1, hj => simp at hj
  · intro u hu; simp at hu; subst hu; rfl
  · intro g cap w' hown hgrow hg hlt
    refine K g cap w' ⟨by simpa [bytesV] using hown, h.2.grown hgrow h.2.size fun k hk => ?_⟩
    exact (World.ownsRow.lt h.1 k hk).1
end
end Go.Proofs.YtbplpfcgmmflnaaDoor
namespace Go.Proofs.YtbplpfcgmmflnaaDoor

section
variable {P : Program} {md : Region.Mode} {C : World → Prop} {l : List Oper} {o : Oper}

end

section
variable {P : Program} {md : Region.Mode} {ops : Array Oper} {Q : Exit → Act → World → Prop}
theorem count_set : ∀ (l : List Bool) (i : Nat), i < l.length → l.getD i true = false → (l.set i true).countP (!·) + 1 = l.countP (!·)
  | b :: l, 0, _, h => by
    have : b = false := h
    subst this
    simp
  | b :: l, i + 1, hi, h => by
    have := count_set l i (by simpa using hi) (by simpa using h)
    rw [List.set_cons_succ, List.countP_cons, List.countP_cons]
    omega
/-- AN INVARIANT OVER THE MARKS: whatever may come up keeps it; where nothing may come up it gives what is asked. -/
theorem wpAny_inv (J : Array Bool → Act → World → Prop) (hstep : ∀ m a w, m.size = ops.size → J m a w → ∀ i, i ∈ Region.ready md ops m → wpOp P ops Q i (J (m.setIfInBounds i true)) a w)
    (hdone : ∀ m a w, m.size = ops.size → J m a w → Region.ready md ops m = [] → Q .normal a w) :
    ∀ (f : Nat) (m : Array Bool) (a : Act) (w : World), m.size = ops.size → m.toList.countP (!·) ≤ f → J m a w → wpAny P md ops Q f m a w
  | 0, m, a, w, hs, hc, hJ => by
    have hr : Region.ready md ops m = [] := by
      rw [List.eq_nil_iff_forall_not_mem]
      intro i hi
      obtain ⟨h1, x, hx, _⟩ := mem_ready.1 hi
      have hlt : i < m.size := by rw [hs]; exact (Array.getElem?_eq_some_iff.1 hx).1
      have h2 : m.toList.getD i true = false := by simpa [List.getD_eq_getElem?_getD, hlt] using h1
      have := count_set m.toList i (by simpa using hlt) h2
      omega
    exact ⟨hr, hdone m a w hs hJ hr⟩
  | f + 1, m, a, w, hs, hc, hJ => by
    refine ⟨fun hr => hdone m a w hs hJ hr, fun i hi => ?_⟩
    refine wpOp_mono (fun a' w' hJ' => wpAny_inv J hstep hdone f _ a' w' (by simpa using hs) ?_ hJ') (hstep m a w hs hJ i hi)
    obtain ⟨h1, x, hx, _⟩ := mem_ready.1 hi
    have hlt : i < m.size := by rw [hs]; exact (Array.getElem?_eq_some_iff.1 hx).1
    have h2 : m.toList.getD i true = false := by simpa [List.getD_eq_getElem?_getD, hlt] using h1
    have := count_set m.toList i (by simpa using hlt) h2
    rw [Array.toList_setIfInBounds]
    omega
theorem wp_region_inv {id : Nat} {a : Act} {w : World} (hm : P.follows .mixedOrders = true) (J : Array Bool → Act → World → Prop)
    (hstep : ∀ m a w, m.size = ops.size → J m a w → ∀ i, i ∈ Region.ready .any ops m → wpOp P ops Q i (J (m.setIfInBounds i true)) a w)
    (hdone : ∀ m a w, m.size = ops.size → J m a w → Region.ready .any ops m = [] → Q .normal a w) (h0 : J (Array.replicate ops.size false) a { w with drawn := w.drawn + 1 }) : (Code.region id ops true).wp P Q a w := by
  refine wp_region_any hm (wpAny_inv J hstep hdone _ _ _ _ (by simp) ?_ h0)
  have := List.countP_le_length (p := (!·)) (l := (Array.replicate ops.size false).toList)
  simpa using this
end
end Go.Proofs.YtbplpfcgmmflnaaDoor
namespace Go.Proofs.YtbplpfcgmmflnaaDoor
open Go.RowKit

/-- What an operation leaves in its slot; whatever comes later keeps it. -/
structure Spec where
  p : Value → World → Prop
  mono : ∀ v w w', p v w → Below w.heap.size w w' → p v w'
def Spec.val (v : Value) : Spec := ⟨fun x _ => x = v, fun _ _ _ h _ => h⟩
def Spec.any : Spec := ⟨fun _ _ => True, fun _ _ _ h _ => h⟩

def Holds (ops : Array Oper) (S : List Spec) (a : Act) (w : World) (j : Nat) : Prop :=
  match ops[j]?, S[j]? with
  | some o, some s => (match o.dst with | some d => s.p (a.eval (.tmp d)) w | none => True)
  | _, _ => True
def isDst (ops : Array Oper) (k : Nat) : Bool := ops.toList.any fun o => o.dst == some k
def waitsFor (o : Oper) (j : Nat) : Bool := o.after.toList.any fun e => Region.binds .any e && e.on == j
/-- The slots are different ones, and within the frame. -/
def dstsOk (ops : Array Oper) (n : Nat) : Bool :=
  (List.range ops.size).all fun i => match (ops[i]?).bind (·.dst) with
    | some d => decide (d < n) && (List.range ops.size).all fun j => decide (i = j) || !((ops[j]?).bind (·.dst) == some d)
    | none => true
/-- The frame on the way: but for the operations' own slots it is the one before. -/
structure Fr (ops : Array Oper) (a0 a : Act) : Prop where
  defers : a.defers = a0.defers
  size : a.tmps.size = a0.tmps.size
  base : ∀ k, isDst ops k = false → a.eval (.tmp k) = a0.eval (.tmp k)
/-- One operation by itself. -/
def StepOK (P : Program) (Q : Exit → Act → World → Prop) (ops : Array Oper) (S : List Spec) (a0 : Act) (w0 : World) (o : Oper) (s : Spec) : Prop :=
  ∀ a w, Below w0.heap.size w0 w → Fr ops a0 a → (∀ j, waitsFor o j = true → Holds ops S a w j) →
    Region.wanted o (yielded ops a.tmps) = true ∧ o.wp P a w (fun a' w' => ∃ v, a' = a.put o.dst v ∧ Below w.heap.size w w' ∧ s.p v w') Q
def StepsOK (P : Program) (Q : Exit → Act → World → Prop) (ops : Array Oper) (S : List Spec) (a0 : Act) (w0 : World) : List Oper → List Spec → Prop
  | o :: os, s :: ss => StepOK P Q ops S a0 w0 o s ∧ StepsOK P Q ops S a0 w0 os ss
  | [], [] => True
  | _, _ => False

section
variable {P : Program} {Q : Exit → Act → World → Prop} {ops : Array Oper} {S : List Spec} {a0 : Act} {w0 : World}
theorem stepsOK_at : ∀ {os : List Oper} {ss : List Spec}, StepsOK P Q ops S a0 w0 os ss → ∀ (i : Nat) (o : Oper), os[i]? = some o → ∃ s, ss[i]? = some s ∧ StepOK P Q ops S a0 w0 o s
  | o :: os, s :: ss, h, 0, _, rfl => ⟨s, rfl, h.1⟩
  | o :: os, s :: ss, h, i + 1, o', ho => stepsOK_at h.2 i o' ho
  | [], _, _, i, _, ho => by simp at ho
theorem eval_put_same {a : Act} {d : Nat} {v : Value} (h : d < a.tmps.size) : (a.put (some d) v).eval (.tmp d) = v := by
  simp [Act.put, Act.eval, h]
theorem eval_put_other {a : Act} {d : Option Tmp} {k : Nat} {v : Value} (h : d ≠ some k) : (a.put d v).eval (.tmp k) = a.eval (.tmp k) := by
  cases d with
  | none => rfl
  | some d =>
    have hne : d ≠ k := fun e => h (by rw [e])
    simp [Act.put, Act.eval, Array.getElem?_setIfInBounds_ne hne]
theorem dsts_lt {n : Nat} (h : dstsOk ops n = true) {i : Nat} {o : Oper} {d : Nat} (ho : ops[i]? = some o) (hd : o.dst = some d) : d < n ∧ ∀ j o', ops[j]? = some o' → j ≠ i → o'.dst ≠ some d := by
  have hi : i < ops.size := (Array.getElem?_eq_some_iff.1 ho).1
  have h1 := List.all_eq_true.1 h i (List.mem_range.2 hi)
  rw [ho] at h1
  simp only [Option.bind_some, hd, Bool.and_eq_true, decide_eq_true_eq] at h1
  refine ⟨h1.1, fun j o' ho' hji hd' => ?_⟩
  have hj : j < ops.size := (Array.getElem?_eq_some_iff.1 ho').1
  have h2 := List.all_eq_true.1 h1.2 j (List.mem_range.2 hj)
  rw [ho'] at h2
  simp [hd'] at h2
  exact hji h2.symm
theorem holds_mono {a : Act} {w w' : World} {j : Nat} (h : Holds ops S a w j) (hb : Below w.heap.size w w') : Holds ops S a w' j := by
  unfold Holds at *
  split
  · rename_i o s ho hs
    rw [ho, hs] at h
    cases hd : o.dst with
    | none => trivial
    | some d => simp only [hd] at h; exact s.mono _ _ _ h hb
  · trivial
theorem wp_region_local {id : Nat} (S : List Spec) (hm : P.follows .mixedOrders = true) (hB : (List.range ops.size).all (fun i => match ops[i]? with | some x => x.after.all (fun e => decide (e.on < i)) | none => true) = true)
    (hd : dstsOk ops a0.tmps.size = true) (h : StepsOK P Q ops S a0 w0 ops.toList S)
    (hQ : ∀ a w, Below w0.heap.size w0 w → Fr ops a0 a → (∀ j, j < ops.size → Holds ops S a w j) → Q .normal a w) : (Code.region id ops true).wp P Q a0 w0 := by
  refine wp_region_inv hm (fun m a w => Below w0.heap.size w0 w ∧ Fr ops a0 a ∧ ∀ j, m.getD j false = true → Holds ops S a w j) ?_ ?_ ?_
  · rintro m a w hs ⟨hb, hf, hh⟩ i hi
    obtain ⟨h1, o, ho, hall⟩ := mem_ready.1 hi
    have hil : i < ops.size := (Array.getElem?_eq_some_iff.1 ho).1
    obtain ⟨s, hsi, hstep⟩ := stepsOK_at h i o (by simpa using ho)
    obtain ⟨hw, hwp⟩ := hstep a w hb hf fun j hj => by
      obtain ⟨e, he, h2⟩ := List.any_eq_true.1 hj
      simp only [Bool.and_eq_true, beq_iff_eq] at h2
      obtain ⟨h3, rfl⟩ := h2
      exact hh _ (hall e (Array.mem_toList_iff.1 he) h3)
    unfold wpOp
    simp only [ho]
    rw [if_pos hw]
    refine .inl (Oper.wp_mono ?_ hwp)
    rintro a' w' ⟨v, rfl, hb', hsp⟩
    refine ⟨hb.trans (hb'.mono hb.size), ⟨?_, ?_, fun k hk => ?_⟩, fun j hj => ?_⟩
    · have := hf.defers
      cases o.dst <;> simpa [Act.put] using this
    · have := hf.size
      cases o.dst <;> simpa [Act.put] using this
    · rw [eval_put_other, hf.base k hk]
      intro hk2
      have : isDst ops k = true := by
        unfold isDst
        exact List.any_eq_true.2 ⟨o, Array.mem_toList_iff.2 (Array.mem_of_getElem? ho), by rw [hk2]; simp⟩
      rw [hk] at this; cases this
    · by_cases hji : j = i
      · subst hji
        unfold Holds
        simp only [ho, hsi]
        cases hdo : o.dst with
        | none => trivial
        | some d =>
          show s.p ((a.put (some d) v).eval (.tmp d)) w'
          rw [eval_put_same]
          · exact hsp
          · rw [hf.size]; exact (dsts_lt hd ho hdo).1
      · have hj' : m.getD j false = true := by rw [getD_set_ne false (fun e => hji e.symm)] at hj; exact hj
        have h5 := holds_mono (hh j hj') hb'
        unfold Holds at *
        cases hoj : ops[j]? with
        | none => simp
        | some o' =>
          cases hsj : S[j]? with
          | none => simp
          | some s' =>
            simp only [hoj, hsj] at h5 ⊢
            cases hdo : o'.dst with
            | none => trivial
            | some d =>
              simp only [hdo] at h5 ⊢
              show s'.p ((a.put o.dst v).eval (.tmp d)) w'
              rw [eval_put_other]
              · exact h5
              · intro e
                exact (dsts_lt hd ho e).2 j o' hoj hji hdo
  · rintro m a w hs ⟨hb, hf, hh⟩ hr
    refine hQ a w hb hf fun j hj => hh j ?_
    induction j using Nat.strongRecOn with
    | _ j ih =>
      cases hmj : m.getD j false with
      | true => rfl
      | false =>
        exfalso
        have hoj : ops[j]? = some ops[j] := Array.getElem?_eq_getElem hj
        have hbk := List.all_eq_true.1 hB j (List.mem_range.2 hj)
        rw [hoj] at hbk
        simp only [Array.all_eq_true_iff_forall_mem, decide_eq_true_eq] at hbk
        have : j ∈ Region.ready .any ops m := mem_ready.2 ⟨by
          have hs' : j < m.size := by rw [hs]; exact hj
          simp [hs'] at hmj ⊢; exact hmj, ops[j], hoj, fun e he _ => ih _ (hbk e he) (by have := hbk e he; omega)⟩
        rw [hr] at this; cases this
  · refine ⟨(Below.refl _ _).drew, ⟨rfl, rfl, fun _ _ => rfl⟩, fun j hj => ?_⟩
    exfalso
    simp only [Array.getD_eq_getD_getElem?, Array.getElem?_replicate] at hj
    split at hj <;> simp at hj
end

/-- The frame, written out. -/
theorem act_eq {a a0 : Act} {n : Nat} (h : a.tmps.size = n) (hd : a.defers = a0.defers) : a = ⟨((List.range n).map fun k => a.eval (.tmp k)).toArray, a0.defers⟩ := by
  obtain ⟨t, d⟩ := a
  simp only at h hd
  subst h hd
  congr 1
  apply Array.ext
  · simp
  · intro i h1 h2
    simp [Act.eval, Array.getElem?_eq_getElem h1]

section
variable {P : Program} {Q : Exit → Act → World → Prop} {ops : Array Oper} {S : List Spec} {a : Act} {w : World} {o : Oper} {s : Spec}
theorem wanted_none (h : o.guard = none) : Region.wanted o (yielded ops a.tmps) = true := by unfold Region.wanted; rw [h]
theorem wanted_true {j d : Nat} (h : o.guard = some (j, true)) (hd : (ops[j]?).bind (·.dst) = some d) (hv : a.eval (.tmp d) = .bool true) : Region.wanted o (yielded ops a.tmps) = true := by
  have e : a.tmps[d]? = some (.bool true) := by
    unfold Act.eval at hv
    simp only [Array.getD_eq_getD_getElem?] at hv
    cases hq : a.tmps[d]? with
    | none => rw [hq] at hv; cases hv
    | some x => rw [hq] at hv; simp at hv; rw [hv]
  unfold Region.wanted yielded
  rw [h]
  simp [hd, e]
theorem loc_run {v : Value} {w' : World} (h : (execOp a.eval o).run P w = .ok (.value v) w') (hb : Below w.heap.size w w') (hs : s.p v w') : o.wp P a w (fun a' w' => ∃ v, a' = a.put o.dst v ∧ Below w.heap.size w w' ∧ s.p v w') Q := by
  unfold Oper.wp
  rw [h]
  exact ⟨v, rfl, hb, hs⟩
theorem loc_move {x : Operand} (ho : o.op = .move x) (hs : s.p (a.eval x) w) : o.wp P a w (fun a' w' => ∃ v, a' = a.put o.dst v ∧ Below w.heap.size w w' ∧ s.p v w') Q :=
  loc_run (by unfold execOp; rw [ho]; rfl) (Below.refl _ _) hs
theorem loc_assign {x : Operand} (ho : o.op = .assign x) (hs : s.p (a.eval x) w) : o.wp P a w (fun a' w' => ∃ v, a' = a.put o.dst v ∧ Below w.heap.size w w' ∧ s.p v w') Q :=
  loc_run (by unfold execOp; rw [ho]; rfl) (Below.refl _ _) hs
theorem loc_pick {c x y : Operand} (ho : o.op = .pick c x y) (hc : a.eval c = .bool true) (hs : s.p (a.eval x) w) : o.wp P a w (fun a' w' => ∃ v, a' = a.put o.dst v ∧ Below w.heap.size w w' ∧ s.p v w') Q :=
  loc_run (by unfold execOp; rw [ho]; simp only [hc]; rfl) (Below.refl _ _) hs
theorem loc_convert {x : Operand} {t1 t2 : TypeId} (ho : o.op = .convert t1 t2 x) {v : Value} (h : (convert t1 t2 (a.eval x)).run P w = .ok v w) (hs : s.p v w) : o.wp P a w (fun a' w' => ∃ v, a' = a.put o.dst v ∧ Below w.heap.size w w' ∧ s.p v w') Q :=
  loc_run (v := v) (by unfold execOp; rw [ho]; simp only [Sem.run_bind, h, Result.andThen_ok, Sem.run_pure]) (Below.refl _ _) hs
theorem loc_load {x : Operand} {t : TypeId} (ho : o.op = .load t x) {v : Value} (h : (Instr.loadAt t (a.eval x)).run P w = .ok v w) (hs : s.p v w) : o.wp P a w (fun a' w' => ∃ v, a' = a.put o.dst v ∧ Below w.heap.size w w' ∧ s.p v w') Q :=
  loc_run (v := v) (by unfold execOp; rw [ho]; simp only [Sem.run_bind, h, Result.andThen_ok, Sem.run_pure]) (Below.refl _ _) hs
theorem loc_call {f : FuncId} {args : List Operand} {ts : Array TypeId} (ho : o.op = .call { callee := .value (.func f), args := args.toArray, argTypes := ts })
    (hf : (P.funcs[f]?).map (fun fn => fn.name != "runtime.NumGoroutine" && fn.body.isSome) = some true) (h : Calls P f (args.map a.eval).toArray w fun e w' => ∃ v, e = .returned v ∧ Below w.heap.size w w' ∧ s.p v w') : o.wp P a w (fun a' w' => ∃ v, a' = a.put o.dst v ∧ Below w.heap.size w w' ∧ s.p v w') Q := by
  have hrun : (execOp a.eval o).run P w = .ok (.enter f (args.map a.eval).toArray) w := by
    unfold execOp; rw [ho]
    cases hfn : P.funcs[f]? with
    | none => rw [hfn] at hf; cases hf
    | some fn =>
      rw [hfn] at hf
      simp only [Option.map_some, Option.some.injEq, Bool.and_eq_true, bne_iff_ne, ne_eq] at hf
      have hb : fn.body ≠ none := fun e => by rw [e] at hf; exact absurd hf.2 (by simp)
      simp [resolve, Deferred.ofValue, invoke, callFunc, show a.eval (.func f) = .func (.func f) #[] #[] from rfl, hfn, hf.1, hb]
  unfold Oper.wp
  rw [hrun, Oper.upon_enter]
  refine h.mono ?_
  rintro e w' ⟨v, rfl, hb, hs⟩
  exact ⟨v, rfl, hb, hs⟩
end
section
variable {P : Program} {ops : Array Oper} {Q : Exit → Act → World → Prop} {a : Act} {w : World} {rest : List Oper}
theorem local_ret {fn : Func} {R : Ending → World → Prop} {t : Tmp} {v : Value} (h : fn.results = #[.tmp t]) (hd : a.defers = []) (hv : a.eval (.tmp t) = v) (hR : R (.returned v) w) : bodyPost P fn R .ret a w :=
  bodyPost_ret (results_tmp h _ _ _) hd (by rw [show a.tmps.getD t undef = v from hv]; exact hR)
end
end Go.Proofs.YtbplpfcgmmflnaaDoor
namespace Go.Proofs.YtbplpfcgmmflnaaDoor
open Go.ChangeShapes Go.WideShapes Go.ChangeAt Go.RowKit

theorem IsBytes.keep {w w' : World} {a : Option Addr} {l : List UInt8} {cap : Nat} (h : IsBytes w a l cap) (hb : Below w.heap.size w w') : IsBytes w' a l cap := by
  rcases h with h | ⟨x, h1, h2, h3, h4⟩
  · exact .inl h
  · exact .inr ⟨x, h1, h2, h3, fun j hj => below_cell hb (h4 j hj)⟩

/-- A new slice that is empty and not nil. -/
theorem AccB.empty (w : World) : AccB w (w.alloc (.cells #[] 5)) (.slice (some ⟨w.heap.size, 0, none⟩) 0 0) [] := by
  refine ⟨⟨rfl, .inr ⟨w.heap.size, 0, #[], rfl, Nat.le_refl _, ?_, Nat.le_refl _, Nat.zero_le _, rfl, rfl⟩⟩, (Below.refl _ _).alloc (Nat.le_refl _) _⟩
  show (w.heap.push _)[w.heap.size]? = _
  simp

section
variable {ops : Array Oper} {rest : List Oper} {o : Oper} {act : Act} {Q : Exit → Act → World → Prop}
/-- APPEND of a slice of bytes that is read to a slice of the call's own. -/
theorem wpList_append_accs (w : World) (hgd : o.guard = none) (s x : Operand) (ho : o.op = .call { callee := .builtin .append, args := #[s, x], argTypes := #[23, 23] })
    {w0 : World} {v : Value} {l : List UInt8} (hs : act.eval s = v) (h : AccB w0 w v l) {a : Option Addr} {r : List UInt8} {c : Nat} (hx : act.eval x = .slice a r.length c) (hr : IsBytes w a r c)
    (hn : l.length + r.length ≤ 140737488355328)
    (K : ∀ v' w', AccB w0 w' v' (l ++ r) → wpList Tryd.prog ops Q rest (act.put o.dst v') w') : wpList Tryd.prog ops Q (o :: rest) act w := by
  obtain ⟨i0, hi, hz0, hz1, hz2⟩ := info_parts Tryd.info5
  rcases hr with ⟨rfl, rfl, rfl⟩ | ⟨ad, rfl, hr1, hr2, hr3⟩
  · refine wpList_append_own_none hgd s x 23 ho w0.heap.size 5 i0 1 Tryd.underlying23 hi v l.length (bytesV l) hs h.1 hx (K _ _ ?_)
    rw [List.append_nil]; exact h
  · refine wpList_append_own_at w hgd s x 23 ho w0.heap.size 5 i0 (.int .u8 0) 1 1 Tryd.underlying23 hi hz0 hz1 hz2 rfl (by decide) v l.length (bytesV l) hs h.1 ad r.length c (bytesV r) hx (by rw [bytesV_len, Nat.mul_one]) ?_ ?_ (by unfold maxLen; omega) (by omega) h.2.size ?_
    · intro j u hj
      unfold bytesV at hj
      rw [List.getElem?_map] at hj
      obtain ⟨c', hc', rfl⟩ := Option.map_eq_some_iff.1 hj
      obtain ⟨hlt, rfl⟩ := List.getElem?_eq_some_iff.1 hc'
      exact hr3 j hlt
    · intro u hu
      unfold bytesV at hu
      obtain ⟨c', _, rfl⟩ := List.mem_map.1 hu
      rfl
    · intro v' w' hown hgrow _ _
      refine K v' w' ⟨?_, h.2.grown hgrow h.2.size fun k hk => (World.ownsRow.lt h.1 k hk).1⟩
      rw [List.length_append]
      have e : bytesV (l ++ r) = bytesV l ++ bytesV r := by unfold bytesV; rw [List.map_append]
      rw [e]; exact hown
end

end Go.Proofs.YtbplpfcgmmflnaaDoor
namespace Go.Proofs.YtbplpfcgmmflnaaDoor
open Go.RowKit

def BytesV (w : World) (v : Value) (l : List UInt8) : Prop := ∃ a c, v = .slice a l.length c ∧ IsBytes w a l c
theorem BytesV.keep {w w' : World} {v : Value} {l : List UInt8} (h : BytesV w v l) (hb : Below w.heap.size w w') : BytesV w' v l := by
  obtain ⟨a, c, h1, h2⟩ := h
  exact ⟨a, c, h1, h2.keep hb⟩
theorem AccB.bytesV {w0 w : World} {v : Value} {l : List UInt8} (h : AccB w0 w v l) : BytesV w v l := h.shape
def Spec.bytes (l : List UInt8) : Spec := ⟨fun v w => BytesV w v l, fun _ _ _ h hb => h.keep hb⟩

section
variable {Q : Exit → Act → World → Prop} {a : Act} {w : World} {o : Oper} {s : Spec}
theorem loc_eql_str {x y : Operand} {t : TypeId} (ho : o.op = .binOp .eql 9 x y t) {b : ByteArray} (hx : a.eval x = .string b) (hy : a.eval y = .string b) (hs : s.p (.bool true) w) :
    o.wp Tryd.prog a w (fun a' w' => ∃ v, a' = a.put o.dst v ∧ Below w.heap.size w w' ∧ s.p v w') Q :=
  loc_run (v := .bool true) (by
    unfold execOp
    simp [ho, hx, hy, eqGuard, binOp, Op.stringOp]) (Below.refl _ _) hs
theorem loc_eql_int {x y : Operand} {t : TypeId} (ho : o.op = .binOp .eql 3 x y t) {n : Int} (hx : a.eval x = .int .i64 n) (hy : a.eval y = .int .i64 n) (hs : s.p (.bool true) w) :
    o.wp Tryd.prog a w (fun a' w' => ∃ v, a' = a.put o.dst v ∧ Below w.heap.size w w' ∧ s.p v w') Q :=
  loc_run (v := .bool true) (by
    unfold execOp
    simp [ho, hx, hy, eqGuard, binOp, Op.intCmp]) (Below.refl _ _) hs
theorem loc_len {x : Operand} (ho : o.op = .call { callee := .builtin .len, args := #[x], argTypes := #[23] }) {ad : Option Addr} {n c : Nat} (hx : a.eval x = .slice ad n c) (hs : s.p (.int .i64 n) w) :
    o.wp Tryd.prog a w (fun a' w' => ∃ v, a' = a.put o.dst v ∧ Below w.heap.size w w' ∧ s.p v w') Q :=
  loc_run (v := .int .i64 n) (by
    unfold execOp
    simp [ho, hx, resolve, invoke, builtin, Builtin.len_, run_underlying Tryd.underlying23]
    try rfl) (Below.refl _ _) hs
theorem loc_string {x : Operand} (ho : o.op = .convert 23 9 x) {l : List UInt8} (h : BytesV w (a.eval x) l) (hs : s.p (.string ⟨l.toArray⟩) w) :
    o.wp Tryd.prog a w (fun a' w' => ∃ v, a' = a.put o.dst v ∧ Below w.heap.size w w' ∧ s.p v w') Q := by
  obtain ⟨ad, c, h1, h2⟩ := h
  refine loc_convert ho ?_ hs
  rw [h1]
  exact conv_bytes h2
end
end Go.Proofs.YtbplpfcgmmflnaaDoor
namespace Go.Proofs.YtbplpfcgmmflnaaDoor
open Go.RowKit

/-- .. with what stays known of the value alone. -/
structure SpecQ extends Spec where
  q : Value → Prop
  weak : ∀ v w, p v w → q v
def SpecQ.val (v : Value) : SpecQ := ⟨.val v, fun x => x = v, fun _ _ h => h⟩
def SpecQ.of (s : Spec) : SpecQ := ⟨s, fun _ => True, fun _ _ _ => trivial⟩

def specAt (S : List (Option SpecQ)) : List Spec := S.map fun | some s => s.toSpec | none => .any
def StepsS (P : Program) (Q : Exit → Act → World → Prop) (ops : Array Oper) (S : List (Option SpecQ)) (a0 : Act) (w0 : World) : List Oper → List (Option SpecQ) → Prop
  | o :: os, some s :: ss => StepOK P Q ops (specAt S) a0 w0 o s.toSpec ∧ StepsS P Q ops S a0 w0 os ss
  | _ :: os, none :: ss => StepsS P Q ops S a0 w0 os ss
  | [], [] => True
  | _, _ => False
/-- Whatever is not among the late ones is waited for by the store. -/
def lateB (ops : Array Oper) (st : Nat) (late : List Nat) : Bool :=
  (List.range ops.size).all fun i => decide (i = st) || late.contains i || (match ops[st]? with | some o => waitsFor o i | none => false)
section
variable {P : Program} {Q : Exit → Act → World → Prop} {ops : Array Oper} {S : List (Option SpecQ)} {a0 : Act} {w0 : World}
theorem stepsS_at : ∀ {os : List Oper} {ss : List (Option SpecQ)}, StepsS P Q ops S a0 w0 os ss → ∀ (i : Nat) (o : Oper), os[i]? = some o → ∃ s, ss[i]? = some s ∧ ∀ s', s = some s' → StepOK P Q ops (specAt S) a0 w0 o s'.toSpec
  | o :: os, some s :: ss, h, 0, _, rfl => ⟨some s, rfl, fun s' e => by obtain rfl := Option.some.inj e; exact h.1⟩
  | o :: os, some s :: ss, h, i + 1, o', ho => stepsS_at (os := os) (ss := ss) h.2 i o' ho
  | o :: os, none :: ss, h, 0, _, rfl => ⟨none, rfl, fun s' e => by cases e⟩
  | o :: os, none :: ss, h, i + 1, o', ho => stepsS_at (os := os) (ss := ss) h i o' ho
  | [], _, _, i, _, ho => by simp at ho
theorem specAt_get {j : Nat} {s : SpecQ} (h : S[j]? = some (some s)) : (specAt S)[j]? = some s.toSpec := by unfold specAt; rw [List.getElem?_map, h]; rfl
theorem fr_put {a : Act} {o : Oper} {i : Nat} (ho : ops[i]? = some o) (hf : Fr ops a0 a) (v : Value) : Fr ops a0 (a.put o.dst v) := by
  refine ⟨?_, ?_, fun k hk => ?_⟩
  · have := hf.defers
    cases o.dst <;> simpa [Act.put] using this
  · have := hf.size
    cases o.dst <;> simpa [Act.put] using this
  · rw [eval_put_other, hf.base k hk]
    intro hk2
    have : isDst ops k = true := by
      unfold isDst
      exact List.any_eq_true.2 ⟨o, Array.mem_toList_iff.2 (Array.mem_of_getElem? ho), by rw [hk2]; simp⟩
    rw [hk] at this; cases this
theorem holds_put {a : Act} {o : Oper} {i j : Nat} {w : World} {T : List Spec} (hd : dstsOk ops a0.tmps.size = true) (ho : ops[i]? = some o) (hji : j ≠ i) {v : Value} (h : Holds ops T a w j) : Holds ops T (a.put o.dst v) w j := by
  unfold Holds at *
  cases hoj : ops[j]? with
  | none => simp
  | some o' =>
    cases hsj : T[j]? with
    | none => simp
    | some s' =>
      simp only [hoj, hsj] at h ⊢
      cases hdo : o'.dst with
      | none => trivial
      | some d =>
        simp only [hdo] at h ⊢
        show s'.p ((a.put o.dst v).eval (.tmp d)) w
        rw [eval_put_other]
        · exact h
        · intro e
          exact (dsts_lt hd ho e).2 j o' hoj hji hdo
end

section
variable {P : Program} {Q : Exit → Act → World → Prop} {ops : Array Oper} {a : Act} {w : World} {o : Oper} {s : SpecQ}
end
end Go.Proofs.YtbplpfcgmmflnaaDoor
namespace Go.Proofs.YtbplpfcgmmflnaaDoor

/-- A fact that no tactic looks into (Hid is a definition, which some unfold). -/
structure Box (p : Prop) : Prop where
  out : p
def kk : List UInt32 := [1116352408, 1899447441, 3049323471, 3921009573, 961987163, 1508970993, 2453635748, 2870763221, 3624381080, 310598401, 607225278, 1426881987, 1925078388, 2162078206, 2614888103, 3248222580, 3835390401, 4022224774, 264347078, 604807628, 770255983, 1249150122, 1555081692, 1996064986, 2554220882, 2821834349, 2952996808, 3210313671, 3336571891, 3584528711, 113926993, 338241895, 666307205, 773529912, 1294757372, 1396182291, 1695183700, 1986661051, 2177026350, 2456956037, 2730485921, 2820302411, 3259730800, 3345764771, 3516065817, 3600352804, 4094571909, 275423344, 430227734, 506948616, 659060556, 883997877, 958139571, 1322822218, 1537002063, 1747873779, 1955562222, 2024104815, 2227730452, 2361852424, 2428436474, 2756734187, 3204031479, 3329325298]
/-- Four bytes as a word, the first one the greatest. -/
def w4 (l : List UInt8) : UInt32 := l.foldl (fun x c => (x <<< 8) ||| c.toUInt32) 0
end Go.Proofs.YtbplpfcgmmflnaaDoor
namespace Go.Proofs.YtbplpfcgmmflnaaDoor
open Go.RowKit

theorem below_oneF (w : World) (o : Obj) : Below w.heap.size w (w.alloc o) := (Below.refl _ _).alloc (Nat.le_refl _) _
/-- Whether a field is valid. -/
def fldB (n v : ByteArray) : Bool := tokS n && valS v
theorem fldB_tok {n v : ByteArray} (h : tokS n = false) : fldB n v = false := by unfold fldB; rw [h]; rfl
theorem fldB_val {n v : ByteArray} (h : tokS n = true) : fldB n v = valS v := by unfold fldB; rw [h]; rfl

set_option maxHeartbeats 1000000 in
theorem hdrValid_any (n v : ByteArray) (w : World) (hn : n.size ≤ maxLen) (hv : v.size ≤ maxLen) :
    Calls Tryd.prog 48 #[.agg #[.string n, .string v]] w fun e w' => e = .returned (.bool (fldB n v)) ∧ Below w.heap.size w w' := by
  go_enter Tryd.func48, Tryd.ntmps48
  by_cases ht : tokS n = true
  · have HT := Box.mk ht
    go_wp2_with fail
    refine (token_any n _ hn).mono ?_
    rintro e w1 ⟨rfl, rfl⟩
    go_wp2_with fail
    refine (value_any v _ hv).mono ?_
    rintro e w1 ⟨rfl, hb⟩
    clear ht
    go_wp2_with fail
    go_ret
    exact ⟨ret_bool (fldB_val HT.out).symm, below_trans (below_oneF _ _) hb⟩
  · have ht' : tokS n = false := by simpa using ht
    have HT := Box.mk ht'
    clear ht
    go_wp2_with fail
    refine (token_any n _ hn).mono ?_
    rintro e w1 ⟨rfl, rfl⟩
    go_wp2_with fail
    go_ret
    exact ⟨ret_bool (fldB_tok HT.out).symm, below_oneF _ _⟩

set_option maxHeartbeats 1000000 in
theorem refFieldValid_any (n v : ByteArray) (w : World) (hn : n.size ≤ maxLen) (hv : v.size ≤ maxLen) :
    Calls Tryd.prog 42 #[.agg #[.string n, .string v]] w fun e w' => e = .returned (.bool (fldB n v)) ∧ Below w.heap.size w w' := by
  go_enter Tryd.func42, Tryd.ntmps42
  by_cases ht : tokS n = true
  · have HT := Box.mk ht
    go_wp2_with fail
    refine (refToken_any n _ hn).mono ?_
    rintro e w1 ⟨rfl, rfl⟩
    go_wp2_with fail
    refine (refValue_any v _ hv).mono ?_
    rintro e w1 ⟨rfl, rfl⟩
    clear ht
    go_wp2_with fail
    go_ret
    exact ⟨ret_bool (fldB_val HT.out).symm, below_oneF _ _⟩
  · have ht' : tokS n = false := by simpa using ht
    have HT := Box.mk ht'
    clear ht
    go_wp2_with fail
    refine (refToken_any n _ hn).mono ?_
    rintro e w1 ⟨rfl, rfl⟩
    go_wp2_with fail
    go_ret
    exact ⟨ret_bool (fldB_tok HT.out).symm, below_oneF _ _⟩

end Go.Proofs.YtbplpfcgmmflnaaDoor
namespace Go.Proofs.YtbplpfcgmmflnaaDoor
open Go.ChangeShapes Go.WideShapes Go.ChangeAt Go.RowKit

abbrev Fld := ByteArray × ByteArray
theorem run_loadF (w : World) (p : Addr) (n v : ByteArray) (h0 : w.cell? p = some (.string n)) (h1 : w.cell? (p.add 1) = some (.string v)) :
    (Instr.loadAt 67 (.pointer (some p))).run Tryd.prog w = .ok (.agg #[.string n, .string v]) w := by
  have hl : (loadCells p 2).run Tryd.prog w = .ok #[.string n, .string v] w :=
    run_loadCells_list (P := Tryd.prog) w p [.string n, .string v] (fun j u hj => by
      match j, hj with
      | 0, hj => simp at hj; subst hj; rw [show p.add 0 = p by unfold Addr.add; split <;> simp_all]; exact h0
      | 1, hj => simp at hj; subst hj; exact h1
      | j + 2, hj => simp at hj)
  have hagg : (isAgg 67).run Tryd.prog w = .ok true w := by
    unfold isAgg
    rw [Sem.run_bind, run_underlying Tryd.underlying67 w]; rfl
  have hs : ((Tryd.prog.info? 67).map (·.size)) = some 2 := by kernel_rfl
  cases hq : Tryd.prog.info? 67 with
  | none => rw [hq] at hs; cases hs
  | some i =>
    have hs' : i.size = 2 := by rw [hq] at hs; simpa using hs
    simp [Instr.loadAt, Instr.sureAddr, loadVar, Sem.run_bind, hagg, sizeOf, typeInfo, hq, hs', hl]
section
variable {ops : Array Oper} {rest : List Oper} {o : Oper} {act : Act} {Q : Exit → Act → World → Prop}
end

end Go.Proofs.YtbplpfcgmmflnaaDoor
namespace Go.Proofs.YtbplpfcgmmflnaaDoor
open Go.RowKit

theorem new_cellF (w : World) (cs : Array Value) (t : TypeId) (j : Nat) : (w.alloc (.cells cs t (0, 0))).cell? ⟨w.heap.size, j, none⟩ = cs[j]? :=
  cell_of_row _ _ _ _ _ _ (heap_alloc_new w (.cells cs t (0, 0)))
theorem below_twoF {w w1 : World} (h : Below w.heap.size w w1) (o : Obj) : Below w.heap.size w (w1.alloc o) := below_trans h (below_oneF w1 o)

section
variable {ops : Array Oper} {rest : List Oper} {o : Oper} {act : Act} {Q : Exit → Act → World → Prop}
end
end Go.Proofs.YtbplpfcgmmflnaaDoor
namespace Go.Proofs.YtbplpfcgmmflnaaDoor
open Go.RowKit

theorem StrsIn.at {w : World} {b off : Nat} {l : List ByteArray} (h : StrsIn w (some ⟨b, off, none⟩) l) : StrsAt w (some ⟨b, off, none⟩) l := fun j hj => by
  obtain ⟨x, e, hc⟩ := h j hj
  obtain rfl := Option.some.inj e
  exact ⟨b, off, rfl, by rw [← hc, show (⟨b, off, none⟩ : Addr).add j = ⟨b, off + j, none⟩ by unfold Addr.add; split <;> simp_all]⟩

section
variable (w : World) (m : Int)
end
end Go.Proofs.YtbplpfcgmmflnaaDoor
namespace Go.Proofs.YtbplpfcgmmflnaaDoor
open Go.RowKit

def LastOK (P : Program) (Q : Exit → Act → World → Prop) (ops : Array Oper) (S : List (Option SpecQ)) (a0 : Act) (w0 : World) (st : Nat) : Prop :=
  match ops[st]? with
  | some o => ∀ a w, Below w0.heap.size w0 w → Fr ops a0 a → (∀ j, j < ops.size → j ≠ st → Holds ops (specAt S) a w j) → Region.wanted o (yielded ops a.tmps) = true ∧ o.wp P a w (fun a' w' => Q .normal a' w') Q
  | none => False

section
variable {P : Program} {Q : Exit → Act → World → Prop} {ops : Array Oper} {S : List (Option SpecQ)} {a0 : Act} {w0 : World}
theorem wp_region_last {id : Nat} (S : List (Option SpecQ)) (st : Nat) (hm : P.follows .mixedOrders = true)
    (hB : (List.range ops.size).all (fun i => match ops[i]? with | some x => x.after.all (fun e => !Region.binds .any e || decide (e.on < i)) | none => true) = true)
    (hd : dstsOk ops a0.tmps.size = true) (hl : lateB ops st [] = true) (hst : S[st]? = some none) (hlen : S.length = ops.size) (hone : (List.range S.length).all (fun i => decide (i = st) || (match S[i]? with | some (some _) => true | _ => false)) = true)
    (h : StepsS P Q ops S a0 w0 ops.toList S) (hS : LastOK P Q ops S a0 w0 st) : (Code.region id ops true).wp P Q a0 w0 := by
  have hstlt : st < ops.size := by rw [← hlen]; exact (List.getElem?_eq_some_iff.1 hst).1
  have hosto : ops[st]? = some ops[st] := Array.getElem?_eq_getElem hstlt
  unfold LastOK at hS
  rw [hosto] at hS
  simp only at hS
  have hwait : ∀ i, i < ops.size → i ≠ st → waitsFor ops[st] i = true := fun i hi hne => by
    have := List.all_eq_true.1 hl i (List.mem_range.2 hi)
    rw [hosto] at this
    simp only [Bool.or_eq_true, decide_eq_true_eq, List.contains_nil, Bool.false_eq_true, or_false] at this
    rcases this with h3 | h3
    · exact absurd h3 hne
    · exact h3
  refine wp_region_inv hm (fun m a w => (m.getD st false = false ∧ Fr ops a0 a ∧ Below w0.heap.size w0 w ∧ ∀ j, m.getD j false = true → Holds ops (specAt S) a w j) ∨
    (m.getD st false = true ∧ Q .normal a w ∧ ∀ j, waitsFor ops[st] j = true → m.getD j false = true)) ?_ ?_ ?_
  · rintro m a w hs hh i hi
    obtain ⟨h1, o, ho, hall⟩ := mem_ready.1 hi
    have hil : i < ops.size := (Array.getElem?_eq_some_iff.1 ho).1
    have hmi : m.getD i false = false := by
      have hs' : i < m.size := by rw [hs]; exact hil
      simp [hs'] at h1 ⊢; exact h1
    have hdeps : ∀ j, waitsFor o j = true → m.getD j false = true := fun j hj => by
      obtain ⟨e, he, h2⟩ := List.any_eq_true.1 hj
      simp only [Bool.and_eq_true, beq_iff_eq] at h2
      obtain ⟨h3, rfl⟩ := h2
      exact hall e (Array.mem_toList_iff.1 he) h3
    unfold wpOp
    simp only [ho]
    by_cases hist : i = st
    · subst hist
      have hoe : o = ops[i] := Option.some.inj (ho.symm.trans hosto)
      subst hoe
      rcases hh with ⟨_, hf, hb, hh⟩ | ⟨h2, _⟩
      · obtain ⟨hw, hwp⟩ := hS a w hb hf fun j hj hne => hh j (hdeps j (hwait j hj hne))
        rw [if_pos hw]
        refine .inl (Oper.wp_mono ?_ hwp)
        intro a' w' hq
        have hsz : i < m.size := by rw [hs]; exact hil
        exact .inr ⟨by simp [hsz], hq, fun j hj => getD_set_true (hdeps j hj)⟩
      · rw [hmi] at h2; cases h2
    · have hsi : ∃ s, S[i]? = some (some s) := by
        have := List.all_eq_true.1 hone i (List.mem_range.2 (by rw [hlen]; exact hil))
        cases hq : S[i]? with
        | none => rw [hq] at this; simp [hist] at this
        | some x =>
          cases x with
          | none => rw [hq] at this; simp [hist] at this
          | some s => exact ⟨s, rfl⟩
      obtain ⟨s, hsi⟩ := hsi
      rcases hh with ⟨h2, hf, hb, hh⟩ | ⟨h2, hp, hall2⟩
      · obtain ⟨s', hs', hstep⟩ := stepsS_at h i o (by simpa using ho)
        obtain rfl : s' = some s := Option.some.inj (hs'.symm.trans hsi)
        obtain ⟨hw, hwp⟩ := hstep s rfl a w hb hf fun j hj => hh j (hdeps j hj)
        rw [if_pos hw]
        refine .inl (Oper.wp_mono ?_ hwp)
        rintro a' w' ⟨v, rfl, hb', hsp⟩
        refine .inl ⟨by rw [getD_set_ne false hist]; exact h2, fr_put ho hf v, hb.trans (hb'.mono hb.size), fun j hj => ?_⟩
        by_cases hji : j = i
        · subst hji
          unfold Holds
          simp only [ho, specAt_get hsi]
          cases hdo : o.dst with
          | none => trivial
          | some d =>
            show s.p ((a.put (some d) v).eval (.tmp d)) w'
            rw [eval_put_same]
            · exact hsp
            · rw [hf.size]; exact (dsts_lt hd ho hdo).1
        · have hj' : m.getD j false = true := by rw [getD_set_ne false (fun e => hji e.symm)] at hj; exact hj
          exact holds_put hd ho hji (holds_mono (hh j hj') hb')
      · have := hall2 i (hwait i hil hist)
        rw [hmi] at this; cases this
  · rintro m a w hs hh hr
    have hmarked : ∀ j, j < ops.size → m.getD j false = true := fun j => by
      induction j using Nat.strongRecOn with
      | _ j ih =>
        intro hj
        cases hmj : m.getD j false with
        | true => rfl
        | false =>
          exfalso
          have hoj : ops[j]? = some ops[j] := Array.getElem?_eq_getElem hj
          have hbk := List.all_eq_true.1 hB j (List.mem_range.2 hj)
          rw [hoj] at hbk
          simp only [Array.all_eq_true_iff_forall_mem, Bool.or_eq_true, Bool.not_eq_true', decide_eq_true_eq] at hbk
          have hlt : ∀ e ∈ ops[j].after, Region.binds .any e = true → e.on < j := fun e he hbd => by
            rcases hbk e he with h | h
            · rw [hbd] at h; cases h
            · exact h
          have : j ∈ Region.ready .any ops m := mem_ready.2 ⟨by
            have hs' : j < m.size := by rw [hs]; exact hj
            simp [hs'] at hmj ⊢; exact hmj, ops[j], hoj, fun e he hbd => ih _ (hlt e he hbd) (by have := hlt e he hbd; omega)⟩
          rw [hr] at this; cases this
    rcases hh with ⟨h2, _⟩ | ⟨_, hp, _⟩
    · rw [hmarked st hstlt] at h2; cases h2
    · exact hp
  · refine .inl ⟨?_, ⟨rfl, rfl, fun _ _ => rfl⟩, (Below.refl _ _).drew, fun j hj => ?_⟩
    · simp only [Array.getD_eq_getD_getElem?, Array.getElem?_replicate]; split <;> rfl
    · exfalso
      simp only [Array.getD_eq_getD_getElem?, Array.getElem?_replicate] at hj
      split at hj <;> simp at hj
end
end Go.Proofs.YtbplpfcgmmflnaaDoor
namespace Go.Proofs.YtbplpfcgmmflnaaDoor
open Go.RowKit

def colonI (s : ByteArray) : Int := Lib.indexByte s.data.toList 58
theorem colonI_one (s : ByteArray) (h : (⟨#[58]⟩ : ByteArray) = s) : colonI s = 0 := by subst h; rfl

set_option maxRecDepth 100000 in
set_option maxHeartbeats 2000000 in
theorem idxLite_any (s c : ByteArray) (w : World) (hz : c.size = 1) (h0 : ∀ h, c[0]'h = (58 : UInt8)) (hc : c = ⟨#[58]⟩) :
    Calls Tryd.prog 65 #[.string s, .string c] w fun e w' => e = .returned (.int .i64 (colonI s)) ∧ w = w' := by
  by_cases he : c = s
  · have HE := Box.mk (colonI_one s (by rw [← hc]; exact he))
    have h1 : (c.toList == s.toList) = true := by rw [toList_eq]; simp [he]
    clear he hc
    go_enter Tryd.func65, Tryd.ntmps65
    go_wp2_with fail
    go_ret
    exact ⟨ret_int HE.out.symm, rfl⟩
  · have h1 : (c.toList == s.toList) = false := by rw [toList_eq]; simp [he]
    clear he hc
    go_enter Tryd.func65, Tryd.ntmps65
    go_wp2_with fail
    refine (indexByteLite_any s 58 _).mono ?_
    rintro e w1 ⟨rfl, rfl⟩
    go_wp2_with fail
    go_ret
    exact ⟨rfl, rfl⟩

theorem colonI_ge (s : ByteArray) : -1 ≤ colonI s := Lib.indexByte_ge _ _
theorem colonI_lt (s : ByteArray) {k : Nat} (h : colonI s = k) : k < s.size := by
  have := (Lib.indexByte_some h).1
  have := (List.getElem?_eq_some_iff.1 this).1
  simpa using this

set_option maxRecDepth 100000 in
set_option maxHeartbeats 2000000 in
theorem liteCut_yes (s c : ByteArray) (k : Nat) (w : World) (hs : s.size ≤ maxLen) (hz : c.size = 1) (h0 : ∀ h, c[0]'h = (58 : UInt8)) (hc : c = ⟨#[58]⟩) (hk : colonI s = k) :
    Calls Tryd.prog 54 #[.string s, .string c] w fun e w' => e = .returned (.tuple #[.string (s.extract 0 k), .string (s.extract (k + 1) s.size), .bool true]) ∧ Below w.heap.size w w' := by
  have hlt := colonI_lt s hk
  unfold maxLen at hs
  have HK := Box.mk hk
  have H0 := Box.mk (And.intro h0 hc)
  clear hk h0 hc
  go_enter Tryd.func54, Tryd.ntmps54
  go_wp2_with fail
  refine (idxLite_any s c _ hz H0.out.1 H0.out.2).mono ?_
  rintro e w1 ⟨he, rfl⟩
  rw [HK.out] at he
  subst he
  go_wp2_with fail
  go_quiet (fail)
  go_wp2
  go_ret3
  exact ⟨rfl, below_drewN (Below.refl _ _) _⟩

set_option maxRecDepth 100000 in
set_option maxHeartbeats 2000000 in
theorem liteCut_no (s c : ByteArray) (w : World) (hz : c.size = 1) (h0 : ∀ h, c[0]'h = (58 : UInt8)) (hc : c = ⟨#[58]⟩) (hk : colonI s = -1) :
    Calls Tryd.prog 54 #[.string s, .string c] w fun e w' => e = .returned (.tuple #[.string s, .string ⟨#[]⟩, .bool false]) ∧ Below w.heap.size w w' := by
  have HK := Box.mk hk
  have H0 := Box.mk (And.intro h0 hc)
  clear hk h0 hc
  go_enter Tryd.func54, Tryd.ntmps54
  go_wp2_with fail
  refine (idxLite_any s c _ hz H0.out.1 H0.out.2).mono ?_
  rintro e w1 ⟨he, rfl⟩
  rw [HK.out] at he
  subst he
  go_wp2_with fail
  go_ret3
  exact ⟨rfl, Below.refl _ _⟩

set_option maxHeartbeats 2000000 in
theorem cut_yes (s : ByteArray) (k : Nat) (w : World) (hs : s.size ≤ maxLen) (hk : colonI s = k) :
    Calls Tryd.prog 44 #[.string s, .string ⟨#[58]⟩] w fun e w' => e = .returned (.tuple #[.string (s.extract 0 k), .string (s.extract (k + 1) s.size), .bool true]) ∧ Below w.heap.size w w' := by
  have HK := Box.mk hk
  clear hk
  go_enter Tryd.func44, Tryd.ntmps44
  go_wp2_with fail
  refine (liteCut_yes s _ k _ hs rfl (fun _ => rfl) rfl HK.out).mono ?_
  rintro e w1 ⟨rfl, hb⟩
  have HB := Box.mk hb
  clear hb
  go_wp2_with fail
  go_ret3
  exact ⟨rfl, HB.out⟩
set_option maxHeartbeats 2000000 in
theorem cut_no (s : ByteArray) (w : World) (hk : colonI s = -1) :
    Calls Tryd.prog 44 #[.string s, .string ⟨#[58]⟩] w fun e w' => e = .returned (.tuple #[.string s, .string ⟨#[]⟩, .bool false]) ∧ Below w.heap.size w w' := by
  have HK := Box.mk hk
  clear hk
  go_enter Tryd.func44, Tryd.ntmps44
  go_wp2_with fail
  refine (liteCut_no s _ _ rfl (fun _ => rfl) rfl HK.out).mono ?_
  rintro e w1 ⟨rfl, hb⟩
  have HB := Box.mk hb
  clear hb
  go_wp2_with fail
  go_ret3
  exact ⟨rfl, HB.out⟩

/-- What Parse returns. -/
def parseF (s : ByteArray) : Option Fld :=
  if 0 ≤ colonI s then
    (if fldB (s.extract 0 (colonI s).toNat) (trimBA (s.extract ((colonI s).toNat + 1) s.size)) then some (s.extract 0 (colonI s).toNat, trimBA (s.extract ((colonI s).toNat + 1) s.size)) else none)
  else none
def parseV : Option Fld → Value
  | some f => .tuple #[.agg #[.string f.1, .string f.2], .int .i64 0]
  | none => .tuple #[.agg #[.string ⟨#[]⟩, .string ⟨#[]⟩], .int .i64 2]
theorem parseF_no {s : ByteArray} (h : colonI s = -1) : parseF s = none := by unfold parseF; rw [h]; rfl
theorem parseF_at {s : ByteArray} {k : Nat} (h : colonI s = k) : parseF s = if fldB (s.extract 0 k) (trimBA (s.extract (k + 1) s.size)) then some (s.extract 0 k, trimBA (s.extract (k + 1) s.size)) else none := by
  unfold parseF; rw [h]; simp
theorem extract_le (s : ByteArray) (i j : Nat) : (s.extract i j).size ≤ s.size := by
  rw [ByteArray.size_extract]; omega

theorem results_row_tmpF {P : Program} {fn : Func} {q p : Tmp} {ty : TypeId} (h : fn.results = #[.cell p ty, .tmp q]) (tmps : Array Value) (w : World) (g : Nat) (t : TypeId) (cs : Array Value) (fr : Nat × Nat) (d : TypeDesc)
    (hp : tmps.getD p undef = .pointer (some ⟨g, 0, none⟩)) (hg : w.heap[g]? = some (.cells cs t fr))
    (hu : P.underlying ty = some d) (hd : (match d with | .struct _ | .array _ _ => true | _ => false) = true) (hi : (P.info? ty).map (·.size) = some cs.size) :
    (results fn tmps).run P w = .ok (.tuple #[.agg cs, tmps.getD q undef]) w := by
  have hp' : tmps[p]?.getD undef = .pointer (some ⟨g, 0, none⟩) := by simpa using hp
  simp [results, h, hp', asAddr, run_loadVar_row w g t ty cs fr d hg hu hd hi]
theorem sizeF : (Tryd.prog.info? 67).map (·.size) = some 2 := by kernel_rfl
theorem oneF (a b : ByteArray) : (#[Value.string a, .string b] : Array Value).all (·.oneCell') = true := by simp [Value.oneCell']
/-- A field's variable. -/
def FVar (w : World) (g : Nat) (n v : ByteArray) : Prop := w.heap[g]? = some (.cells #[.string n, .string v] 67 (0, 0))
theorem FVar.keep {w w' : World} {g : Nat} {n v : ByteArray} (h : FVar w g n v) (hb : Below w.heap.size w w') : FVar w' g n v := by
  unfold FVar at *
  rw [hb.block g (Array.getElem?_eq_some_iff.1 h).1]; exact h
theorem FVar.new (w : World) (n v : ByteArray) : FVar (w.alloc (.cells #[.string n, .string v] 67)) w.heap.size n v := heap_alloc_new _ _
theorem FVar.c0 {w : World} {g : Nat} {n v : ByteArray} (h : FVar w g n v) : w.cell? ⟨g, 0, none⟩ = some (.string n) := by rw [cell_of_row _ _ _ _ _ _ h]; rfl
theorem FVar.c1 {w : World} {g : Nat} {n v : ByteArray} (h : FVar w g n v) : w.cell? ⟨g, 1, none⟩ = some (.string v) := by rw [cell_of_row _ _ _ _ _ _ h]; rfl
theorem FVar.run {w : World} {g : Nat} {n v : ByteArray} (h : FVar w g n v) : (Instr.loadAt 67 (.pointer (some ⟨g, 0, none⟩))).run Tryd.prog w = .ok (.agg #[.string n, .string v]) w :=
  run_loadF w _ _ _ h.c0 h.c1
theorem FVar.lt {w : World} {g : Nat} {n v : ByteArray} (h : FVar w g n v) : g < w.heap.size := (Array.getElem?_eq_some_iff.1 h).1

set_option maxRecDepth 100000 in
set_option maxHeartbeats 2000000 in
theorem fParse_any (s : ByteArray) (w : World) (hs : s.size ≤ maxLen) :
    Calls Tryd.prog 39 #[.string s] w fun e w' => e = .returned (parseV (parseF s)) ∧ Below w.heap.size w w' := by
  have hge := colonI_ge s
  by_cases hc : colonI s = -1
  · have HP := Box.mk (parseF_no hc)
    have HC := Box.mk hc
    clear hc hge
    go_enter Tryd.func39, Tryd.ntmps39
    go_wp2_with fail
    refine (cut_no s _ HC.out).mono ?_
    rintro e w1 ⟨rfl, hb1⟩
    have HB1 := Box.mk (below_trans (below_oneF w (.cells #[.string ⟨#[]⟩, .string ⟨#[]⟩] 67)) hb1)
    have HR1 := Box.mk ((FVar.new w ⟨#[]⟩ ⟨#[]⟩).keep hb1)
    clear hb1
    go_wp2_with fail
    refine (trim_any _ _ (by decide)).mono ?_
    rintro e w2 ⟨rfl, hb2⟩
    have hb3 := below_trans hb2 (below_oneF w2 (.cells #[.string s, .string (trimBA ⟨#[]⟩)] 78))
    have HB2 := Box.mk (below_trans HB1.out hb3)
    have HR2 := Box.mk (HR1.out.keep hb3)
    clear hb2 hb3 HB1 HR1
    go_wp2_with (refine wpList_store_row rfl 67 _ _ rfl w.heap.size #[.string ⟨#[]⟩, .string ⟨#[]⟩] rfl rfl 67 _ HR2.out sizeF rfl (oneF _ _) ?_)
    (try simp only [Exit.inBlock, Exit.then])
    refine bodyPost_ret (results_row_tmpF rfl _ _ w.heap.size _ _ _ _ rfl (setRow_heap _ _ _ _ _ _ HR2.out) Tryd.underlying67 rfl sizeF) rfl ?_
    exact ⟨by rw [HP.out]; rfl, below_setRow HB2.out (Nat.le_refl _) _⟩
  · obtain ⟨k, hk⟩ : ∃ k : Nat, colonI s = k := ⟨(colonI s).toNat, by omega⟩
    have HC := Box.mk hk
    have HP0 := Box.mk (parseF_at hk)
    have HZ := Box.mk (And.intro (Nat.le_trans (extract_le s 0 k) hs) (Nat.le_trans (extract_le s (k + 1) s.size) hs))
    clear hc hge hk
    go_enter Tryd.func39, Tryd.ntmps39
    go_wp2_with fail
    refine (cut_yes s k _ hs HC.out).mono ?_
    rintro e w1 ⟨rfl, hb1⟩
    have HB1 := Box.mk (below_trans (below_oneF w (.cells #[.string ⟨#[]⟩, .string ⟨#[]⟩] 67)) hb1)
    have HR1 := Box.mk ((FVar.new w ⟨#[]⟩ ⟨#[]⟩).keep hb1)
    clear hb1
    generalize s.extract 0 k = n at *
    generalize s.extract (k + 1) s.size = v0 at *
    go_wp2_with fail
    refine (trim_any v0 _ HZ.out.2).mono ?_
    rintro e w2 ⟨rfl, hb2⟩
    have hvz := Box.mk (Nat.le_trans (trimBA_size v0) HZ.out.2)
    generalize trimBA v0 = v at *
    have hb3 := below_trans hb2 (below_oneF w2 (.cells #[.string n, .string v] 78))
    have HB2 := Box.mk (below_trans HB1.out hb3)
    have HR2 := Box.mk (HR1.out.keep hb3)
    clear hb2 hb3 HB1 HR1
    by_cases hv : fldB n v = true
    · have HP := Box.mk (show parseF s = some (n, v) by rw [HP0.out, if_pos hv])
      have HV := Box.mk hv
      clear hv HP0
      go_wp2_with fail
      refine (hdrValid_any n v _ HZ.out.1 hvz.out).mono ?_
      rintro e w3 ⟨he, hb3⟩
      rw [HV.out] at he
      subst he
      have HB3 := Box.mk (below_trans HB2.out hb3)
      have HR3 := Box.mk (HR2.out.keep hb3)
      have hc0 : w3.cell? ⟨w2.heap.size, 0, none⟩ = some (.string n) := below_cell hb3 (by rw [new_cellF]; rfl)
      have hc1 : w3.cell? ⟨w2.heap.size, 1, none⟩ = some (.string v) := below_cell hb3 (by rw [new_cellF]; rfl)
      clear hb3 HB2 HR2
      go_wp2_with (refine wpList_store_row rfl 67 _ _ rfl w.heap.size #[.string n, .string v] rfl rfl 67 _ HR3.out sizeF rfl (oneF _ _) ?_)
      (try simp only [Exit.inBlock, Exit.then])
      refine bodyPost_ret (results_row_tmpF rfl _ _ w.heap.size _ _ _ _ rfl (setRow_heap _ _ _ _ _ _ HR3.out) Tryd.underlying67 rfl sizeF) rfl ?_
      exact ⟨by rw [HP.out]; rfl, below_setRow HB3.out (Nat.le_refl _) _⟩
    · have HP := Box.mk (show parseF s = none by rw [HP0.out, if_neg hv])
      have HV := Box.mk (show fldB n v = false by simpa using hv)
      clear hv HP0
      go_wp2_with fail
      refine (hdrValid_any n v _ HZ.out.1 hvz.out).mono ?_
      rintro e w3 ⟨he, hb3⟩
      rw [HV.out] at he
      subst he
      have HB3 := Box.mk (below_trans HB2.out hb3)
      have HR3 := Box.mk (HR2.out.keep hb3)
      clear hb3 HB2 HR2
      go_wp2_with (refine wpList_store_row rfl 67 _ _ rfl w.heap.size #[.string ⟨#[]⟩, .string ⟨#[]⟩] rfl rfl 67 _ HR3.out sizeF rfl (oneF _ _) ?_)
      (try simp only [Exit.inBlock, Exit.then])
      refine bodyPost_ret (results_row_tmpF rfl _ _ w.heap.size _ _ _ _ rfl (setRow_heap _ _ _ _ _ _ HR3.out) Tryd.underlying67 rfl sizeF) rfl ?_
      exact ⟨by rw [HP.out]; rfl, below_setRow HB3.out (Nat.le_refl _) _⟩
end Go.Proofs.YtbplpfcgmmflnaaDoor
