/- Contracts of the small functions of package ascii and of its reference: one byte, and loops over the bytes of a string. Contracts of Lower and Fold, of package ascii and of its reference. Plain facts on lists of bytes: trimming from both ends. Slices of strings in memory: one that is read, one that the call appends to, one that is kept beside it. The numbers that the shelf's contracts of Go's library (package strings, package strconv) have in this seat's translation: nothing is claimed here by itself. Contracts of Fold, Value, Trim, of package ascii and of its reference. Plain facts on lists of bytes: cutting at a byte, and the elements of comma-separated lists. Contracts of Same, Split and List, of package ascii and of its reference. Opening arguments: a byte, a slice of bytes. Opening an argument that is a slice of strings. Slices of bytes in memory: one that the call appends to; slices of numbers that are read. A region that draws its order, whose operations all leave the world in a class, but for the last one, which waits for all of them. A region that draws its order, by what each operation leaves: one fact an operation, whatever the order. Appending a slice of bytes that came in to a slice of the call's own; the law HashWrite at open arguments; what the bound on the arguments gives. A region that draws its order and stores once, by what each operation leaves. SHA-256 in plain words, over words of 32 bits; how the arithmetic of the translated code is spelt at them. Fields: Valid of package field and of its reference; a field's line. A set of names in a map: setOf, and whether a field's name is in it. Slices of fields in memory: read, appended to, opened among the arguments. Values, Has and Without, in the reference. Values, Without and Has of package field. Has of package field (a closure), Elements, SameFields. With: appends of whole slices of fields, slices.Grow and slices.Concat. -/
import Derived.Test.YtfghgenboahkkaaDoorRows
import Derived.WalkKit
import Derived.WalkSpells
import Derived.WalkLawsBesides
import Derived.BigQuiet
import Derived.Deep.QuietTactic
import Derived.Lib.Bytealg
import Derived.Lib.IndexLaws
import Derived.Lib.Hide
import Derived.Laws.IdiomStrings
import Derived.Lib.SlTrimSet
import Derived.Lib.IndexBytes
import Derived.Lib.Split
import Derived.Deep.AppendLies
import Derived.Shelf.Strings.SlTrimAscii
import Derived.Shelf.Strings.SplitShaped
import Derived.Shelf.LaysM
import Derived.Shelf.Strings.BuilderK
import Derived.Shelf.Strconv.Itoa4
import Derived.Shelf.Strings.Builder2
import Derived.Test.YtfghgenboahkkaaDoorProg
import Derived.Lib.SplitLaws
import Derived.WalkSmall
import Derived.ProofKit
import Derived.OpenShut
import Derived.Lib.Strings
import Derived.SliceStrings
import Derived.Deep.Quiet
import Derived.Tactics
import Derived.KernelRfl
import Derived.Below
import Derived.Laws.Bits64
import Derived.Lib.SlBytesConst
import Derived.Maps.AppendAt
import Derived.Laws.AppendOwnNone
import Derived.Great.BuildSlice
import Derived.Laws.Rows
import Derived.Laws.BitsAllLaws
import Derived.Laws.Shifts
import Derived.Maps.OwnOps
import Derived.Maps.OwnSet
import Derived.Deep.SlicePairs
import Derived.Lib.AppendZerosOnto
namespace Go.Proofs.YtfghgenboahkkaaDoor
open Go.RowKit
theorem ret_bool {a b : Bool} (h : a = b) : Ending.returned (.bool a) = .returned (.bool b) := by rw [h]
theorem ret_int {k : IntKind} {a b : Int} (h : a = b) : Ending.returned (.int k a) = .returned (.int k b) := by rw [h]
theorem ret_str {a b : ByteArray} (h : a = b) : Ending.returned (.string a) = .returned (.string b) := by rw [h]
def upB (c : Int) : Bool := decide (65 ≤ c) && decide (c ≤ 90)
theorem take_snoc (s : ByteArray) (k : Nat) (h : k < s.size) : s.data.toList.take (k + 1) = s.data.toList.take k ++ [s[k]] := by
 rw [List.take_succ_eq_append_getElem (by simpa using h)]; rfl
theorem take_all (s : ByteArray) (k : Nat) (h : k ≤ s.size) (h2 : ¬ k < s.size) : s.data.toList.take k = s.data.toList := by
 rw [List.take_of_length_le]; simp; omega
set_option maxHeartbeats 400000 in
theorem isUpper_any (c : Int) (w : World) (h0 : 0 ≤ c) (h1 : c ≤ 255) :
  Calls Tryd.prog 47 #[.int .u8 c] w fun e w' => e = .returned (.bool (upB c)) ∧ w = w' := by
 go_enter Tryd.func47, Tryd.ntmps47
 go_wp2
 all_goals go_ret
 all_goals exact ⟨ret_bool (by unfold upB; rw [Bool.eq_iff_iff]; simp; omega), rfl⟩
def lowB (c : UInt8) : UInt8 := if upB c.toNat then c + 32 else c
def lowS (s : ByteArray) : ByteArray := ⟨(s.data.toList.map lowB).toArray⟩
def foldS (a b : ByteArray) : Bool := (lowS a).toList == (lowS b).toList
def BytesAt (w : World) (B : Nat) (l : List UInt8) : Prop :=
 ∀ j (hj : j < l.length), w.cell? ⟨B, j, none⟩ = some (.int .u8 (l[j].toNat : Int)) ∧ w.frozen? ⟨B, j, none⟩ = false
theorem BytesAt.set {w : World} {B : Nat} {l : List UInt8} (h : BytesAt w B l) {k : Nat} (hk : k < l.length) (c : UInt8) :
  BytesAt (w.setCell ⟨B, k, none⟩ (.int .u8 (c.toNat : Int))) B (l.set k c) := by
 intro j hj
 have hj' : j < l.length := by simpa using hj
 obtain ⟨h1, h2⟩ := h j hj'
 obtain ⟨k1, _⟩ := h k hk
 constructor
 · by_cases e : k = j
   · subst e
     rw [World.cell?_setCell_same _ _ _ k1]; simp
   · rw [World.cell?_setCell_other _ _ _ _ (by intro hh; apply e; cases hh; rfl)]
     rw [h1, List.getElem_set_ne e]
 · rw [← h2]; exact World.frozen?_setCell ..
theorem bytesAt_new (w : World) (s : ByteArray) (cap : Nat) :
  BytesAt (w.alloc (.cells (bytesRow s cap) 5 ((bytesRow s cap).size, (bytesRow s cap).size + 1))).drew w.heap.size s.data.toList := by
 intro j hj
 have hj' : j < s.data.size := by simpa using hj
 constructor
 · show (w.alloc _).cell? _ = _
   rw [World.cell?_alloc_mark, bytesRow_at s _ j hj']; simp
 · show (w.alloc _).frozen? _ = _
   rw [World.frozen?_alloc_mark]
   have : j < (bytesRow s cap).size := by
    have h := bytesRow_at s cap j hj'
    exact (Array.getElem?_eq_some_iff.1 h).1
   simp; omega
def lowRow (s : ByteArray) (k : Nat) : List UInt8 := (s.data.toList.take k).map lowB ++ s.data.toList.drop k
theorem lowRow_length (s : ByteArray) (k : Nat) : (lowRow s k).length = s.size := by
 unfold lowRow
 have : s.data.toList.length = s.size := by simp
 rw [List.length_append, List.length_map, List.length_take, List.length_drop]; omega
theorem lowRow_at (s : ByteArray) (k : Nat) (h : k < s.size) : (lowRow s k)[k]'(by rw [lowRow_length]; exact h) = s[k] := by
 unfold lowRow
 have hl : ((s.data.toList.take k).map lowB).length = k := by simp; omega
 rw [List.getElem_append_right (by omega), List.getElem_drop]
 have e : k + (k - ((s.data.toList.take k).map lowB).length) = k := by omega
 simp only [e]
 show s.data.toList[k] = s.data[k]
 simp
theorem lowRow_set (s : ByteArray) (k : Nat) (h : k < s.size) : lowRow s (k + 1) = (lowRow s k).set k (lowB s[k]) := by
 unfold lowRow
 have hl : ((s.data.toList.take k).map lowB).length = k := by simp; omega
 have hd : s.data.toList.drop k = s[k] :: s.data.toList.drop (k + 1) := by
  rw [List.drop_eq_getElem_cons (by simpa using h)]; rfl
 rw [hd, List.set_append_right _ _ (by omega), hl, Nat.sub_self, List.set_cons_zero, take_snoc s k h]
 simp
theorem lowRow_same (s : ByteArray) (k : Nat) (h : k < s.size) (hb : upB s[k].toNat = false) : lowRow s (k + 1) = lowRow s k := by
 rw [lowRow_set s k h]
 have : lowB s[k] = (lowRow s k)[k]'(by rw [lowRow_length]; exact h) := by rw [lowRow_at s k h]; unfold lowB; rw [hb]; rfl
 rw [this, List.set_getElem_self]
theorem lowRow_zero (s : ByteArray) : lowRow s 0 = s.data.toList := by simp [lowRow]
theorem lowRow_all (s : ByteArray) (k : Nat) (h : k ≤ s.size) (h2 : ¬ k < s.size) : lowRow s k = (s.data.toList.map lowB) := by
 have e : k = s.size := by omega
 unfold lowRow
 rw [take_all s k h h2, List.drop_of_length_le (by simp; omega)]; simp
theorem lowB_val (c : UInt8) (h : upB c.toNat = true) : ((lowB c).toNat : Int) = (c.toNat : Int) - 65 + 97 := by
 unfold lowB; rw [if_pos h]
 unfold upB at h; simp at h
 rw [UInt8.toNat_add]
 have : (32 : UInt8).toNat = 32 := rfl
 omega
set_option maxHeartbeats 400000 in
theorem lower_any (s : ByteArray) (w : World) (hs : s.size ≤ maxLen) :
  Calls Tryd.prog 39 #[.string s] w fun e w' => e = .returned (.string (lowS s)) ∧ Below w.heap.size w w' := by
 unfold maxLen at hs
 have hcv := fun (w : World) (s : ByteArray) => run_bytes_of_string (P := Tryd.prog) w 9 32 5 s Tryd.underlying9 Tryd.underlying32 Tryd.underlying5
 go_enter Tryd.func39, Tryd.ntmps39
 go_wp2
 generalize grownCap w s.size 0 5 = cap
 have hn := Lib.hid (bytesAt_new w s cap)
 go_loopw [10] (fun i wr => ∃ k : Nat, k ≤ s.size ∧ i = .int .i64 k ∧ Hid (BytesAt wr w.heap.size (lowRow s k)) ∧ Below w.heap.size w wr) (fun i _ => s.size - (intOf i).toNat)
 case atStart => exact ⟨0, Nat.zero_le _, rfl, Lib.hid (by rw [lowRow_zero]; exact hn.out), ((Below.refl _ w).alloc (Nat.le_refl _) _).drew⟩
 case round =>
  obtain ⟨k, hk, rfl, HB, hbel⟩ := hrel
  by_cases hlt : k < s.size
  · obtain ⟨c1, c2⟩ := HB.out k (by rw [lowRow_length]; exact hlt)
    rw [lowRow_at s k hlt] at c1
    have b1 : (s[k].toNat : Int) ≤ 255 := by have := s[k].toNat_lt; omega
    by_cases hu : upB s[k].toNat = true
    · have hl := Lib.hid (lowB_val s[k] hu)
      have b2 : 65 ≤ (s[k].toNat : Int) ∧ (s[k].toNat : Int) ≤ 90 := by unfold upB at hu; simpa using hu
      obtain ⟨b3, b4⟩ := b2
      go_wp2_with (go_at_call 47; refine (isUpper_any _ _ (by omega) (by omega)).mono ?_; rintro e w' ⟨rfl, rfl⟩)
      go_roundw
      case rel => exact ⟨k + 1, by omega, by go_num, Lib.hid (by rw [lowRow_set s k hlt]; have := HB.out.set (by rw [lowRow_length]; exact hlt) (lowB s[k]); rw [hl.out] at this; exact this), hbel.setCell (by simp) _⟩
      case measure => simp [intOf]; omega
    · have hu' : upB s[k].toNat = false := by simpa using hu
      clear hu
      go_wp2_with (go_at_call 47; refine (isUpper_any _ _ (by omega) (by omega)).mono ?_; rintro e w' ⟨rfl, rfl⟩)
      go_roundw
      case rel => exact ⟨k + 1, by omega, by go_num, Lib.hid (by rw [lowRow_same s k hlt hu']; exact HB.out), hbel⟩
      case measure => simp [intOf]; omega
  · have hback := run_convert_bytes_back (P := Tryd.prog) wr 32 9 5 ⟨w.heap.size, 0, none⟩ cap (lowRow s k) Tryd.underlying32 Tryd.underlying5 Tryd.underlying9 (fun j hj => by
     rw [Addr.add_lit, Nat.zero_add]; exact (HB.out j hj).1)
    rw [lowRow_length] at hback
    go_wp2
    go_ret
    exact ⟨ret_str (by rw [lowRow_all s k hk hlt]; rfl), hbel⟩
end Go.Proofs.YtfghgenboahkkaaDoor
namespace Go.Proofs.YtfghgenboahkkaaDoor
open Go
def blanks : List UInt8 := [32, 9]
def blankB (c : UInt8) : Bool := blanks.contains c
def rdrop (p : UInt8 → Bool) (l : List UInt8) : List UInt8 := (l.reverse.dropWhile p).reverse
def trimL (l : List UInt8) : List UInt8 := (rdrop blankB l).dropWhile blankB
theorem length_dropWhile (p : UInt8 → Bool) : ∀ l : List UInt8, (l.dropWhile p).length ≤ l.length
 | [] => Nat.le_refl _
 | a :: t => by
  rw [List.dropWhile_cons]; split
  · have := length_dropWhile p t; simp; omega
  · exact Nat.le_refl _
theorem trimL_length (l : List UInt8) : (trimL l).length ≤ l.length := by
 unfold trimL
 have h1 := length_dropWhile blankB (rdrop blankB l)
 have h2 : (rdrop blankB l).length ≤ l.length := by
  unfold rdrop; rw [List.length_reverse]; have := length_dropWhile blankB l.reverse; simpa using this
 omega
def trimBA (s : ByteArray) : ByteArray := ⟨(trimL s.data.toList).toArray⟩
theorem trimBA_size (s : ByteArray) : (trimBA s).size ≤ s.size := by
 have := trimL_length s.data.toList
 have h1 : (trimBA s).size = (trimL s.data.toList).length := by show (trimBA s).data.size = _; simp [trimBA]
 have h2 : s.size = s.data.toList.length := by simp
 omega
theorem ba_ext {a b : ByteArray} (h : a.data.toList = b.data.toList) : a = b := by
 cases a; cases b; simp at h; simp [h]
end Go.Proofs.YtfghgenboahkkaaDoor
namespace Go.Proofs.YtfghgenboahkkaaDoor
open Go.RowKit
theorem lt_cell {w : World} {a : Addr} {v : Value} (h : w.cell? a = some v) : a.block < w.heap.size := by
 rcases Nat.lt_or_ge a.block w.heap.size with h' | h'
 · exact h'
 · simp [World.cell?, Array.getElem?_eq_none h'] at h
theorem below_trans {w w1 w2 : World} (h : Below w.heap.size w w1) (k : Below w1.heap.size w1 w2) : Below w.heap.size w w2 := h.trans (k.mono h.size)
theorem below_cell {w w' : World} (h : Below w.heap.size w w') {a : Addr} {v : Value} (hc : w.cell? a = some v) : w'.cell? a = some v := by
 rw [h.cell (lt_cell hc)]; exact hc
def StrsAt (w : World) (a : Option Addr) (l : List ByteArray) : Prop :=
 ∀ j (hj : j < l.length), ∃ b off, a = some ⟨b, off, none⟩ ∧ w.cell? ⟨b, off + j, none⟩ = some (.string l[j])
theorem StrsAt.keep {w w' : World} {a : Option Addr} {l : List ByteArray} (h : StrsAt w a l) (hb : Below w.heap.size w w') : StrsAt w' a l := fun j hj => by
 obtain ⟨b, off, e, hc⟩ := h j hj
 exact ⟨b, off, e, below_cell hb hc⟩
theorem StrsAt.nil (w : World) (a : Option Addr) : StrsAt w a [] := fun _ hj => absurd hj (Nat.not_lt_zero _)
def RetStrs (w : World) (l : List ByteArray) (e : Ending) (w' : World) : Prop :=
 ∃ a cap, e = .returned (.slice a l.length cap) ∧ StrsAt w' a l ∧ Below w.heap.size w w'
def RetFresh (w : World) (l : List ByteArray) (e : Ending) (w' : World) : Prop :=
 ∃ g cap, e = .returned (.slice (some ⟨g, 0, none⟩) l.length cap) ∧ w.heap.size ≤ g ∧ g < w'.heap.size ∧ StrsAt w' (some ⟨g, 0, none⟩) l ∧ Below w.heap.size w w'
theorem Tryd.info9 : (Tryd.prog.info? 9).map (fun i => (i.zero, i.size, i.bytes)) = some (some (.string ⟨#[]⟩), 1, 16) := by kernel_rfl
def Acc (w0 w : World) (v : Value) (l : List ByteArray) : Prop :=
 w.ownsRow w0.heap.size 9 1 v l.length (l.map Value.string) ∧ Below w0.heap.size w0 w
def Aside (w : World) (v : Value) (P : Nat) (parts : List ByteArray) : Prop :=
 StrsAt w (some ⟨P, 0, none⟩) parts ∧ v.ownBlock ≠ some P ∧ P < w.heap.size
theorem Acc.start (w : World) : Acc w w (.slice none 0 0) [] := ⟨World.ownsRow_nil _ _ _ _, Below.refl _ _⟩
theorem ownsRow_keep {w w' : World} {base : Nat} {e : TypeId} {size n : Nat} {v : Value} {xs : List Value} (h : w.ownsRow base e size v n xs) (hb : Below w.heap.size w w') : w'.ownsRow base e size v n xs := by
 obtain ⟨h1, h2⟩ := h
 refine ⟨h1, ?_⟩
 rcases h2 with h2 | ⟨g, cap, cur, hv, hg, hc, r⟩
 · exact .inl h2
 · have hlt : g < w.heap.size := by
    rcases Nat.lt_or_ge g w.heap.size with h' | h'
    · exact h'
    · rw [Array.getElem?_eq_none h'] at hc; cases hc
   exact .inr ⟨g, cap, cur, hv, hg, by rw [hb.block g hlt]; exact hc, r⟩
theorem Acc.keep {w0 w w' : World} {v : Value} {l : List ByteArray} (h : Acc w0 w v l) (hb : Below w.heap.size w w') : Acc w0 w' v l :=
 ⟨ownsRow_keep h.1 hb, h.2.trans (hb.mono h.2.size)⟩
theorem Aside.keep {w w' : World} {v : Value} {P : Nat} {parts : List ByteArray} (h : Aside w v P parts) (hb : Below w.heap.size w w') : Aside w' v P parts :=
 ⟨h.1.keep hb, h.2.1, Nat.lt_of_lt_of_le h.2.2 hb.size⟩
theorem Acc.lt {w0 w : World} {v : Value} {l : List ByteArray} (h : Acc w0 w v l) {k : Nat} (hk : v.ownBlock = some k) : k < w.heap.size := (World.ownsRow.lt h.1 k hk).2
theorem Aside.fresh {w0 w w' : World} {v : Value} {l : List ByteArray} (h : Acc w0 w v l) {P : Nat} {parts : List ByteArray} (hP : w.heap.size ≤ P) (hlt : P < w'.heap.size) (hs : StrsAt w' (some ⟨P, 0, none⟩) parts) : Aside w' v P parts :=
 ⟨hs, fun e => by have := h.lt e; omega, hlt⟩
theorem Acc.shape {w0 w : World} {v : Value} {l : List ByteArray} (h : Acc w0 w v l) : ∃ a cap, v = .slice a l.length cap ∧ StrsAt w a l := by
 obtain ⟨⟨h1, h2⟩, _⟩ := h
 rcases h2 with ⟨rfl, h2⟩ | ⟨g, cap, cur, rfl, hg, hc, hcap, hm, hsz, ht⟩
 · have : l = [] := List.eq_nil_of_length_eq_zero h2
   subst this
   exact ⟨none, 0, rfl, StrsAt.nil _ _⟩
 · refine ⟨_, cap, rfl, fun j hj => ⟨g, 0, rfl, ?_⟩⟩
   have e : cur.toList[j]? = some (Value.string l[j]) := by
    have := congrArg (fun x => x[j]?) ht
    simp only [Nat.mul_one] at this
    rw [List.getElem?_take_of_lt hj, List.getElem?_map, List.getElem?_eq_getElem hj] at this
    exact this
   simp only [World.cell?, hc, Nat.zero_add]
   simpa using e
def RetAcc (w : World) (l : List ByteArray) (e : Ending) (w' : World) : Prop := ∃ v, e = .returned v ∧ Acc w w' v l
theorem Acc.lift {w w1 w2 : World} {v : Value} {l : List ByteArray} (h : Below w.heap.size w w1) (k : Acc w1 w2 v l) : Acc w w2 v l := by
 refine ⟨?_, below_trans h k.2⟩
 obtain ⟨⟨h1, h2⟩, _⟩ := k
 refine ⟨h1, ?_⟩
 rcases h2 with h2 | ⟨g, cap, cur, hv, hg, r⟩
 · exact .inl h2
 · exact .inr ⟨g, cap, cur, hv, Nat.le_trans h.size hg, r⟩
theorem Acc.isNew {w0 w : World} {v : Value} {l : List ByteArray} (h : Acc w0 w v l) (hne : l ≠ []) : ∃ g cap, v = .slice (some ⟨g, 0, none⟩) l.length cap ∧ w0.heap.size ≤ g ∧ g < w.heap.size ∧ StrsAt w (some ⟨g, 0, none⟩) l := by
 obtain ⟨a, cap, hv, hs⟩ := h.shape
 have hpos : 0 < l.length := by cases l with
  | nil => exact absurd rfl hne
  | cons _ _ => simp
 obtain ⟨⟨h1, h2⟩, hb⟩ := h
 rcases h2 with ⟨_, h2⟩ | ⟨g, cap', cur, hv', hg, hc, _⟩
 · omega
 · rw [hv] at hv'; cases hv'
   have hlt : g < w.heap.size := by
    rcases Nat.lt_or_ge g w.heap.size with h' | h'
    · exact h'
    · rw [Array.getElem?_eq_none h'] at hc; cases hc
   exact ⟨g, cap, hv, hg, hlt, hs⟩
section
variable {ops : Array Oper} {rest : List Oper} {o : Oper} {act : Act} {Q : Exit → Act → World → Prop}
theorem wpList_append_acc (w : World) (hgd : o.guard = none) (s x : Operand) (ho : o.op = .call { callee := .builtin .append, args := #[s, x], argTypes := #[29, 29] })
  {w0 : World} {v : Value} {l : List ByteArray} (hs : act.eval s = v) (h : Acc w0 w v l) {b c : Nat} (hx : act.eval x = .slice (some ⟨b, 0, none⟩) 1 c) {y : ByteArray} (hy : w.cell? ⟨b, 0, none⟩ = some (.string y))
  (hn : l.length + 1 ≤ 8796093022208)
  (K : ∀ g cap w', Acc w0 w' (.slice (some ⟨g, 0, none⟩) (l.length + 1) cap) (l ++ [y]) → (∀ P parts, Aside w v P parts → Aside w' (.slice (some ⟨g, 0, none⟩) (l.length + 1) cap) P parts) →
   wpList Tryd.prog ops Q rest (act.put o.dst (.slice (some ⟨g, 0, none⟩) (l.length + 1) cap)) w') : wpList Tryd.prog ops Q (o :: rest) act w := by
 obtain ⟨i0, hi, hz0, hz1, hz2⟩ := info_parts Tryd.info9
 refine wpList_append_lies w hgd s x 29 ho w0.heap.size 9 i0 (.string ⟨#[]⟩) 1 16 Tryd.underlying29 hi hz0 hz1 hz2 rfl (by decide) v l.length (l.map Value.string) hs h.1 ⟨b, 0, none⟩ 1 c [.string y] hx rfl ?_ ?_ (by decide) (by unfold maxLen; omega) (by omega) h.2.size w.heap.size rfl ?_
 · intro j u hj
   match j, hj with
   | 0, hj => simp at hj; subst hj; rw [Addr.add_lit]; exact hy
   | j + 1, hj => simp at hj
 · intro u hu; simp at hu; subst hu; rfl
 · intro g cap w' hown hgrow hg hlt
   have hacc : Acc w0 w' (.slice (some ⟨g, 0, none⟩) (l.length + 1) cap) (l ++ [y]) := by
    refine ⟨by simpa using hown, h.2.grown hgrow h.2.size fun k hk => ?_⟩
    exact (World.ownsRow.lt h.1 k hk).1
   refine K g cap w' hacc (fun P parts hP => ⟨fun j hj => ?_, ?_, ?_⟩)
   · obtain ⟨b', off, e, hc⟩ := hP.1 j hj
     cases e
     exact ⟨P, 0, rfl, hgrow.cell hc (fun e => hP.2.1 e.symm)⟩
   · intro e
     have : g = P := by simpa [Value.ownBlock] using e
     subst this
     rcases hg with hg | hg
     · exact hP.2.1 hg
     · have := hP.2.2; omega
   · exact Nat.lt_of_lt_of_le hP.2.2 hgrow.size
end
end Go.Proofs.YtfghgenboahkkaaDoor
namespace Go.Proofs
open Go.Shelf
def Tryd.lays160_ren : Go.Shelf.Ren := ⟨fun | 160 => 46 | 232 => 59 | 231 => 58 | 227 => 60 | 234 => 62 | 233 => 61 | 236 => 64 | 235 => 63 | 228 => 76 | 271 => 78 | 151 => 77 | 197 => 73 | 120 => 87 | 152 => 86 | 260 => 81 | 137 => 90 | 119 => 91 | 224 => 84 | 225 => 83 | 217 => 82 | 266 => 88 | n => n, fun | 9 => 9 | 4 => 4 | 3 => 3 | 5 => 5 | 117 => 102 | 116 => 101 | 0 => 0 | 124 => 105 | 21 => 21 | 105 => 116 | 46 => 111 | 119 => 124 | 139 => 127 | 138 => 126 | n => n, fun | 3 => 4 | 4 => 5 | n => n⟩
theorem Tryd.lays160 : Go.Proofs.Lays.n160 Tryd.prog Tryd.lays160_ren := {
 mixed := by kernel_rfl
 f119 := Tryd.func91.trans (congrArg some (by kernel_rfl))
 f120 := Tryd.func87.trans (congrArg some (by kernel_rfl))
 f137 := Tryd.func90.trans (congrArg some (by kernel_rfl))
 f151 := Tryd.func77.trans (congrArg some (by kernel_rfl))
 f152 := Tryd.func86.trans (congrArg some (by kernel_rfl))
 f160 := Tryd.func46.trans (congrArg some (by kernel_rfl))
 f197 := Tryd.func73.trans (congrArg some (by kernel_rfl))
 f217 := Tryd.func82.trans (congrArg some (by kernel_rfl))
 f224 := Tryd.func84.trans (congrArg some (by kernel_rfl))
 f225 := Tryd.func83.trans (congrArg some (by kernel_rfl))
 f227 := Tryd.func60.trans (congrArg some (by kernel_rfl))
 f228 := Tryd.func76.trans (congrArg some (by kernel_rfl))
 f231 := Tryd.func58.trans (congrArg some (by kernel_rfl))
 f232 := Tryd.func59.trans (congrArg some (by kernel_rfl))
 f233 := Tryd.func61.trans (congrArg some (by kernel_rfl))
 f234 := Tryd.func62.trans (congrArg some (by kernel_rfl))
 f235 := Tryd.func63.trans (congrArg some (by kernel_rfl))
 f236 := Tryd.func64.trans (congrArg some (by kernel_rfl))
 f260 := Tryd.func81.trans (congrArg some (by kernel_rfl))
 f266 := Tryd.func88.trans (congrArg some (by kernel_rfl))
 f271 := Tryd.func78.trans (congrArg some (by kernel_rfl))
 t0 := Tryd.underlying0
 a0 := Tryd.isAgg0
 z0 := Tryd.sizeOf0
 v0 := Tryd.zeroValue0
 t3 := Tryd.underlying3
 a3 := Tryd.isAgg3
 z3 := Tryd.sizeOf3
 v3 := Tryd.zeroValue3
 t4 := Tryd.underlying4
 a4 := Tryd.isAgg4
 z4 := Tryd.sizeOf4
 v4 := Tryd.zeroValue4
 t5 := Tryd.underlying5
 a5 := Tryd.isAgg5
 z5 := Tryd.sizeOf5
 v5 := Tryd.zeroValue5
 t9 := Tryd.underlying9
 a9 := Tryd.isAgg9
 z9 := Tryd.sizeOf9
 v9 := Tryd.zeroValue9
 t21 := Tryd.underlying21
 a21 := Tryd.isAgg21
 z21 := Tryd.sizeOf21
 v21 := Tryd.zeroValue21
 t46 := Tryd.underlying111
 a46 := Tryd.isAgg111
 z46 := Tryd.sizeOf111
 v46 := Tryd.zeroValue111
 t105 := Tryd.underlying116
 a105 := Tryd.isAgg116
 z105 := Tryd.sizeOf116
 v105 := Tryd.zeroValue116
 t116 := Tryd.underlying101
 a116 := Tryd.isAgg101
 z116 := Tryd.sizeOf101
 t117 := Tryd.underlying102
 a117 := Tryd.isAgg102
 z117 := Tryd.sizeOf102
 v117 := Tryd.zeroValue102
 t119 := Tryd.underlying124
 a119 := Tryd.isAgg124
 z119 := Tryd.sizeOf124
 t124 := Tryd.underlying105
 a124 := Tryd.isAgg105
 z124 := Tryd.sizeOf105
 v124 := Tryd.zeroValue105
 t138 := Tryd.underlying126
 a138 := Tryd.isAgg126
 z138 := Tryd.sizeOf126
 v138 := Tryd.zeroValue126
 t139 := Tryd.underlying127
 a139 := Tryd.isAgg127
 z139 := Tryd.sizeOf127
 v139 := Tryd.zeroValue127
 g3 := by kernel_rfl
 g4 := by kernel_rfl }
def Tryd.lays146_ren : Go.Shelf.Ren := ⟨fun | 146 => 37 | 221 => 45 | 268 => 55 | 138 => 56 | 143 => 57 | 195 => 72 | 197 => 73 | 218 => 74 | 219 => 75 | 260 => 81 | 217 => 82 | 225 => 83 | 224 => 84 | 267 => 85 | 266 => 88 | 314 => 89 | n => n, fun | 9 => 9 | 31 => 29 | 3 => 3 | 4 => 4 | 0 => 0 | 105 => 116 | 21 => 21 | 5 => 5 | 46 => 111 | 119 => 124 | 139 => 127 | 138 => 126 | 146 => 128 | 51 => 108 | n => n, fun | 1 => 0 | 3 => 4 | 4 => 5 | n => n⟩
theorem Tryd.lays146 : Go.Proofs.Lays.n146 Tryd.prog Tryd.lays146_ren := {
 mixed := by kernel_rfl
 f138 := Tryd.func56.trans (congrArg some (by kernel_rfl))
 f143 := Tryd.func57.trans (congrArg some (by kernel_rfl))
 f146 := Tryd.func37.trans (congrArg some (by kernel_rfl))
 f195 := Tryd.func72.trans (congrArg some (by kernel_rfl))
 f197 := Tryd.func73.trans (congrArg some (by kernel_rfl))
 f217 := Tryd.func82.trans (congrArg some (by kernel_rfl))
 f218 := Tryd.func74.trans (congrArg some (by kernel_rfl))
 f219 := Tryd.func75.trans (congrArg some (by kernel_rfl))
 f221 := Tryd.func45.trans (congrArg some (by kernel_rfl))
 f224 := Tryd.func84.trans (congrArg some (by kernel_rfl))
 f225 := Tryd.func83.trans (congrArg some (by kernel_rfl))
 f260 := Tryd.func81.trans (congrArg some (by kernel_rfl))
 f266 := Tryd.func88.trans (congrArg some (by kernel_rfl))
 f267 := Tryd.func85.trans (congrArg some (by kernel_rfl))
 f268 := Tryd.func55.trans (congrArg some (by kernel_rfl))
 f314 := Tryd.func89.trans (congrArg some (by kernel_rfl))
 t0 := Tryd.underlying0
 a0 := Tryd.isAgg0
 z0 := Tryd.sizeOf0
 v0 := Tryd.zeroValue0
 t3 := Tryd.underlying3
 a3 := Tryd.isAgg3
 z3 := Tryd.sizeOf3
 v3 := Tryd.zeroValue3
 t4 := Tryd.underlying4
 a4 := Tryd.isAgg4
 z4 := Tryd.sizeOf4
 v4 := Tryd.zeroValue4
 t5 := Tryd.underlying5
 a5 := Tryd.isAgg5
 z5 := Tryd.sizeOf5
 v5 := Tryd.zeroValue5
 t9 := Tryd.underlying9
 a9 := Tryd.isAgg9
 z9 := Tryd.sizeOf9
 v9 := Tryd.zeroValue9
 t21 := Tryd.underlying21
 a21 := Tryd.isAgg21
 z21 := Tryd.sizeOf21
 v21 := Tryd.zeroValue21
 t31 := Tryd.underlying29
 a31 := Tryd.isAgg29
 z31 := Tryd.sizeOf29
 v31 := Tryd.zeroValue29
 t46 := Tryd.underlying111
 a46 := Tryd.isAgg111
 z46 := Tryd.sizeOf111
 v46 := Tryd.zeroValue111
 t51 := Tryd.underlying108
 a51 := Tryd.isAgg108
 z51 := Tryd.sizeOf108
 v51 := Tryd.zeroValue108
 t105 := Tryd.underlying116
 a105 := Tryd.isAgg116
 z105 := Tryd.sizeOf116
 v105 := Tryd.zeroValue116
 t119 := Tryd.underlying124
 a119 := Tryd.isAgg124
 z119 := Tryd.sizeOf124
 t138 := Tryd.underlying126
 a138 := Tryd.isAgg126
 z138 := Tryd.sizeOf126
 v138 := Tryd.zeroValue126
 t139 := Tryd.underlying127
 a139 := Tryd.isAgg127
 z139 := Tryd.sizeOf127
 v139 := Tryd.zeroValue127
 t146 := Tryd.underlying128
 a146 := Tryd.isAgg128
 z146 := Tryd.sizeOf128
 v146 := Tryd.zeroValue128
 g1 := by kernel_rfl
 g3 := by kernel_rfl
 g4 := by kernel_rfl }
def Tryd.laysM146_ren : Go.Shelf.Ren := ⟨fun | 146 => 37 | 221 => 45 | 268 => 55 | 138 => 56 | 143 => 57 | 195 => 72 | 197 => 73 | 218 => 74 | 219 => 75 | 260 => 81 | 217 => 82 | 225 => 83 | 224 => 84 | 267 => 85 | 266 => 88 | 314 => 89 | n => n, fun | 9 => 9 | 31 => 29 | 3 => 3 | 4 => 4 | 0 => 0 | 105 => 116 | 21 => 21 | 5 => 5 | 46 => 111 | 119 => 124 | 139 => 127 | 138 => 126 | 146 => 128 | 51 => 108 | n => n, fun | 1 => 0 | 3 => 4 | 4 => 5 | n => n⟩
theorem Tryd.laysM146 : Go.Proofs.LaysM.n146 Tryd.prog Tryd.laysM146_ren := {
 mixed := by kernel_rfl
 f138 := Tryd.func56.trans (congrArg some (by kernel_rfl))
 f143 := Tryd.func57.trans (congrArg some (by kernel_rfl))
 f146 := Tryd.func37.trans (congrArg some (by kernel_rfl))
 f195 := Tryd.func72.trans (congrArg some (by kernel_rfl))
 f197 := Tryd.func73.trans (congrArg some (by kernel_rfl))
 f217 := Tryd.func82.trans (congrArg some (by kernel_rfl))
 f218 := Tryd.func74.trans (congrArg some (by kernel_rfl))
 f219 := Tryd.func75.trans (congrArg some (by kernel_rfl))
 f221 := Tryd.func45.trans (congrArg some (by kernel_rfl))
 f224 := Tryd.func84.trans (congrArg some (by kernel_rfl))
 f225 := Tryd.func83.trans (congrArg some (by kernel_rfl))
 f260 := Tryd.func81.trans (congrArg some (by kernel_rfl))
 f266 := Tryd.func88.trans (congrArg some (by kernel_rfl))
 f267 := Tryd.func85.trans (congrArg some (by kernel_rfl))
 f268 := Tryd.func55.trans (congrArg some (by kernel_rfl))
 f314 := Tryd.func89.trans (congrArg some (by kernel_rfl))
 t0 := Tryd.underlying0
 a0 := Tryd.isAgg0
 z0 := Tryd.sizeOf0
 v0 := Tryd.zeroValue0
 t3 := Tryd.underlying3
 a3 := Tryd.isAgg3
 z3 := Tryd.sizeOf3
 v3 := Tryd.zeroValue3
 t4 := Tryd.underlying4
 a4 := Tryd.isAgg4
 z4 := Tryd.sizeOf4
 v4 := Tryd.zeroValue4
 t5 := Tryd.underlying5
 a5 := Tryd.isAgg5
 z5 := Tryd.sizeOf5
 v5 := Tryd.zeroValue5
 t9 := Tryd.underlying9
 a9 := Tryd.isAgg9
 z9 := Tryd.sizeOf9
 v9 := Tryd.zeroValue9
 t21 := Tryd.underlying21
 a21 := Tryd.isAgg21
 z21 := Tryd.sizeOf21
 v21 := Tryd.zeroValue21
 t31 := Tryd.underlying29
 a31 := Tryd.isAgg29
 z31 := Tryd.sizeOf29
 v31 := Tryd.zeroValue29
 t46 := Tryd.underlying111
 a46 := Tryd.isAgg111
 z46 := Tryd.sizeOf111
 v46 := Tryd.zeroValue111
 t51 := Tryd.underlying108
 a51 := Tryd.isAgg108
 z51 := Tryd.sizeOf108
 v51 := Tryd.zeroValue108
 t105 := Tryd.underlying116
 a105 := Tryd.isAgg116
 z105 := Tryd.sizeOf116
 v105 := Tryd.zeroValue116
 t119 := Tryd.underlying124
 a119 := Tryd.isAgg124
 z119 := Tryd.sizeOf124
 t138 := Tryd.underlying126
 a138 := Tryd.isAgg126
 z138 := Tryd.sizeOf126
 v138 := Tryd.zeroValue126
 t139 := Tryd.underlying127
 a139 := Tryd.isAgg127
 z139 := Tryd.sizeOf127
 v139 := Tryd.zeroValue127
 t146 := Tryd.underlying128
 a146 := Tryd.isAgg128
 z146 := Tryd.sizeOf128
 v146 := Tryd.zeroValue128
 g1 := by kernel_rfl
 g3 := by kernel_rfl
 g4 := by kernel_rfl
 i0 := by kernel_rfl
 i3 := by kernel_rfl
 i4 := by kernel_rfl
 i5 := by kernel_rfl
 i9 := by kernel_rfl
 i21 := by kernel_rfl
 i31 := by kernel_rfl
 i46 := by kernel_rfl
 i51 := by kernel_rfl
 i105 := by kernel_rfl
 i138 := by kernel_rfl
 i139 := by kernel_rfl
 i146 := by kernel_rfl
 m1 := by kernel_rfl
 s1_3 := fun w h => Go.Proofs.cell_of_shapedOpen_int (zero := #[.int .i64 0]) (t := 3) h (of_decide_eq_true (by kernel_rfl)) (by kernel_rfl) rfl (by kernel_rfl) (by kernel_rfl) Tryd.underlying3
 m3 := by kernel_rfl
 m4 := by kernel_rfl }
def Tryd.laysM173_ren : Go.Shelf.Ren := ⟨fun | 173 => 35 | 246 => 43 | 283 => 50 | 284 => 51 | 285 => 52 | 286 => 53 | 129 => 66 | 317 => 65 | 318 => 67 | 319 => 68 | 320 => 69 | 337 => 79 | 338 => 80 | n => n, fun | 2 => 2 | 3 => 3 | 9 => 9 | 4 => 4 | 171 => 90 | 0 => 0 | 53 => 91 | 37 => 32 | 5 => 5 | 173 => 94 | 212 => 107 | 51 => 108 | 20 => 20 | 213 => 109 | 46 => 111 | 232 => 122 | 233 => 123 | n => n, fun | 17 => 1 | 18 => 2 | 19 => 3 | n => n⟩
theorem Tryd.laysM173 : Go.Proofs.LaysM.n173 Tryd.prog Tryd.laysM173_ren := {
 mixed := by kernel_rfl
 f129 := Tryd.func66.trans (congrArg some (by kernel_rfl))
 f173 := Tryd.func35.trans (congrArg some (by kernel_rfl))
 f246 := Tryd.func43.trans (congrArg some (by kernel_rfl))
 f283 := Tryd.func50.trans (congrArg some (by kernel_rfl))
 f284 := Tryd.func51.trans (congrArg some (by kernel_rfl))
 f285 := Tryd.func52.trans (congrArg some (by kernel_rfl))
 f286 := Tryd.func53.trans (congrArg some (by kernel_rfl))
 f317 := Tryd.func65.trans (congrArg some (by kernel_rfl))
 f318 := Tryd.func67.trans (congrArg some (by kernel_rfl))
 f319 := Tryd.func68.trans (congrArg some (by kernel_rfl))
 f320 := Tryd.func69.trans (congrArg some (by kernel_rfl))
 f337 := Tryd.func79.trans (congrArg some (by kernel_rfl))
 f338 := Tryd.func80.trans (congrArg some (by kernel_rfl))
 t0 := Tryd.underlying0
 a0 := Tryd.isAgg0
 z0 := Tryd.sizeOf0
 v0 := Tryd.zeroValue0
 t2 := Tryd.underlying2
 a2 := Tryd.isAgg2
 z2 := Tryd.sizeOf2
 v2 := Tryd.zeroValue2
 t3 := Tryd.underlying3
 a3 := Tryd.isAgg3
 z3 := Tryd.sizeOf3
 v3 := Tryd.zeroValue3
 t4 := Tryd.underlying4
 a4 := Tryd.isAgg4
 z4 := Tryd.sizeOf4
 v4 := Tryd.zeroValue4
 t5 := Tryd.underlying5
 a5 := Tryd.isAgg5
 z5 := Tryd.sizeOf5
 v5 := Tryd.zeroValue5
 t9 := Tryd.underlying9
 a9 := Tryd.isAgg9
 z9 := Tryd.sizeOf9
 v9 := Tryd.zeroValue9
 t20 := Tryd.underlying20
 a20 := Tryd.isAgg20
 z20 := Tryd.sizeOf20
 v20 := Tryd.zeroValue20
 t37 := Tryd.underlying32
 a37 := Tryd.isAgg32
 z37 := Tryd.sizeOf32
 v37 := Tryd.zeroValue32
 t46 := Tryd.underlying111
 a46 := Tryd.isAgg111
 z46 := Tryd.sizeOf111
 v46 := Tryd.zeroValue111
 t51 := Tryd.underlying108
 a51 := Tryd.isAgg108
 z51 := Tryd.sizeOf108
 v51 := Tryd.zeroValue108
 t53 := Tryd.underlying91
 a53 := Tryd.isAgg91
 z53 := Tryd.sizeOf91
 v53 := Tryd.zeroValue91
 t171 := Tryd.underlying90
 a171 := Tryd.isAgg90
 z171 := Tryd.sizeOf90
 v171 := Tryd.zeroValue90
 t173 := Tryd.underlying94
 a173 := Tryd.isAgg94
 z173 := Tryd.sizeOf94
 v173 := Tryd.zeroValue94
 t212 := Tryd.underlying107
 a212 := Tryd.isAgg107
 z212 := Tryd.sizeOf107
 v212 := Tryd.zeroValue107
 t213 := Tryd.underlying109
 a213 := Tryd.isAgg109
 z213 := Tryd.sizeOf109
 t232 := Tryd.underlying122
 a232 := Tryd.isAgg122
 z232 := Tryd.sizeOf122
 v232 := Tryd.zeroValue122
 t233 := Tryd.underlying123
 a233 := Tryd.isAgg123
 z233 := Tryd.sizeOf123
 v233 := Tryd.zeroValue123
 g17 := by kernel_rfl
 g18 := by kernel_rfl
 g19 := by kernel_rfl
 i0 := by kernel_rfl
 i2 := by kernel_rfl
 i3 := by kernel_rfl
 i4 := by kernel_rfl
 i5 := by kernel_rfl
 i9 := by kernel_rfl
 i20 := by kernel_rfl
 i37 := by kernel_rfl
 i46 := by kernel_rfl
 i51 := by kernel_rfl
 i53 := by kernel_rfl
 i171 := by kernel_rfl
 i173 := by kernel_rfl
 i212 := by kernel_rfl
 i232 := by kernel_rfl
 i233 := by kernel_rfl
 m17 := by kernel_rfl
 m18 := by kernel_rfl
 m19 := by kernel_rfl }
def Tryd.lays156_ren : Go.Shelf.Ren := ⟨fun | 156 => 21 | 165 => 30 | 166 => 31 | 169 => 32 | 240 => 40 | 241 => 41 | 276 => 48 | 277 => 49 | n => n, fun | 31 => 29 | 9 => 9 | 3 => 3 | 4 => 4 | 0 => 0 | 20 => 20 | 72 => 66 | 76 => 70 | 70 => 64 | 37 => 32 | 75 => 69 | 127 => 79 | 164 => 87 | 5 => 5 | 80 => 72 | n => n, fun | n => n⟩
theorem Tryd.lays156 : Go.Proofs.Lays.n156 Tryd.prog Tryd.lays156_ren := {
 mixed := by kernel_rfl
 f156 := Tryd.func21.trans (congrArg some (by kernel_rfl))
 f165 := Tryd.func30.trans (congrArg some (by kernel_rfl))
 f166 := Tryd.func31.trans (congrArg some (by kernel_rfl))
 f169 := Tryd.func32.trans (congrArg some (by kernel_rfl))
 f240 := Tryd.func40.trans (congrArg some (by kernel_rfl))
 f241 := Tryd.func41.trans (congrArg some (by kernel_rfl))
 f276 := Tryd.func48.trans (congrArg some (by kernel_rfl))
 f277 := Tryd.func49.trans (congrArg some (by kernel_rfl))
 t0 := Tryd.underlying0
 a0 := Tryd.isAgg0
 z0 := Tryd.sizeOf0
 v0 := Tryd.zeroValue0
 t3 := Tryd.underlying3
 a3 := Tryd.isAgg3
 z3 := Tryd.sizeOf3
 v3 := Tryd.zeroValue3
 t4 := Tryd.underlying4
 a4 := Tryd.isAgg4
 z4 := Tryd.sizeOf4
 v4 := Tryd.zeroValue4
 t9 := Tryd.underlying9
 a9 := Tryd.isAgg9
 z9 := Tryd.sizeOf9
 v9 := Tryd.zeroValue9
 t20 := Tryd.underlying20
 a20 := Tryd.isAgg20
 z20 := Tryd.sizeOf20
 v20 := Tryd.zeroValue20
 t31 := Tryd.underlying29
 a31 := Tryd.isAgg29
 z31 := Tryd.sizeOf29
 v31 := Tryd.zeroValue29
 t37 := Tryd.underlying32
 a37 := Tryd.isAgg32
 z37 := Tryd.sizeOf32
 v37 := Tryd.zeroValue32
 t70 := Tryd.underlying64
 a70 := Tryd.isAgg64
 z70 := Tryd.sizeOf64
 v70 := Tryd.zeroValue64
 t72 := Tryd.underlying66
 a72 := Tryd.isAgg66
 z72 := Tryd.sizeOf66
 v72 := Tryd.zeroValue66
 t75 := Tryd.underlying69
 a75 := Tryd.isAgg69
 z75 := Tryd.sizeOf69
 v75 := Tryd.zeroValue69
 t76 := Tryd.underlying70
 a76 := Tryd.isAgg70
 z76 := Tryd.sizeOf70
 v76 := Tryd.zeroValue70
 t127 := Tryd.underlying79
 a127 := Tryd.isAgg79
 z127 := Tryd.sizeOf79
 v127 := Tryd.zeroValue79
 t164 := Tryd.underlying87
 a164 := Tryd.isAgg87
 z164 := Tryd.sizeOf87
 v164 := Tryd.zeroValue87 }
end Go.Proofs
namespace Go.Proofs.YtfghgenboahkkaaDoor
open Go.RowKit
set_option maxHeartbeats 400000 in
theorem fold_any (a b : ByteArray) (w : World) (ha : a.size ≤ maxLen) (hb : b.size ≤ maxLen) :
  Calls Tryd.prog 42 #[.string a, .string b] w fun e w' => e = .returned (.bool (foldS a b)) ∧ Below w.heap.size w w' := by
 go_enter Tryd.func42, Tryd.ntmps42
 go_wp2_with fail
 refine (lower_any a _ ha).mono ?_
 rintro e w1 ⟨rfl, hb1⟩
 go_wp2_with fail
 refine (lower_any b _ hb).mono ?_
 rintro e w2 ⟨rfl, hb2⟩
 go_wp2_with fail
 go_ret
 exact ⟨ret_bool rfl, below_trans hb1 hb2⟩
theorem trimLib_any (s : ByteArray) (w : World) (hs : s.size ≤ maxLen) :
  Calls Tryd.prog 46 #[.string s, .string ⟨#[32, 9]⟩] w fun e w' => e = .returned (.string (trimBA s)) ∧ Below w.heap.size w w' :=
 (Any.strings_Trim_laid Tryd.lays160 (by kernel_rfl) s ⟨#[32, 9]⟩ w hs (by decide) (ascii_of_all (by decide))).mono fun _ _ ⟨he, hw⟩ => ⟨he, hw⟩
set_option maxHeartbeats 400000 in
theorem trim_any (s : ByteArray) (w : World) (hs : s.size ≤ maxLen) :
  Calls Tryd.prog 38 #[.string s] w fun e w' => e = .returned (.string (trimBA s)) ∧ Below w.heap.size w w' := by
 go_enter Tryd.func38, Tryd.ntmps38
 go_wp2_with fail
 refine (trimLib_any s _ hs).mono ?_
 rintro e w1 ⟨rfl, hb1⟩
 go_wp2_with fail
 go_ret
 exact ⟨rfl, hb1⟩
end Go.Proofs.YtfghgenboahkkaaDoor
namespace Go.Proofs.YtfghgenboahkkaaDoor
open Go
def front (p : List UInt8) : List (List UInt8) → List (List UInt8)
 | [] => [p]
 | h :: r => (p ++ h) :: r
def splitL (c : UInt8) : List UInt8 → List (List UInt8)
 | [] => [[]]
 | b :: t => if b = c then [] :: splitL c t else front [b] (splitL c t)
theorem splitL_ne (c : UInt8) : ∀ l, splitL c l ≠ []
 | [] => by simp [splitL]
 | b :: t => by
  unfold splitL; split
  · simp
  · cases splitL c t <;> simp [front]
theorem index_cons_ne (b c : UInt8) (l : List UInt8) (h : b ≠ c) : Lib.index (b :: l) [c] = if Lib.index l [c] == -1 then -1 else Lib.index l [c] + 1 := by
 rw [Lib.index]
 have : (List.isPrefixOf [c] (b :: l)) = false := by simp [List.isPrefixOf]; exact fun e => h e.symm
 rw [this]; rfl
theorem index_cons_eq (c : UInt8) (l : List UInt8) : Lib.index (c :: l) [c] = 0 := by
 rw [Lib.index]
 have : (List.isPrefixOf [c] (c :: l)) = true := by simp [List.isPrefixOf]
 rw [this]; rfl
theorem splitK_eq (c : UInt8) : ∀ l : List UInt8, Lib.splitK [c] 0 (Lib.count l [c]) l = splitL c l
 | [] => rfl
 | b :: t => by
  have ih := splitK_eq c t
  by_cases h : b = c
  · subst h
    rw [Lib.count_cons_eq, Nat.add_comm, Lib.splitK, index_cons_eq, splitL, if_pos rfl]
    rw [if_neg (by decide)]
    simp only [Int.toNat_zero, List.take_zero, Nat.add_zero, List.length_cons, List.length_nil, Nat.zero_add]
    rw [List.drop_succ_cons, List.drop_zero, ih]
  · rw [Lib.count_cons_ne b c t h, splitL, if_neg h, ← ih]
    cases hk : Lib.count t [c] with
    | zero => rfl
    | succ k =>
     have hm : ¬ Lib.index t [c] = -1 := fun e => by rw [Lib.count_miss e] at hk; cases hk
     have hge := Lib.index_ge t [c]
     rw [Lib.splitK, Lib.splitK, index_cons_ne b c t h]
     have hA : (Lib.index t [c] == -1) = false := by simpa using hm
     have hB : (Lib.index t [c] + 1 == -1) = false := by rw [beq_eq_false_iff_ne]; omega
     simp only [hA, hB, Bool.false_eq_true, if_false]
     obtain ⟨i, hi⟩ : ∃ i : Nat, Lib.index t [c] = i := ⟨(Lib.index t [c]).toNat, by omega⟩
     rw [hi]
     have e1 : ((i : Int) + 1).toNat = i + 1 := by omega
     have e2 : (i : Int).toNat = i := by omega
     rw [e1, e2]
     simp [front]
def ofL (l : List UInt8) : ByteArray := ⟨l.toArray⟩
theorem ofL_list (l : List UInt8) : (ofL l).data.toList = l := by simp [ofL]
theorem ofL_of (s : ByteArray) : ofL s.data.toList = s := ba_ext (ofL_list _)
def splitS (c : UInt8) (s : ByteArray) : List ByteArray := (splitL c s.data.toList).map ofL
theorem splitB_eq (c : UInt8) (s : ByteArray) : Lib.splitB ⟨#[c]⟩ 0 (Lib.countB s ⟨#[c]⟩) s = splitS c s := by
 have h := Lib.splitB_data ⟨#[c]⟩ 0 (Lib.countB s ⟨#[c]⟩) s
 have e : Lib.splitK (ByteArray.mk #[c]).data.toList 0 (Lib.countB s ⟨#[c]⟩) s.data.toList = splitL c s.data.toList := splitK_eq c s.data.toList
 rw [e] at h
 unfold splitS
 rw [← h, List.map_map]
 have : ∀ L : List ByteArray, L = L.map (ofL ∘ fun x => x.data.toList) := fun L => by
  induction L with
  | nil => rfl
  | cons a t ih => rw [List.map_cons, ← ih]; simp [ofL_of]
 exact this _
def elemsOf (l : List ByteArray) : List ByteArray := (l.map trimBA).filter (fun x => !x.data.toList.isEmpty)
def elemL (s : ByteArray) : List ByteArray := elemsOf (splitS 44 s)
theorem elemsOf_yes (l : List ByteArray) (x : ByteArray) (h : (trimBA x).data.toList.isEmpty = false) : elemsOf (l ++ [x]) = elemsOf l ++ [trimBA x] := by
 unfold elemsOf; rw [List.map_append, List.filter_append]; simp only [List.map_cons, List.map_nil, List.filter, h]; rfl
theorem elemsOf_no (l : List ByteArray) (x : ByteArray) (h : (trimBA x).data.toList.isEmpty = true) : elemsOf (l ++ [x]) = elemsOf l := by
 unfold elemsOf; rw [List.map_append, List.filter_append]; simp only [List.map_cons, List.map_nil, List.filter, h]; simp
def listL (l : List ByteArray) : List ByteArray := l.flatMap elemL
theorem listL_snoc (l : List ByteArray) (x : ByteArray) : listL (l ++ [x]) = listL l ++ elemL x := by
 unfold listL; rw [List.flatMap_append]; simp
end Go.Proofs.YtfghgenboahkkaaDoor
namespace Go.Proofs.YtfghgenboahkkaaDoor
open Go.RowKit
theorem toList_eq {a b : ByteArray} : (a.toList == b.toList) = decide (a = b) := by
 rw [Bool.eq_iff_iff, beq_iff_eq, decide_eq_true_eq, ByteArray.toList_eq, ByteArray.toList_eq]
 exact ⟨ba_ext, fun h => by rw [h]⟩
def total : List ByteArray → Nat
 | [] => 0
 | s :: t => s.size + 1 + total t
theorem splitL_length (c : UInt8) : ∀ l : List UInt8, (splitL c l).length ≤ l.length + 1
 | [] => Nat.le_refl _
 | b :: t => by
  have := splitL_length c t
  rw [splitL]; split
  · simp; omega
  · cases h : splitL c t with
    | nil => simp [front]
    | cons q r => rw [h] at this; simp [front] at this ⊢; omega
theorem splitS_length (c : UInt8) (s : ByteArray) : (splitS c s).length ≤ s.size + 1 := by
 unfold splitS; rw [List.length_map]; have := splitL_length c s.data.toList; simpa using this
theorem splitL_small (c : UInt8) : ∀ (l p : List UInt8), p ∈ splitL c l → p.length ≤ l.length
 | [], p, h => by simp [splitL] at h; simp [h]
 | b :: t, p, h => by
  have ih := splitL_small c t
  rw [splitL] at h
  split at h
  · rcases List.mem_cons.1 h with rfl | h
    · simp
    · have := ih p h; simp; omega
  · cases hs : splitL c t with
    | nil => exact absurd hs (splitL_ne c t)
    | cons q r =>
     rw [hs] at h ih
     simp only [front, List.mem_cons] at h
     rcases h with rfl | h
     · have := ih q (by simp); simp; omega
     · have := ih p (by simp [h]); simp; omega
theorem splitS_small (c : UInt8) (s x : ByteArray) (h : x ∈ splitS c s) : x.size ≤ s.size := by
 unfold splitS at h
 obtain ⟨p, hp, rfl⟩ := List.mem_map.1 h
 have := splitL_small c _ p hp
 have e : (ofL p).size = p.length := by show (ofL p).data.size = _; simp [ofL]
 have e2 : s.data.toList.length = s.size := by simp
 omega
theorem total_at {l : List ByteArray} {n k : Nat} (h : k < l.length) (ht : total l ≤ n) : l[k].size + 1 ≤ n := by
 induction l generalizing k with
 | nil => exact absurd h (Nat.not_lt_zero _)
 | cons a t ih =>
  unfold total at ht
  cases k with
  | zero => simp only [List.getElem_cons_zero]; omega
  | succ k => simp only [List.getElem_cons_succ]; exact ih (by simpa using h) (by omega)
theorem elemsOf_length (l : List ByteArray) : (elemsOf l).length ≤ l.length := by
 unfold elemsOf
 have := List.length_filter_le (fun x : ByteArray => !x.data.toList.isEmpty) (l.map trimBA)
 simpa using this
theorem listL_length : ∀ l : List ByteArray, (listL l).length ≤ total l
 | [] => Nat.le_refl _
 | a :: t => by
  have h1 := listL_length t
  have h2 := elemsOf_length (splitS 44 a)
  have h3 := splitS_length 44 a
  have e : listL (a :: t) = elemL a ++ listL t := by unfold listL; rw [List.flatMap_cons]
  rw [e, List.length_append]
  unfold total elemL
  omega
theorem total_len : ∀ l : List ByteArray, l.length ≤ total l
 | [] => Nat.le_refl _
 | a :: t => by
  have h1 := total_len t
  simp only [List.length_cons, total]; omega
theorem total_take : ∀ (l : List ByteArray) (k : Nat), total (l.take k) ≤ total l
 | [], _ => by simp
 | a :: t, 0 => by simp [total]
 | a :: t, k + 1 => by
  have := total_take t k
  simp only [List.take_succ_cons, total]; omega
theorem split_any (s : ByteArray) (w : World) (m : Int) (hs : s.size < 4294967281) (hm : w.cell? ⟨0, 0, none⟩ = some (.int .i64 m)) :
  Calls Tryd.prog 37 #[.string s, .string ⟨#[44]⟩] w fun e w' => RetFresh w (splitS 44 s) e w' := by
 refine (Any.strings_Split Tryd.lays146 (by kernel_rfl) s ⟨#[44]⟩ m w hs hm (by decide)).mono ?_
 rintro e w' ⟨he, hw⟩
 have hlen : (splitS 44 s).length = Lib.countB s ⟨#[44]⟩ + 1 := by
  rw [← splitB_eq]; exact Lib.splitB_all _ (by decide) _ _ _ rfl
 refine ⟨w.heap.size, _, by rw [he, hlen], Nat.le_refl _, by rw [hw]; simp, fun j hj => ⟨_, 0, rfl, ?_⟩, by rw [hw]; exact (Below.refl _ _).alloc (Nat.le_refl _) _⟩
 rw [hw, splitB_eq]
 rw [World.cell?_alloc_mark]
 simp [hj]
set_option maxHeartbeats 800000 in
theorem list_acc (l : List ByteArray) (a : Option Addr) (ca : Nat) (w : World) (m : Int) (hl : StrsAt w a l) (hm : w.cell? ⟨0, 0, none⟩ = some (.int .i64 m)) (ht : total l ≤ 4000000000) :
  Calls Tryd.prog 26 #[.slice a l.length ca] w (RetAcc w (listL l)) := by
 have HM := Lib.hid hm
 have HLs := Lib.hid hl
 have HT := Lib.hid ht
 have hll : l.length ≤ 4000000000 := Nat.le_trans (total_len l) ht
 clear hm hl ht
 go_enter Tryd.func26, Tryd.ntmps26
 go_wp2
 go_loopw [3, 11] (fun v i wr => ∃ k : Nat, k ≤ l.length ∧ i = .int .i64 k ∧ Hid (Acc w wr v (listL (l.take k)))) (fun _ i _ => l.length - (intOf i).toNat)
 case atStart => exact ⟨0, Nat.zero_le _, rfl, Lib.hid (Acc.start w)⟩
 case round =>
  obtain ⟨k, hk, rfl, HA⟩ := hrel
  by_cases hlt : k < l.length
  · obtain ⟨b, off, rfl, hc⟩ := HLs.out k hlt
    have c1 := below_cell HA.out.2 hc
    clear hc
    have hb1 := Lib.hid (total_at hlt HT.out)
    go_wp2_with fail
    refine (split_any l[k] _ m (by have := hb1.out; omega) (below_cell HA.out.2 HM.out)).mono ?_
    rintro e w1 ⟨P, cp, rfl, hP1, hP2, hP3, hP4⟩
    have HA1 := Lib.hid (HA.out.keep hP4)
    have HS1 := Lib.hid (Aside.fresh HA.out hP1 hP2 hP3)
    have hpl := splitS_length 44 l[k]
    have hsz : Hid (∀ x ∈ splitS 44 l[k], x.size ≤ 4000000000) := Lib.hid (fun x hx => Nat.le_trans (splitS_small 44 l[k] x hx) (by have := hb1.out; omega))
    have hpl2 : (splitS 44 l[k]).length ≤ 4000000000 := by have := hb1.out; omega
    clear hP1 hP2 hP3 hP4 c1 hpl
    generalize hparts : splitS 44 l[k] = parts at *
    have HPA := Lib.hid hparts
    clear hparts
    go_wp2_with fail
    go_loopw [3, 18] (fun v i wq => ∃ j : Nat, j ≤ parts.length ∧ i = .int .i64 j ∧ Hid (Acc w wq v (listL (l.take k) ++ elemsOf (parts.take j))) ∧ Hid (Aside wq v P parts)) (fun _ i _ => parts.length - (intOf i).toNat)
    case atStart => exact ⟨0, Nat.zero_le _, rfl, Lib.hid (by simpa [elemsOf] using HA1.out), HS1⟩
    case round =>
     obtain ⟨j, hj, rfl, HB, HS⟩ := hrel
     by_cases hjl : j < parts.length
     · obtain ⟨b', o', e', c2⟩ := HS.out.1 j hjl
       cases e'
       rw [Nat.zero_add] at c2
       go_wp2_with fail
       refine (trim_any parts[j] _ ?_).mono ?_
       · have := hsz.out parts[j] (by simp); unfold maxLen; omega
       rintro e w2 ⟨rfl, hb2⟩
       have HB2 := Lib.hid (HB.out.keep hb2)
       have HS2 := Lib.hid (HS.out.keep hb2)
       clear hb2 c2
       by_cases hem : (trimBA parts[j]).data.toList.isEmpty = true
       · have het : (trimBA parts[j]).toList.isEmpty = true := by rw [ByteArray.toList_eq]; exact hem
         have HEM := Lib.hid hem
         clear hem
         go_wp2_with fail
         go_roundw
         case rel => exact ⟨j + 1, by omega, by go_num, Lib.hid (by rw [List.take_succ_eq_append_getElem hjl, elemsOf_no _ _ HEM.out]; exact HB2.out), HS2⟩
         case measure => simp [intOf]; omega
       · have hem' : (trimBA parts[j]).data.toList.isEmpty = false := by simpa using hem
         have het : (trimBA parts[j]).toList.isEmpty = false := by rw [ByteArray.toList_eq]; exact hem'
         have HEM := Lib.hid hem'
         clear hem hem'
         go_wp2_with (at_builtin; refine wpList_append_acc _ rfl _ _ rfl rfl (HB2.out.keep ((Below.refl _ _).alloc (Nat.le_refl _) _)) rfl (y := trimBA parts[j]) ?c1 ?c2 ?c3)
         case c1 => simp
         case c2 =>
          have h1 := listL_length (l.take k)
          have h2 := elemsOf_length (parts.take j)
          have h3 : (parts.take j).length ≤ j := List.length_take_le _ _
          have h4 := total_take l k
          have h5 := HT.out
          rw [List.length_append]; omega
         case c3 =>
          intro g cap w' hacc has
          have HACC := Lib.hid hacc
          have HAS := Lib.hid (has _ _ (HS2.out.keep ((Below.refl _ _).alloc (Nat.le_refl _) _)))
          clear hacc has
          go_wp2_with fail
          go_roundw
          case rel => exact ⟨j + 1, by omega, by go_num, Lib.hid (by rw [List.take_succ_eq_append_getElem hjl, elemsOf_yes _ _ HEM.out]; exact HACC.out), HAS⟩
          case measure => simp [intOf]; omega
     · have hpt : parts.take j = parts := List.take_of_length_le (by omega)
       have HPT := Lib.hid hpt
       clear hpt
       go_wp2_with fail
       go_roundw
       case rel => exact ⟨k + 1, by omega, by go_num, Lib.hid (by
        have := HB.out
        rw [HPT.out, ← HPA.out] at this
        rw [List.take_succ_eq_append_getElem hlt, listL_snoc]; exact this)⟩
       case measure => simp [intOf]; omega
  · have hpt : l.take k = l := List.take_of_length_le (by omega)
    have HF := HA.out
    rw [hpt] at HF
    have HFF := Lib.hid HF
    clear HF hpt HA
    go_wp2_with fail
    go_ret
    exact ⟨_, rfl, HFF.out⟩
end Go.Proofs.YtfghgenboahkkaaDoor
namespace Go.Proofs.YtfghgenboahkkaaDoor
open Go.ChangeShapes Go.WideShapes Go.ChangeAt Go.RowKit
def IsBytes (w : World) (a : Option Addr) (l : List UInt8) (cap : Nat) : Prop :=
 (a = none ∧ l = [] ∧ cap = 0) ∨ ∃ x, a = some x ∧ l.length ≤ cap ∧ cap ≤ maxLen ∧ ∀ j (hj : j < l.length), w.cell? (x.add j) = some (.int .u8 (l[j].toNat : Int))
def StrsIn (w : World) (a : Option Addr) (l : List ByteArray) : Prop :=
 ∀ j (hj : j < l.length), ∃ x, a = some x ∧ w.cell? (x.add j) = some (.string l[j])
theorem StrsIn.keep {w w' : World} {a : Option Addr} {l : List ByteArray} (h : StrsIn w a l) (hb : Below w.heap.size w w') : StrsIn w' a l := fun j hj => by
 obtain ⟨x, e, hc⟩ := h j hj
 exact ⟨x, e, below_cell hb hc⟩
theorem StrsIn.of_at {w : World} {a : Option Addr} {l : List ByteArray} (h : StrsAt w a l) : StrsIn w a l := fun j hj => by
 obtain ⟨b, off, e, hc⟩ := h j hj
 exact ⟨_, e, by rw [show (⟨b, off, none⟩ : Addr).add j = ⟨b, off + j, none⟩ by unfold Addr.add; split <;> simp_all]; exact hc⟩
end Go.Proofs.YtfghgenboahkkaaDoor
namespace Go.Proofs.YtfghgenboahkkaaDoor
open Go.RowKit
theorem Tryd.info5 : (Tryd.prog.info? 5).map (fun i => (i.zero, i.size, i.bytes)) = some (some (.int .u8 0), 1, 1) := by kernel_rfl
def bytesV (l : List UInt8) : List Value := l.map fun c => .int .u8 (c.toNat : Int)
theorem bytesV_len (l : List UInt8) : (bytesV l).length = l.length := by simp [bytesV]
def AccB (w0 w : World) (v : Value) (l : List UInt8) : Prop :=
 w.ownsRow w0.heap.size 5 1 v l.length (bytesV l) ∧ Below w0.heap.size w0 w
theorem AccB.shape {w0 w : World} {v : Value} {l : List UInt8} (h : AccB w0 w v l) : ∃ a cap, v = .slice a l.length cap ∧ IsBytes w a l cap := by
 obtain ⟨⟨h1, h2⟩, _⟩ := h
 rcases h2 with ⟨rfl, h2⟩ | ⟨g, cap, cur, rfl, hg, hc, hcap, hm, hsz, ht⟩
 · have : l = [] := List.eq_nil_of_length_eq_zero h2
   subst this
   exact ⟨none, 0, rfl, .inl ⟨rfl, rfl, rfl⟩⟩
 · refine ⟨_, cap, rfl, .inr ⟨_, rfl, hcap, hm, fun j hj => ?_⟩⟩
   have e : cur.toList[j]? = some (Value.int .u8 (l[j].toNat : Int)) := by
    have := congrArg (fun x => x[j]?) ht
    simp only [Nat.mul_one, bytesV] at this
    rw [List.getElem?_take_of_lt hj, List.getElem?_map, List.getElem?_eq_getElem hj] at this
    exact this
   rw [Addr.add_lit]
   simp only [World.cell?, hc, Nat.zero_add]
   simpa using e
section
variable {ops : Array Oper} {rest : List Oper} {o : Oper} {act : Act} {Q : Exit → Act → World → Prop}
end
end Go.Proofs.YtfghgenboahkkaaDoor
namespace Go.Proofs.YtfghgenboahkkaaDoor
section
variable {P : Program} {md : Region.Mode} {C : World → Prop} {l : List Oper} {o : Oper}
end
section
variable {P : Program} {md : Region.Mode} {ops : Array Oper} {Q : Exit → Act → World → Prop}
theorem count_set : ∀ (l : List Bool) (i : Nat), i < l.length → l.getD i true = false → (l.set i true).countP (!·) + 1 = l.countP (!·)
 | b :: l, 0, _, h => by
  have : b = false := h
  subst this
  simp
 | b :: l, i + 1, hi, h => by
  have := count_set l i (by simpa using hi) (by simpa using h)
  rw [List.set_cons_succ, List.countP_cons, List.countP_cons]
  omega
theorem wpAny_inv (J : Array Bool → Act → World → Prop) (hstep : ∀ m a w, m.size = ops.size → J m a w → ∀ i, i ∈ Region.ready md ops m → wpOp P ops Q i (J (m.setIfInBounds i true)) a w)
  (hdone : ∀ m a w, m.size = ops.size → J m a w → Region.ready md ops m = [] → Q .normal a w) :
  ∀ (f : Nat) (m : Array Bool) (a : Act) (w : World), m.size = ops.size → m.toList.countP (!·) ≤ f → J m a w → wpAny P md ops Q f m a w
 | 0, m, a, w, hs, hc, hJ => by
  have hr : Region.ready md ops m = [] := by
   rw [List.eq_nil_iff_forall_not_mem]
   intro i hi
   obtain ⟨h1, x, hx, _⟩ := mem_ready.1 hi
   have hlt : i < m.size := by rw [hs]; exact (Array.getElem?_eq_some_iff.1 hx).1
   have h2 : m.toList.getD i true = false := by simpa [List.getD_eq_getElem?_getD, hlt] using h1
   have := count_set m.toList i (by simpa using hlt) h2
   omega
  exact ⟨hr, hdone m a w hs hJ hr⟩
 | f + 1, m, a, w, hs, hc, hJ => by
  refine ⟨fun hr => hdone m a w hs hJ hr, fun i hi => ?_⟩
  refine wpOp_mono (fun a' w' hJ' => wpAny_inv J hstep hdone f _ a' w' (by simpa using hs) ?_ hJ') (hstep m a w hs hJ i hi)
  obtain ⟨h1, x, hx, _⟩ := mem_ready.1 hi
  have hlt : i < m.size := by rw [hs]; exact (Array.getElem?_eq_some_iff.1 hx).1
  have h2 : m.toList.getD i true = false := by simpa [List.getD_eq_getElem?_getD, hlt] using h1
  have := count_set m.toList i (by simpa using hlt) h2
  rw [Array.toList_setIfInBounds]
  omega
theorem wp_region_inv {id : Nat} {a : Act} {w : World} (hm : P.follows .mixedOrders = true) (J : Array Bool → Act → World → Prop)
  (hstep : ∀ m a w, m.size = ops.size → J m a w → ∀ i, i ∈ Region.ready .any ops m → wpOp P ops Q i (J (m.setIfInBounds i true)) a w)
  (hdone : ∀ m a w, m.size = ops.size → J m a w → Region.ready .any ops m = [] → Q .normal a w) (h0 : J (Array.replicate ops.size false) a { w with drawn := w.drawn + 1 }) : (Code.region id ops true).wp P Q a w := by
 refine wp_region_any hm (wpAny_inv J hstep hdone _ _ _ _ (by simp) ?_ h0)
 have := List.countP_le_length (p := (!·)) (l := (Array.replicate ops.size false).toList)
 simpa using this
end
end Go.Proofs.YtfghgenboahkkaaDoor
namespace Go.Proofs.YtfghgenboahkkaaDoor
open Go.RowKit
structure Spec where
 p : Value → World → Prop
 mono : ∀ v w w', p v w → Below w.heap.size w w' → p v w'
def Spec.val (v : Value) : Spec := ⟨fun x _ => x = v, fun _ _ _ h _ => h⟩
def Spec.any : Spec := ⟨fun _ _ => True, fun _ _ _ h _ => h⟩
def Holds (ops : Array Oper) (S : List Spec) (a : Act) (w : World) (j : Nat) : Prop :=
 match ops[j]?, S[j]? with
 | some o, some s => (match o.dst with | some d => s.p (a.eval (.tmp d)) w | none => True)
 | _, _ => True
def isDst (ops : Array Oper) (k : Nat) : Bool := ops.toList.any fun o => o.dst == some k
def waitsFor (o : Oper) (j : Nat) : Bool := o.after.toList.any fun e => Region.binds .any e && e.on == j
def dstsOk (ops : Array Oper) (n : Nat) : Bool :=
 (List.range ops.size).all fun i => match (ops[i]?).bind (·.dst) with
  | some d => decide (d < n) && (List.range ops.size).all fun j => decide (i = j) || !((ops[j]?).bind (·.dst) == some d)
  | none => true
structure Fr (ops : Array Oper) (a0 a : Act) : Prop where
 defers : a.defers = a0.defers
 size : a.tmps.size = a0.tmps.size
 base : ∀ k, isDst ops k = false → a.eval (.tmp k) = a0.eval (.tmp k)
def StepOK (P : Program) (Q : Exit → Act → World → Prop) (ops : Array Oper) (S : List Spec) (a0 : Act) (w0 : World) (o : Oper) (s : Spec) : Prop :=
 ∀ a w, Below w0.heap.size w0 w → Fr ops a0 a → (∀ j, waitsFor o j = true → Holds ops S a w j) →
  Region.wanted o (yielded ops a.tmps) = true ∧ o.wp P a w (fun a' w' => ∃ v, a' = a.put o.dst v ∧ Below w.heap.size w w' ∧ s.p v w') Q
section
variable {P : Program} {Q : Exit → Act → World → Prop} {ops : Array Oper} {S : List Spec} {a0 : Act} {w0 : World}
theorem eval_put_same {a : Act} {d : Nat} {v : Value} (h : d < a.tmps.size) : (a.put (some d) v).eval (.tmp d) = v := by
 simp [Act.put, Act.eval, h]
theorem eval_put_other {a : Act} {d : Option Tmp} {k : Nat} {v : Value} (h : d ≠ some k) : (a.put d v).eval (.tmp k) = a.eval (.tmp k) := by
 cases d with
 | none => rfl
 | some d =>
  have hne : d ≠ k := fun e => h (by rw [e])
  simp [Act.put, Act.eval, Array.getElem?_setIfInBounds_ne hne]
theorem dsts_lt {n : Nat} (h : dstsOk ops n = true) {i : Nat} {o : Oper} {d : Nat} (ho : ops[i]? = some o) (hd : o.dst = some d) : d < n ∧ ∀ j o', ops[j]? = some o' → j ≠ i → o'.dst ≠ some d := by
 have hi : i < ops.size := (Array.getElem?_eq_some_iff.1 ho).1
 have h1 := List.all_eq_true.1 h i (List.mem_range.2 hi)
 rw [ho] at h1
 simp only [Option.bind_some, hd, Bool.and_eq_true, decide_eq_true_eq] at h1
 refine ⟨h1.1, fun j o' ho' hji hd' => ?_⟩
 have hj : j < ops.size := (Array.getElem?_eq_some_iff.1 ho').1
 have h2 := List.all_eq_true.1 h1.2 j (List.mem_range.2 hj)
 rw [ho'] at h2
 simp [hd'] at h2
 exact hji h2.symm
theorem holds_mono {a : Act} {w w' : World} {j : Nat} (h : Holds ops S a w j) (hb : Below w.heap.size w w') : Holds ops S a w' j := by
 unfold Holds at *
 split
 · rename_i o s ho hs
   rw [ho, hs] at h
   cases hd : o.dst with
   | none => trivial
   | some d => simp only [hd] at h; exact s.mono _ _ _ h hb
 · trivial
end
section
variable {P : Program} {Q : Exit → Act → World → Prop} {ops : Array Oper} {S : List Spec} {a : Act} {w : World} {o : Oper} {s : Spec}
theorem wanted_none (h : o.guard = none) : Region.wanted o (yielded ops a.tmps) = true := by unfold Region.wanted; rw [h]
theorem loc_run {v : Value} {w' : World} (h : (execOp a.eval o).run P w = .ok (.value v) w') (hb : Below w.heap.size w w') (hs : s.p v w') : o.wp P a w (fun a' w' => ∃ v, a' = a.put o.dst v ∧ Below w.heap.size w w' ∧ s.p v w') Q := by
 unfold Oper.wp
 rw [h]
 exact ⟨v, rfl, hb, hs⟩
theorem loc_move {x : Operand} (ho : o.op = .move x) (hs : s.p (a.eval x) w) : o.wp P a w (fun a' w' => ∃ v, a' = a.put o.dst v ∧ Below w.heap.size w w' ∧ s.p v w') Q :=
 loc_run (by unfold execOp; rw [ho]; rfl) (Below.refl _ _) hs
theorem loc_load {x : Operand} {t : TypeId} (ho : o.op = .load t x) {v : Value} (h : (Instr.loadAt t (a.eval x)).run P w = .ok v w) (hs : s.p v w) : o.wp P a w (fun a' w' => ∃ v, a' = a.put o.dst v ∧ Below w.heap.size w w' ∧ s.p v w') Q :=
 loc_run (v := v) (by unfold execOp; rw [ho]; simp only [Sem.run_bind, h, Result.andThen_ok, Sem.run_pure]) (Below.refl _ _) hs
theorem loc_call {f : FuncId} {args : List Operand} {ts : Array TypeId} (ho : o.op = .call { callee := .value (.func f), args := args.toArray, argTypes := ts })
  (hf : (P.funcs[f]?).map (fun fn => fn.name != "runtime.NumGoroutine" && fn.body.isSome) = some true) (h : Calls P f (args.map a.eval).toArray w fun e w' => ∃ v, e = .returned v ∧ Below w.heap.size w w' ∧ s.p v w') : o.wp P a w (fun a' w' => ∃ v, a' = a.put o.dst v ∧ Below w.heap.size w w' ∧ s.p v w') Q := by
 have hrun : (execOp a.eval o).run P w = .ok (.enter f (args.map a.eval).toArray) w := by
  unfold execOp; rw [ho]
  cases hfn : P.funcs[f]? with
  | none => rw [hfn] at hf; cases hf
  | some fn =>
   rw [hfn] at hf
   simp only [Option.map_some, Option.some.injEq, Bool.and_eq_true, bne_iff_ne, ne_eq] at hf
   have hb : fn.body ≠ none := fun e => by rw [e] at hf; exact absurd hf.2 (by simp)
   simp [resolve, Deferred.ofValue, invoke, callFunc, show a.eval (.func f) = .func (.func f) #[] #[] from rfl, hfn, hf.1, hb]
 unfold Oper.wp
 rw [hrun, Oper.upon_enter]
 refine h.mono ?_
 rintro e w' ⟨v, rfl, hb, hs⟩
 exact ⟨v, rfl, hb, hs⟩
end
section
variable {P : Program} {ops : Array Oper} {Q : Exit → Act → World → Prop} {a : Act} {w : World} {rest : List Oper}
end
end Go.Proofs.YtfghgenboahkkaaDoor
namespace Go.Proofs.YtfghgenboahkkaaDoor
open Go.ChangeShapes Go.WideShapes Go.ChangeAt Go.RowKit
theorem IsBytes.keep {w w' : World} {a : Option Addr} {l : List UInt8} {cap : Nat} (h : IsBytes w a l cap) (hb : Below w.heap.size w w') : IsBytes w' a l cap := by
 rcases h with h | ⟨x, h1, h2, h3, h4⟩
 · exact .inl h
 · exact .inr ⟨x, h1, h2, h3, fun j hj => below_cell hb (h4 j hj)⟩
theorem AccB.empty (w : World) : AccB w (w.alloc (.cells #[] 5)) (.slice (some ⟨w.heap.size, 0, none⟩) 0 0) [] := by
 refine ⟨⟨rfl, .inr ⟨w.heap.size, 0, #[], rfl, Nat.le_refl _, ?_, Nat.le_refl _, Nat.zero_le _, rfl, rfl⟩⟩, (Below.refl _ _).alloc (Nat.le_refl _) _⟩
 show (w.heap.push _)[w.heap.size]? = _
 simp
section
variable {ops : Array Oper} {rest : List Oper} {o : Oper} {act : Act} {Q : Exit → Act → World → Prop}
theorem wpList_append_accs (w : World) (hgd : o.guard = none) (s x : Operand) (ho : o.op = .call { callee := .builtin .append, args := #[s, x], argTypes := #[32, 32] })
  {w0 : World} {v : Value} {l : List UInt8} (hs : act.eval s = v) (h : AccB w0 w v l) {a : Option Addr} {r : List UInt8} {c : Nat} (hx : act.eval x = .slice a r.length c) (hr : IsBytes w a r c)
  (hn : l.length + r.length ≤ 140737488355328)
  (K : ∀ v' w', AccB w0 w' v' (l ++ r) → wpList Tryd.prog ops Q rest (act.put o.dst v') w') : wpList Tryd.prog ops Q (o :: rest) act w := by
 obtain ⟨i0, hi, hz0, hz1, hz2⟩ := info_parts Tryd.info5
 rcases hr with ⟨rfl, rfl, rfl⟩ | ⟨ad, rfl, hr1, hr2, hr3⟩
 · refine wpList_append_own_none hgd s x 32 ho w0.heap.size 5 i0 1 Tryd.underlying32 hi v l.length (bytesV l) hs h.1 hx (K _ _ ?_)
   rw [List.append_nil]; exact h
 · refine wpList_append_own_at w hgd s x 32 ho w0.heap.size 5 i0 (.int .u8 0) 1 1 Tryd.underlying32 hi hz0 hz1 hz2 rfl (by decide) v l.length (bytesV l) hs h.1 ad r.length c (bytesV r) hx (by rw [bytesV_len, Nat.mul_one]) ?_ ?_ (by unfold maxLen; omega) (by omega) h.2.size ?_
   · intro j u hj
     unfold bytesV at hj
     rw [List.getElem?_map] at hj
     obtain ⟨c', hc', rfl⟩ := Option.map_eq_some_iff.1 hj
     obtain ⟨hlt, rfl⟩ := List.getElem?_eq_some_iff.1 hc'
     exact hr3 j hlt
   · intro u hu
     unfold bytesV at hu
     obtain ⟨c', _, rfl⟩ := List.mem_map.1 hu
     rfl
   · intro v' w' hown hgrow _ _
     refine K v' w' ⟨?_, h.2.grown hgrow h.2.size fun k hk => (World.ownsRow.lt h.1 k hk).1⟩
     rw [List.length_append]
     have e : bytesV (l ++ r) = bytesV l ++ bytesV r := by unfold bytesV; rw [List.map_append]
     rw [e]; exact hown
end
end Go.Proofs.YtfghgenboahkkaaDoor
namespace Go.Proofs.YtfghgenboahkkaaDoor
open Go.RowKit
structure SpecQ extends Spec where
 q : Value → Prop
 weak : ∀ v w, p v w → q v
def SpecQ.val (v : Value) : SpecQ := ⟨.val v, fun x => x = v, fun _ _ h => h⟩
def SpecQ.of (s : Spec) : SpecQ := ⟨s, fun _ => True, fun _ _ _ => trivial⟩
def specAt (S : List (Option SpecQ)) : List Spec := S.map fun | some s => s.toSpec | none => .any
def HoldsW (ops : Array Oper) (S : List (Option SpecQ)) (a : Act) (j : Nat) : Prop :=
 match ops[j]?, S[j]? with
 | some o, some (some s) => (match o.dst with | some d => s.q (a.eval (.tmp d)) | none => True)
 | _, _ => True
def StepW (P : Program) (Q : Exit → Act → World → Prop) (ops : Array Oper) (S : List (Option SpecQ)) (a0 : Act) (o : Oper) (s : SpecQ) : Prop :=
 ∀ a w, Fr ops a0 a → (∀ j, waitsFor o j = true → HoldsW ops S a j) →
  Region.wanted o (yielded ops a.tmps) = true ∧ o.wp P a w (fun a' w' => w' = w ∧ ∃ v, a' = a.put o.dst v ∧ s.q v) Q
def StepsS (P : Program) (Q : Exit → Act → World → Prop) (ops : Array Oper) (S : List (Option SpecQ)) (a0 : Act) (w0 : World) : List Oper → List (Option SpecQ) → Prop
 | o :: os, some s :: ss => StepOK P Q ops (specAt S) a0 w0 o s.toSpec ∧ StepsS P Q ops S a0 w0 os ss
 | _ :: os, none :: ss => StepsS P Q ops S a0 w0 os ss
 | [], [] => True
 | _, _ => False
def LateOK (P : Program) (Q : Exit → Act → World → Prop) (ops : Array Oper) (S : List (Option SpecQ)) (a0 : Act) : List Nat → Prop
 | i :: r => (match ops[i]?, S[i]? with | some o, some (some s) => StepW P Q ops S a0 o s | _, _ => True) ∧ LateOK P Q ops S a0 r
 | [] => True
def lateB (ops : Array Oper) (st : Nat) (late : List Nat) : Bool :=
 (List.range ops.size).all fun i => decide (i = st) || late.contains i || (match ops[st]? with | some o => waitsFor o i | none => false)
def StoreOK (P : Program) (Q : Exit → Act → World → Prop) (ops : Array Oper) (S : List (Option SpecQ)) (a0 : Act) (w0 : World) (st : Nat) (Post : World → Prop) : Prop :=
 match ops[st]? with
 | some o => o.dst = none ∧ ∀ a w, Below w0.heap.size w0 w → Fr ops a0 a → (∀ j, waitsFor o j = true → Holds ops (specAt S) a w j) → Region.wanted o (yielded ops a.tmps) = true ∧ o.wp P a w (fun a' w' => a' = a ∧ Post w') Q
 | none => False
section
variable {P : Program} {Q : Exit → Act → World → Prop} {ops : Array Oper} {S : List (Option SpecQ)} {a0 : Act} {w0 : World}
theorem stepsS_at : ∀ {os : List Oper} {ss : List (Option SpecQ)}, StepsS P Q ops S a0 w0 os ss → ∀ (i : Nat) (o : Oper), os[i]? = some o → ∃ s, ss[i]? = some s ∧ ∀ s', s = some s' → StepOK P Q ops (specAt S) a0 w0 o s'.toSpec
 | o :: os, some s :: ss, h, 0, _, rfl => ⟨some s, rfl, fun s' e => by obtain rfl := Option.some.inj e; exact h.1⟩
 | o :: os, some s :: ss, h, i + 1, o', ho => stepsS_at (os := os) (ss := ss) h.2 i o' ho
 | o :: os, none :: ss, h, 0, _, rfl => ⟨none, rfl, fun s' e => by cases e⟩
 | o :: os, none :: ss, h, i + 1, o', ho => stepsS_at (os := os) (ss := ss) h i o' ho
 | [], _, _, i, _, ho => by simp at ho
theorem lateOK_at : ∀ {late : List Nat}, LateOK P Q ops S a0 late → ∀ i, i ∈ late → ∀ o s, ops[i]? = some o → S[i]? = some (some s) → StepW P Q ops S a0 o s
 | k :: r, h, i, hi, o, s, ho, hs => by
  rcases List.mem_cons.1 hi with rfl | hi
  · have := h.1; simp only [ho, hs] at this; exact this
  · exact lateOK_at h.2 i hi o s ho hs
theorem specAt_get {j : Nat} {s : SpecQ} (h : S[j]? = some (some s)) : (specAt S)[j]? = some s.toSpec := by unfold specAt; rw [List.getElem?_map, h]; rfl
theorem holds_weak {a : Act} {w : World} {j : Nat} (h : Holds ops (specAt S) a w j) : HoldsW ops S a j := by
 unfold HoldsW
 split
 · rename_i o s ho hs
   unfold Holds at h
   rw [ho, specAt_get hs] at h
   cases hd : o.dst with
   | none => trivial
   | some d => simp only [hd] at h; exact s.weak _ _ h
 · trivial
theorem fr_put {a : Act} {o : Oper} {i : Nat} (ho : ops[i]? = some o) (hf : Fr ops a0 a) (v : Value) : Fr ops a0 (a.put o.dst v) := by
 refine ⟨?_, ?_, fun k hk => ?_⟩
 · have := hf.defers
   cases o.dst <;> simpa [Act.put] using this
 · have := hf.size
   cases o.dst <;> simpa [Act.put] using this
 · rw [eval_put_other, hf.base k hk]
   intro hk2
   have : isDst ops k = true := by
    unfold isDst
    exact List.any_eq_true.2 ⟨o, Array.mem_toList_iff.2 (Array.mem_of_getElem? ho), by rw [hk2]; simp⟩
   rw [hk] at this; cases this
theorem holds_put {a : Act} {o : Oper} {i j : Nat} {w : World} {T : List Spec} (hd : dstsOk ops a0.tmps.size = true) (ho : ops[i]? = some o) (hji : j ≠ i) {v : Value} (h : Holds ops T a w j) : Holds ops T (a.put o.dst v) w j := by
 unfold Holds at *
 cases hoj : ops[j]? with
 | none => simp
 | some o' =>
  cases hsj : T[j]? with
  | none => simp
  | some s' =>
   simp only [hoj, hsj] at h ⊢
   cases hdo : o'.dst with
   | none => trivial
   | some d =>
    simp only [hdo] at h ⊢
    show s'.p ((a.put o.dst v).eval (.tmp d)) w
    rw [eval_put_other]
    · exact h
    · intro e
      exact (dsts_lt hd ho e).2 j o' hoj hji hdo
theorem holdsW_put {a : Act} {o : Oper} {i j : Nat} (hd : dstsOk ops a0.tmps.size = true) (ho : ops[i]? = some o) (hji : j ≠ i) {v : Value} (h : HoldsW ops S a j) : HoldsW ops S (a.put o.dst v) j := by
 unfold HoldsW at *
 cases hoj : ops[j]? with
 | none => simp
 | some o' =>
  cases hsj : S[j]? with
  | none => simp
  | some s' =>
   cases s' with
   | none => simp
   | some s' =>
    simp only [hoj, hsj] at h ⊢
    cases hdo : o'.dst with
    | none => trivial
    | some d =>
     simp only [hdo] at h ⊢
     show s'.q ((a.put o.dst v).eval (.tmp d))
     rw [eval_put_other]
     · exact h
     · intro e
       exact (dsts_lt hd ho e).2 j o' hoj hji hdo
theorem wp_region_store {id : Nat} (S : List (Option SpecQ)) (st : Nat) (late : List Nat) (Post : World → Prop) (hm : P.follows .mixedOrders = true)
  (hB : (List.range ops.size).all (fun i => match ops[i]? with | some x => x.after.all (fun e => !Region.binds .any e || decide (e.on < i)) | none => true) = true)
  (hd : dstsOk ops a0.tmps.size = true) (hl : lateB ops st late = true) (hst : S[st]? = some none) (hlen : S.length = ops.size) (hone : (List.range S.length).all (fun i => decide (i = st) || (match S[i]? with | some (some _) => true | _ => false)) = true)
  (h : StepsS P Q ops S a0 w0 ops.toList S) (hL : LateOK P Q ops S a0 late) (hS : StoreOK P Q ops S a0 w0 st Post)
  (hQ : ∀ a w, Post w → Fr ops a0 a → (∀ j, j < ops.size → HoldsW ops S a j) → Q .normal a w) : (Code.region id ops true).wp P Q a0 w0 := by
 have hstlt : st < ops.size := by rw [← hlen]; exact (List.getElem?_eq_some_iff.1 hst).1
 have hosto : ops[st]? = some ops[st] := Array.getElem?_eq_getElem hstlt
 unfold StoreOK at hS
 rw [hosto] at hS
 simp only at hS
 refine wp_region_inv hm (fun m a w => Fr ops a0 a ∧ ((m.getD st false = false ∧ Below w0.heap.size w0 w ∧ ∀ j, m.getD j false = true → Holds ops (specAt S) a w j) ∨
  (m.getD st false = true ∧ Post w ∧ (∀ j, m.getD j false = true → HoldsW ops S a j) ∧ ∀ j, waitsFor ops[st] j = true → m.getD j false = true))) ?_ ?_ ?_
 · rintro m a w hs ⟨hf, hh⟩ i hi
   obtain ⟨h1, o, ho, hall⟩ := mem_ready.1 hi
   have hil : i < ops.size := (Array.getElem?_eq_some_iff.1 ho).1
   have hmi : m.getD i false = false := by
    have hs' : i < m.size := by rw [hs]; exact hil
    simp [hs'] at h1 ⊢; exact h1
   have hdeps : ∀ j, waitsFor o j = true → m.getD j false = true := fun j hj => by
    obtain ⟨e, he, h2⟩ := List.any_eq_true.1 hj
    simp only [Bool.and_eq_true, beq_iff_eq] at h2
    obtain ⟨h3, rfl⟩ := h2
    exact hall e (Array.mem_toList_iff.1 he) h3
   unfold wpOp
   simp only [ho]
   by_cases hist : i = st
   · subst hist
     have hoe : o = ops[i] := Option.some.inj (ho.symm.trans hosto)
     subst hoe
     rcases hh with ⟨_, hb, hh⟩ | ⟨h2, _⟩
     · obtain ⟨hdn, hS⟩ := hS
       obtain ⟨hw, hwp⟩ := hS a w hb hf fun j hj => hh j (hdeps j hj)
       rw [if_pos hw]
       refine .inl (Oper.wp_mono ?_ hwp)
       rintro a' w' ⟨rfl, hp⟩
       have hsz : i < m.size := by rw [hs]; exact hil
       refine ⟨hf, .inr ⟨by simp [hsz], hp, fun j hj => ?_, fun j hj => getD_set_true (hdeps j hj)⟩⟩
       by_cases hji : j = i
       · subst hji
         unfold HoldsW
         rw [hosto, hst]; trivial
       · rw [getD_set_ne false (fun e => hji e.symm)] at hj
         exact holds_weak (hh j hj)
     · rw [hmi] at h2; cases h2
   · have hsi : ∃ s, S[i]? = some (some s) := by
      have := List.all_eq_true.1 hone i (List.mem_range.2 (by rw [hlen]; exact hil))
      cases hq : S[i]? with
      | none => rw [hq] at this; simp [hist] at this
      | some x =>
       cases x with
       | none => rw [hq] at this; simp [hist] at this
       | some s => exact ⟨s, rfl⟩
     obtain ⟨s, hsi⟩ := hsi
     rcases hh with ⟨h2, hb, hh⟩ | ⟨h2, hp, hh, hall2⟩
     · obtain ⟨s', hs', hstep⟩ := stepsS_at h i o (by simpa using ho)
       obtain rfl : s' = some s := Option.some.inj (hs'.symm.trans hsi)
       obtain ⟨hw, hwp⟩ := hstep s rfl a w hb hf fun j hj => hh j (hdeps j hj)
       rw [if_pos hw]
       refine .inl (Oper.wp_mono ?_ hwp)
       rintro a' w' ⟨v, rfl, hb', hsp⟩
       refine ⟨fr_put ho hf v, .inl ⟨by rw [getD_set_ne false hist]; exact h2, hb.trans (hb'.mono hb.size), fun j hj => ?_⟩⟩
       by_cases hji : j = i
       · subst hji
         unfold Holds
         simp only [ho, specAt_get hsi]
         cases hdo : o.dst with
         | none => trivial
         | some d =>
          show s.p ((a.put (some d) v).eval (.tmp d)) w'
          rw [eval_put_same]
          · exact hsp
          · rw [hf.size]; exact (dsts_lt hd ho hdo).1
       · have hj' : m.getD j false = true := by rw [getD_set_ne false (fun e => hji e.symm)] at hj; exact hj
         exact holds_put hd ho hji (holds_mono (hh j hj') hb')
     · have hlate : i ∈ late := by
        have := List.all_eq_true.1 hl i (List.mem_range.2 hil)
        rw [hosto] at this
        simp only [Bool.or_eq_true, decide_eq_true_eq, List.contains_iff_mem] at this
        rcases this with (h3 | h3) | h3
        · exact absurd h3 hist
        · exact h3
        · have := hall2 i h3; rw [hmi] at this; cases this
       obtain ⟨hw, hwp⟩ := lateOK_at hL i hlate o s ho hsi a w hf fun j hj => hh j (hdeps j hj)
       rw [if_pos hw]
       refine .inl (Oper.wp_mono ?_ hwp)
       rintro a' w' ⟨rfl, v, rfl, hq⟩
       refine ⟨fr_put ho hf v, .inr ⟨getD_set_true h2, hp, fun j hj => ?_, fun j hj => getD_set_true (hall2 j hj)⟩⟩
       by_cases hji : j = i
       · subst hji
         unfold HoldsW
         simp only [ho, hsi]
         cases hdo : o.dst with
         | none => trivial
         | some d =>
          show s.q ((a.put (some d) v).eval (.tmp d))
          rw [eval_put_same]
          · exact hq
          · rw [hf.size]; exact (dsts_lt hd ho hdo).1
       · have hj' : m.getD j false = true := by rw [getD_set_ne false (fun e => hji e.symm)] at hj; exact hj
         exact holdsW_put hd ho hji (hh j hj')
 · rintro m a w hs ⟨hf, hh⟩ hr
   have hmarked : ∀ j, j < ops.size → m.getD j false = true := fun j => by
    induction j using Nat.strongRecOn with
    | _ j ih =>
     intro hj
     cases hmj : m.getD j false with
     | true => rfl
     | false =>
      exfalso
      have hoj : ops[j]? = some ops[j] := Array.getElem?_eq_getElem hj
      have hbk := List.all_eq_true.1 hB j (List.mem_range.2 hj)
      rw [hoj] at hbk
      simp only [Array.all_eq_true_iff_forall_mem, Bool.or_eq_true, Bool.not_eq_true', decide_eq_true_eq] at hbk
      have hlt : ∀ e ∈ ops[j].after, Region.binds .any e = true → e.on < j := fun e he hbd => by
       rcases hbk e he with h | h
       · rw [hbd] at h; cases h
       · exact h
      have : j ∈ Region.ready .any ops m := mem_ready.2 ⟨by
       have hs' : j < m.size := by rw [hs]; exact hj
       simp [hs'] at hmj ⊢; exact hmj, ops[j], hoj, fun e he hbd => ih _ (hlt e he hbd) (by have := hlt e he hbd; omega)⟩
      rw [hr] at this; cases this
   rcases hh with ⟨h2, _⟩ | ⟨_, hp, hh, _⟩
   · rw [hmarked st hstlt] at h2; cases h2
   · exact hQ a w hp hf fun j hj => hh j (hmarked j hj)
 · refine ⟨⟨rfl, rfl, fun _ _ => rfl⟩, .inl ⟨?_, (Below.refl _ _).drew, fun j hj => ?_⟩⟩
   · simp only [Array.getD_eq_getD_getElem?, Array.getElem?_replicate]; split <;> rfl
   · exfalso
     simp only [Array.getD_eq_getD_getElem?, Array.getElem?_replicate] at hj
     split at hj <;> simp at hj
end
section
variable {P : Program} {Q : Exit → Act → World → Prop} {ops : Array Oper} {a : Act} {w : World} {o : Oper} {s : SpecQ}
end
end Go.Proofs.YtfghgenboahkkaaDoor
namespace Go.Proofs.YtfghgenboahkkaaDoor
structure Box (p : Prop) : Prop where
 out : p
def w4 (l : List UInt8) : UInt32 := l.foldl (fun x c => (x <<< 8) ||| c.toUInt32) 0
end Go.Proofs.YtfghgenboahkkaaDoor
namespace Go.Proofs.YtfghgenboahkkaaDoor
open Go.RowKit
theorem below_oneF (w : World) (o : Obj) : Below w.heap.size w (w.alloc o) := (Below.refl _ _).alloc (Nat.le_refl _) _
end Go.Proofs.YtfghgenboahkkaaDoor
namespace Go.Proofs.YtfghgenboahkkaaDoor
open Go.RowKit
open Go.Maps (Keyed string_keyed)
theorem keyedF : Keyed Tryd.prog 9 := string_keyed Tryd.underlying9
theorem zeroBF (w : World) : (zeroValue 4).run Tryd.prog w = .ok (.bool false) w := by kernel_rfl
def inS (s : ByteArray) (S : List ByteArray) : Bool := S.any fun x => x.toList == s.toList
def SetIn (w : World) (b n : Nat) (S : List ByteArray) : Prop :=
 ∃ D : DataW Unit, w.ownsMap Tryd.prog 9 (plainElem Tryd.prog 4) b n D ∧ ∀ s : ByteArray, D.atKey (.string s.data.toList) (.lit (.bool false)) = .lit (.bool (inS s S))
theorem SetIn.keep {w w' : World} {b n : Nat} {S : List ByteArray} (h : SetIn w b n S) (hb : Below w.heap.size w w') : SetIn w' b n S := by
 obtain ⟨D, h1, h2⟩ := h
 have hlt := h1.lt
 obtain ⟨es, clock, hbk, F, hs, hD⟩ := h1
 exact ⟨D, ⟨es, clock, by rw [hb.block b hlt]; exact hbk, F, hs, hD⟩, h2⟩
theorem SetIn.lt {w : World} {b n : Nat} {S : List ByteArray} (h : SetIn w b n S) : b < w.heap.size := by
 obtain ⟨D, h1, _⟩ := h; exact h1.lt
theorem SetIn.made (w : World) : SetIn (w.alloc (.map #[] 0)) w.heap.size 0 [] :=
 ⟨.map [], World.ownsMap_made _ _ _ _, fun s => by simp [DataW.atKey, inS]⟩
section
variable {ops : Array Oper} {rest : List Oper} {o : Oper} {act : Act} {Q : Exit → Act → World → Prop}
set_option maxRecDepth 100000 in
theorem SetIn.run {w : World} {b n : Nat} {S : List ByteArray} (h : SetIn w b n S) (s : ByteArray) (hs : s.size ≤ maxLen) :
  (Instr.lookup 59 (.map (some b)) (.string s) false).run Tryd.prog w = .ok (.bool (inS s S)) w := by
 obtain ⟨D, h1, h2⟩ := h
 obtain ⟨v, ps, hrun, hv⟩ := h1.lookup (t := 59) (e := 4) keyedF Tryd.underlying59 (zeroBF w) (plainElem_bool Tryd.underlying4 false) (key := .string s) (kl := .string s.data.toList) (WideMaps.keyOf_string_mk Tryd.underlying9 hs)
 rw [h2 s] at hv
 have : v = .bool (inS s S) := by
  unfold plainElem at hv
  rw [Tryd.underlying4] at hv
  generalize inS s S = r at *
  cases v <;> simp at hv
  rw [hv.1]
 rw [hrun, this]
theorem wpList_update_set (w : World) (hg : o.guard = none) (m x : Operand) (hop : o.op = Op.mapUpdate 59 m x (.const (.bool true))) {b n : Nat} {S : List ByteArray} {s : ByteArray}
  (hm : act.eval m = .map (some b)) (hS : SetIn w b n S) (hn : n < maxLen) (hx : act.eval x = .string s) (hs : s.size ≤ maxLen)
  (hK : ∀ w', SetIn w' b (n + 1) (S ++ [s]) → w.grownBy w' (some b) → wpList Tryd.prog ops Q rest (act.put o.dst undef) w') : wpList Tryd.prog ops Q (o :: rest) act w := by
 obtain ⟨D, h1, h2⟩ := hS
 refine wpList_mapUpdate_own w hg m x (.const (.bool true)) 59 hop 9 4 keyedF Tryd.underlying59 _ b n D hm h1 hn (.string s) (.bool true) (.string s.data.toList) hx rfl (WideMaps.keyOf_string_mk Tryd.underlying9 hs)
  (.lit (.bool true)) [] (plainElem_bool Tryd.underlying4 true) ?_
 intro w' h3 h4
 refine hK w' ⟨_, h3, fun s' => ?_⟩ h4
 by_cases he : s' = s
 · subst he
   rw [Maps.atKey_put_same (h1.isMap) (show WideAt.IsKeyLit (.string s'.data.toList) from trivial)]
   simp [inS]
 · rw [Maps.atKey_put_other (fun e => he (ba_ext (by injection e)))]
   rw [h2 s']
   have : (s.toList == s'.toList) = false := by rw [toList_eq]; simp; exact fun e => he e.symm
   simp [inS, this]
end
theorem lowS_sizeF (s : ByteArray) : (lowS s).size = s.size := by
 show (lowS s).data.size = s.data.size
 simp [lowS]
def RetSet (w : World) (S : List ByteArray) (e : Ending) (w' : World) : Prop :=
 ∃ b n, e = .returned (.map (some b)) ∧ SetIn w' b n S ∧ Below w.heap.size w w'
set_option maxRecDepth 100000 in
set_option maxHeartbeats 1000000 in
theorem setOf_any (l : List ByteArray) (a : Option Addr) (cap : Nat) (w : World) (h : StrsIn w a l) (hz : ∀ s ∈ l, s.size ≤ maxLen) (hl : l.length ≤ 140737488355328) :
  Calls Tryd.prog 28 #[.slice a l.length cap] w (RetSet w (l.map lowS)) := by
 have H0 := Box.mk h
 have HZ := Box.mk hz
 clear h hz
 have hmm := @run_makeMap Tryd.prog
 go_enter Tryd.func28, Tryd.ntmps28
 go_wp2_with fail
 obtain ⟨W, hW⟩ : ∃ W, W = w.alloc (.map #[] 0) := ⟨_, rfl⟩
 have HS := Box.mk (SetIn.made w)
 have HB := Box.mk (below_oneF w (.map #[] 0))
 rw [← hW] at HS HB ⊢
 clear hW
 generalize hb : w.heap.size = b at HS ⊢
 have HBS := Box.mk hb
 clear hb
 go_loopw [9] (fun iv wr => ∃ k : Nat, k ≤ l.length ∧ iv = .int .i64 k ∧ Box (SetIn wr b k ((l.take k).map lowS) ∧ Below w.heap.size w wr)) (fun iv _ => l.length - (intOf iv).toNat)
 case atStart => exact ⟨0, Nat.zero_le _, rfl, ⟨by simpa using HS.out, HB.out⟩⟩
 case round =>
  clear HS HB
  obtain ⟨k, hk, rfl, HM⟩ := hrel
  by_cases hlt : k < l.length
  · obtain ⟨x, rfl, hx⟩ := (H0.out.keep HM.out.2) k hlt
    have HT := Box.mk (show (l.take (k + 1)).map lowS = (l.take k).map lowS ++ [lowS l[k]] by rw [List.take_succ_eq_append_getElem hlt, List.map_append]; rfl)
    have HSZ := Box.mk (HZ.out _ (List.getElem_mem hlt))
    generalize l[k] = s at *
    go_wp2_with fail
    refine (lower_any s _ HSZ.out).mono ?_
    rintro e w1 ⟨rfl, hb1⟩
    have HS1 := Box.mk (HM.out.1.keep hb1)
    have HB1 := Box.mk (below_trans HM.out.2 hb1)
    have HLZ := Box.mk (show (lowS s).size ≤ maxLen by rw [lowS_sizeF]; exact HSZ.out)
    clear hb1
    go_wp2_with (at_mapUpdate; refine wpList_update_set _ rfl _ _ rfl rfl HS1.out (by unfold maxLen; omega) rfl HLZ.out ?c1)
    case c1 =>
     intro w2 hs2 hg2
     have HM2 := Box.mk (show SetIn w2 b (k + 1) ((l.take (k + 1)).map lowS) ∧ Below w.heap.size w w2 from ⟨by rw [HT.out, List.map_take]; exact hs2, HB1.out.grown hg2 HB1.out.size (fun j hj => by injection hj with hj; have := HBS.out; omega)⟩)
     clear hs2 hg2 HS1 HB1 HT
     go_wp2_with fail
     go_roundw
     case rel => exact ⟨k + 1, by omega, by go_num, HM2⟩
     case measure => simp [intOf]; omega
  · have HE := Box.mk (show SetIn wr b k (l.map lowS) by have := HM.out.1; rw [List.take_of_length_le (by omega)] at this; exact this)
    go_wp2_with fail
    go_ret
    exact ⟨b, k, rfl, HE.out, HM.out.2⟩
set_option maxHeartbeats 1000000 in
theorem hdrIn_any (n v : ByteArray) (b m : Nat) (S : List ByteArray) (w : World) (h : SetIn w b m S) (hn : n.size ≤ maxLen) :
  Calls Tryd.prog 29 #[.agg #[.string n, .string v], .map (some b)] w fun e w' => e = .returned (.bool (inS (lowS n) S)) ∧ Below w.heap.size w w' := by
 have H0 := Box.mk (h.keep (below_oneF w (.cells #[.string n, .string v] 62)))
 clear h
 go_enter Tryd.func29, Tryd.ntmps29
 go_wp2_with fail
 refine (lower_any n _ hn).mono ?_
 rintro e w1 ⟨rfl, hb⟩
 have hrun := (H0.out.keep hb).run (lowS n) (by rw [lowS_sizeF]; exact hn)
 have HB := Box.mk (below_trans (below_oneF w (.cells #[.string n, .string v] 62)) hb)
 clear hb
 generalize hr : inS (lowS n) S = r at *
 have HR := Box.mk hr
 clear hr
 go_wp2_with fail
 go_ret
 exact ⟨ret_bool HR.out.symm, HB.out⟩
end Go.Proofs.YtfghgenboahkkaaDoor
namespace Go.Proofs.YtfghgenboahkkaaDoor
open Go.ChangeShapes Go.WideShapes Go.ChangeAt Go.RowKit
abbrev Fld := ByteArray × ByteArray
def cellsF (l : List Fld) : List Value := l.flatMap fun f => [.string f.1, .string f.2]
theorem cellsF_len (l : List Fld) : (cellsF l).length = l.length * 2 := by
 induction l with
 | nil => rfl
 | cons a t ih =>
  have : cellsF (a :: t) = .string a.1 :: .string a.2 :: cellsF t := rfl
  rw [this]; simp only [List.length_cons, ih]; omega
theorem cellsF_app (a b : List Fld) : cellsF (a ++ b) = cellsF a ++ cellsF b := by unfold cellsF; rw [List.flatMap_append]
theorem cellsF_get : ∀ (l : List Fld) (j : Nat) (hj : j < l.length), (cellsF l)[j * 2]? = some (.string l[j].1) ∧ (cellsF l)[j * 2 + 1]? = some (.string l[j].2)
 | a :: t, 0, _ => ⟨rfl, rfl⟩
 | a :: t, j + 1, hj => by
  have ih := cellsF_get t j (by simpa using hj)
  have e : cellsF (a :: t) = .string a.1 :: .string a.2 :: cellsF t := rfl
  rw [e, show (j + 1) * 2 = j * 2 + 1 + 1 by omega, show j * 2 + 1 + 1 + 1 = (j * 2 + 1) + 1 + 1 by omega]
  simpa using ih
theorem cellsF_one (l : List Fld) : ∀ u ∈ cellsF l, u.oneCell' = true := by
 intro u hu
 unfold cellsF at hu
 obtain ⟨f, _, hf⟩ := List.mem_flatMap.1 hu
 simp at hf
 rcases hf with rfl | rfl <;> rfl
theorem cell_next {w : World} {x : Addr} {i : Nat} {v : Value} (h : w.cell? (x.add (i + 1)) = some v) : w.cell? ⟨(x.add i).block, (x.add i).off + 1, none⟩ = some v := by
 rw [← Go.Deep.add_add] at h
 rw [← h]; rfl
def FldsIn (w : World) (a : Option Addr) (l : List Fld) : Prop :=
 ∀ j (hj : j < l.length), ∃ x, a = some x ∧ w.cell? (x.add (j * 2)) = some (.string l[j].1) ∧ w.cell? (x.add (j * 2 + 1)) = some (.string l[j].2)
theorem FldsIn.keep {w w' : World} {a : Option Addr} {l : List Fld} (h : FldsIn w a l) (hb : Below w.heap.size w w') : FldsIn w' a l := fun j hj => by
 obtain ⟨x, e, h1, h2⟩ := h j hj
 exact ⟨x, e, below_cell hb h1, below_cell hb h2⟩
theorem FldsIn.nil (w : World) (a : Option Addr) : FldsIn w a [] := fun _ hj => absurd hj (Nat.not_lt_zero _)
theorem FldsIn.take {w : World} {a : Option Addr} {l : List Fld} (h : FldsIn w a l) (k : Nat) : FldsIn w a (l.take k) := fun j hj => by
 have hj' : j < l.length := by rw [List.length_take] at hj; omega
 obtain ⟨x, e, h1, h2⟩ := h j hj'
 exact ⟨x, e, by rw [List.getElem_take]; exact h1, by rw [List.getElem_take]; exact h2⟩
theorem FldsIn.cells {w : World} {x : Addr} {l : List Fld} (h : FldsIn w (some x) l) : ∀ j u, (cellsF l)[j]? = some u → w.cell? (x.add j) = some u := fun j u hj => by
 have hlt : j < l.length * 2 := by rw [← cellsF_len]; exact (List.getElem?_eq_some_iff.1 hj).1
 have hk : j / 2 < l.length := by omega
 obtain ⟨y, e, h1, h2⟩ := h (j / 2) hk
 obtain rfl := Option.some.inj e
 obtain ⟨g1, g2⟩ := cellsF_get l (j / 2) hk
 rcases Nat.mod_two_eq_zero_or_one j with hm | hm
 · have : j / 2 * 2 = j := by omega
   rw [this] at h1 g1
   rw [hj] at g1; rw [h1, ← g1]
 · have : j / 2 * 2 + 1 = j := by omega
   rw [this] at h2 g2
   rw [hj] at g2; rw [h2, ← g2]
theorem FldsIn.of_cells {w : World} {x : Addr} {l : List Fld} (h : ∀ j u, (cellsF l)[j]? = some u → w.cell? (x.add j) = some u) : FldsIn w (some x) l := fun j hj =>
 ⟨x, rfl, h _ _ (cellsF_get l j hj).1, h _ _ (cellsF_get l j hj).2⟩
theorem Tryd.info31 : (Tryd.prog.info? 31).map (fun i => (i.zero, i.size, i.bytes)) = some (some (.agg #[.string ⟨#[]⟩, .string ⟨#[]⟩]), 2, 32) := by kernel_rfl
def AccF (w0 w : World) (v : Value) (l : List Fld) : Prop :=
 w.ownsRow w0.heap.size 31 2 v l.length (cellsF l) ∧ Below w0.heap.size w0 w
theorem AccF.start (w : World) : AccF w w (.slice none 0 0) [] := ⟨World.ownsRow_nil _ _ _ _, Below.refl _ _⟩
theorem AccF.keep {w0 w w' : World} {v : Value} {l : List Fld} (h : AccF w0 w v l) (hb : Below w.heap.size w w') : AccF w0 w' v l :=
 ⟨ownsRow_keep h.1 hb, h.2.trans (hb.mono h.2.size)⟩
theorem AccF.shape {w0 w : World} {v : Value} {l : List Fld} (h : AccF w0 w v l) : ∃ a cap, v = .slice a l.length cap ∧ FldsIn w a l := by
 obtain ⟨⟨h1, h2⟩, _⟩ := h
 rcases h2 with ⟨rfl, h2⟩ | ⟨g, cap, cur, rfl, hg, hc, hcap, hm, hsz, ht⟩
 · have : l = [] := List.eq_nil_of_length_eq_zero h2
   subst this
   exact ⟨none, 0, rfl, FldsIn.nil _ _⟩
 · refine ⟨_, cap, rfl, FldsIn.of_cells fun j u hj => ?_⟩
   have e := congrArg (fun x => x[j]?) ht
   have hlt : j < l.length * 2 := by rw [← cellsF_len]; exact (List.getElem?_eq_some_iff.1 hj).1
   rw [hj, List.getElem?_take_of_lt hlt] at e
   rw [Addr.add_lit]
   simp only [World.cell?, hc, Nat.zero_add]
   simpa using e
section
variable {ops : Array Oper} {rest : List Oper} {o : Oper} {act : Act} {Q : Exit → Act → World → Prop}
end
def ShortF (l : List Fld) : Prop := ∀ f ∈ l, f.1.size ≤ maxLen ∧ f.2.size ≤ maxLen
end Go.Proofs.YtfghgenboahkkaaDoor
namespace Go.Proofs.YtfghgenboahkkaaDoor
open Go.RowKit
def valuesL (l : List Fld) (n : ByteArray) : List ByteArray := (l.filter fun f => foldS f.1 n).map (·.2)
theorem valuesL_yes (l : List Fld) (n : ByteArray) (k : Nat) (h : k < l.length) (hf : foldS l[k].1 n = true) : valuesL (l.take (k + 1)) n = valuesL (l.take k) n ++ [l[k].2] := by
 unfold valuesL
 rw [List.take_succ_eq_append_getElem h, List.filter_append, List.map_append]; simp [hf]
theorem valuesL_no (l : List Fld) (n : ByteArray) (k : Nat) (h : k < l.length) (hf : foldS l[k].1 n = false) : valuesL (l.take (k + 1)) n = valuesL (l.take k) n := by
 unfold valuesL
 rw [List.take_succ_eq_append_getElem h, List.filter_append, List.map_append]; simp [hf]
theorem valuesL_len (l : List Fld) (n : ByteArray) : (valuesL l n).length ≤ l.length := by
 unfold valuesL; rw [List.length_map]; exact List.length_filter_le _ _
def inFoldL (l : List ByteArray) (s : ByteArray) : Bool := l.any fun x => foldS x s
def withoutL (l : List Fld) (ns : List ByteArray) : List Fld := l.filter fun f => !inFoldL ns f.1
theorem withoutL_yes (l : List Fld) (ns : List ByteArray) (k : Nat) (h : k < l.length) (hf : inFoldL ns l[k].1 = false) : withoutL (l.take (k + 1)) ns = withoutL (l.take k) ns ++ [l[k]] := by
 unfold withoutL
 rw [List.take_succ_eq_append_getElem h, List.filter_append]; simp [hf]
theorem withoutL_no (l : List Fld) (ns : List ByteArray) (k : Nat) (h : k < l.length) (hf : inFoldL ns l[k].1 = true) : withoutL (l.take (k + 1)) ns = withoutL (l.take k) ns := by
 unfold withoutL
 rw [List.take_succ_eq_append_getElem h, List.filter_append]; simp [hf]
theorem withoutL_len (l : List Fld) (ns : List ByteArray) : (withoutL l ns).length ≤ l.length := by
 unfold withoutL; exact List.length_filter_le _ _
theorem withoutL_short {l : List Fld} (h : ShortF l) (ns : List ByteArray) : ShortF (withoutL l ns) := fun f hf => h f (List.mem_filter.1 hf).1
def RetAccF (w : World) (l : List Fld) (e : Ending) (w' : World) : Prop := ∃ v, e = .returned v ∧ AccF w w' v l
theorem AccF.lift {w w1 w2 : World} {v : Value} {l : List Fld} (h : Below w.heap.size w w1) (k : AccF w1 w2 v l) : AccF w w2 v l := by
 refine ⟨?_, below_trans h k.2⟩
 obtain ⟨⟨h1, h2⟩, _⟩ := k
 refine ⟨h1, ?_⟩
 rcases h2 with h2 | ⟨g, cap, cur, hv, hg, r⟩
 · exact .inl h2
 · exact .inr ⟨g, cap, cur, hv, Nat.le_trans h.size hg, r⟩
theorem inS_map (s : ByteArray) (ns : List ByteArray) : inS (lowS s) (ns.map lowS) = inFoldL ns s := by
 unfold inS inFoldL foldS
 rw [List.any_map]; rfl
theorem inS_one (s n : ByteArray) : inS (lowS s) ([n].map lowS) = foldS s n := by
 rw [inS_map]
 unfold inFoldL foldS
 simp only [List.any_cons, List.any_nil, Bool.or_false]
 exact Bool.beq_comm
theorem new_cellF (w : World) (cs : Array Value) (t : TypeId) (j : Nat) : (w.alloc (.cells cs t (0, 0))).cell? ⟨w.heap.size, j, none⟩ = cs[j]? :=
 cell_of_row _ _ _ _ _ _ (heap_alloc_new w (.cells cs t (0, 0)))
theorem strsIn_one (w : World) (n : ByteArray) (t : TypeId) : StrsIn (w.alloc (.cells #[.string n] t)) (some ⟨w.heap.size, 0, none⟩) [n] := fun j hj => by
 obtain rfl : j = 0 := by simpa using hj
 exact ⟨_, rfl, by rw [Addr.add_lit, new_cellF]; rfl⟩
theorem below_twoF {w w1 : World} (h : Below w.heap.size w w1) (o : Obj) : Below w.heap.size w (w1.alloc o) := below_trans h (below_oneF w1 o)
theorem SetIn.grown {w w' : World} {b n : Nat} {S : List ByteArray} {row : Option Nat} (h : SetIn w b n S) (hg : w.grownBy w' row) (hne : row ≠ some b) : SetIn w' b n S := by
 obtain ⟨D, h1, h2⟩ := h
 exact ⟨D, h1.kept hg (fun e => hne e.symm), h2⟩
section
variable {ops : Array Oper} {rest : List Oper} {o : Oper} {act : Act} {Q : Exit → Act → World → Prop}
theorem wpList_append_accset (w : World) (hgd : o.guard = none) (s x : Operand) (ho : o.op = .call { callee := .builtin .append, args := #[s, x], argTypes := #[29, 29] })
  {w0 : World} {v : Value} {l : List ByteArray} (hs : act.eval s = v) (h : Acc w0 w v l) {b c : Nat} (hx : act.eval x = .slice (some ⟨b, 0, none⟩) 1 c) {y : ByteArray} (hy : w.cell? ⟨b, 0, none⟩ = some (.string y))
  {q m : Nat} {S : List ByteArray} (hS : SetIn w q m S) (hne : v.ownBlock ≠ some q) (hn : l.length + 1 ≤ 8796093022208)
  (K : ∀ v' w', Acc w0 w' v' (l ++ [y]) → SetIn w' q m S → v'.ownBlock ≠ some q → wpList Tryd.prog ops Q rest (act.put o.dst v') w') : wpList Tryd.prog ops Q (o :: rest) act w := by
 obtain ⟨i0, hi, hz0, hz1, hz2⟩ := info_parts Tryd.info9
 refine wpList_append_lies w hgd s x 29 ho w0.heap.size 9 i0 (.string ⟨#[]⟩) 1 16 Tryd.underlying29 hi hz0 hz1 hz2 rfl (by decide) v l.length (l.map Value.string) hs h.1 ⟨b, 0, none⟩ 1 c [.string y] hx rfl ?_ ?_ (by decide) (by unfold maxLen; omega) (by omega) h.2.size w.heap.size rfl ?_
 · intro j u hj
   match j, hj with
   | 0, hj => simp at hj; subst hj; rw [Addr.add_lit]; exact hy
   | j + 1, hj => simp at hj
 · intro u hu; simp at hu; subst hu; rfl
 · intro g cap w' hown hgrow hg hlt
   refine K _ w' ⟨by simpa using hown, h.2.grown hgrow h.2.size fun k hk => (World.ownsRow.lt h.1 k hk).1⟩ (hS.grown hgrow hne) (fun e => ?_)
   have : g = q := by simpa [Value.ownBlock] using e
   subst this
   rcases hg with hg | hg
   · exact hne hg
   · have := hS.lt; omega
theorem wpList_append_accfset (w : World) (hgd : o.guard = none) (s x : Operand) (ho : o.op = .call { callee := .builtin .append, args := #[s, x], argTypes := #[26, 26] })
  {w0 : World} {v : Value} {l : List Fld} (hs : act.eval s = v) (h : AccF w0 w v l) {b c : Nat} (hx : act.eval x = .slice (some ⟨b, 0, none⟩) 1 c) {y : Fld} (hy : w.cell? ⟨b, 0, none⟩ = some (.string y.1)) (hy2 : w.cell? ⟨b, 1, none⟩ = some (.string y.2))
  {q m : Nat} {S : List ByteArray} (hS : SetIn w q m S) (hne : v.ownBlock ≠ some q) (hn : l.length + 1 ≤ 4398046511104)
  (K : ∀ v' w', AccF w0 w' v' (l ++ [y]) → SetIn w' q m S → v'.ownBlock ≠ some q → wpList Tryd.prog ops Q rest (act.put o.dst v') w') : wpList Tryd.prog ops Q (o :: rest) act w := by
 obtain ⟨i0, hi, hz0, hz1, hz2⟩ := info_parts Tryd.info31
 refine wpList_append_lies w hgd s x 26 ho w0.heap.size 31 i0 _ 2 32 Tryd.underlying26 hi hz0 hz1 hz2 rfl (by decide) v l.length (cellsF l) hs h.1 ⟨b, 0, none⟩ 1 c [.string y.1, .string y.2] hx rfl ?_ ?_ (by decide) (by unfold maxLen; omega) (by omega) h.2.size w.heap.size rfl ?_
 · intro j u hj
   match j, hj with
   | 0, hj => simp at hj; subst hj; rw [Addr.add_lit]; exact hy
   | 1, hj => simp at hj; subst hj; rw [Addr.add_lit]; exact hy2
   | j + 2, hj => simp at hj
 · intro u hu; simp at hu; rcases hu with rfl | rfl <;> rfl
 · intro g cap w' hown hgrow hg hlt
   refine K _ w' ⟨by rw [List.length_append, cellsF_app]; exact hown, h.2.grown hgrow h.2.size fun k hk => (World.ownsRow.lt h.1 k hk).1⟩ (hS.grown hgrow hne) (fun e => ?_)
   have : g = q := by simpa [Value.ownBlock] using e
   subst this
   rcases hg with hg | hg
   · exact hne hg
   · have := hS.lt; omega
end
theorem one_short (n : ByteArray) : ([n] : List ByteArray).length ≤ 140737488355328 := by show 1 ≤ 140737488355328; decide
set_option maxRecDepth 100000 in
set_option maxHeartbeats 2000000 in
theorem fValues_any (l : List Fld) (n : ByteArray) (a : Option Addr) (cap : Nat) (w : World) (h : FldsIn w a l) (hz : ShortF l) (hn : n.size ≤ maxLen) (hl : l.length ≤ 1000000) :
  Calls Tryd.prog 27 #[.slice a l.length cap, .string n] w (RetStrs w (valuesL l n)) := by
 have H0 := Box.mk h
 have HZ := Box.mk hz
 clear h hz
 go_enter Tryd.func27, Tryd.ntmps27
 go_wp2_with fail
 refine (setOf_any [n] _ _ _ (strsIn_one w n _) (by simpa using hn) (one_short n)).mono ?_
 rintro e w1 ⟨b, m, rfl, hS, hb⟩
 have HS := Box.mk hS
 have HB := Box.mk (below_trans (below_oneF w (.cells #[.string n] 9)) hb)
 clear hS hb
 have HA0 := Box.mk (show Acc w w1 (.slice none 0 0) (valuesL (l.take 0) n) from ⟨World.ownsRow_nil _ _ _ _, HB.out⟩)
 go_wp2_with fail
 go_loopw [5, 14] (fun v iv wr => ∃ k : Nat, k ≤ l.length ∧ iv = .int .i64 k ∧ Box (Acc w wr v (valuesL (l.take k) n) ∧ SetIn wr b m ([n].map lowS) ∧ v.ownBlock ≠ some b)) (fun _ iv _ => l.length - (intOf iv).toNat)
 case atStart => exact ⟨0, Nat.zero_le _, rfl, ⟨HA0.out, HS.out, by simp [Value.ownBlock]⟩⟩
 case round =>
  clear HS HB HA0
  obtain ⟨k, hk, rfl, HM⟩ := hrel
  by_cases hlt : k < l.length
  · obtain ⟨x, rfl, hx1, hx2⟩ := (H0.out.keep HM.out.1.2) k hlt
    have hx2 := cell_next hx2
    have HSZ := Box.mk (HZ.out _ (List.getElem_mem hlt))
    have hVL := valuesL_len (l.take k) n
    have hVL2 : (l.take k).length ≤ k := List.length_take_le _ _
    by_cases hf : foldS l[k].1 n = true
    · have HT := Box.mk (valuesL_yes l n k hlt hf)
      have HIN := Box.mk (show inS (lowS l[k].1) ([n].map lowS) = true by rw [inS_one]; exact hf)
      clear hf
      generalize l[k] = f at *
      go_wp2_with fail
      refine (hdrIn_any f.1 f.2 b m _ _ (HM.out.2.1.keep (below_oneF wr (.cells #[.string f.1, .string f.2] 31))) HSZ.out.1).mono ?_
      rintro e w2 ⟨he, hb1⟩
      rw [HIN.out] at he
      subst he
      have hc2 : w2.cell? ⟨wr.heap.size, 1, none⟩ = some (.string f.2) := below_cell hb1 (by rw [new_cellF]; rfl)
      have HB2 := Box.mk (below_trans (below_oneF wr (.cells #[.string f.1, .string f.2] 31)) hb1)
      have HA2 := Box.mk (HM.out.1.keep HB2.out)
      have HS2 := Box.mk (HM.out.2.1.keep HB2.out)
      clear hb1 HIN
      go_wp2_with (at_builtin; refine wpList_append_accset _ rfl _ _ rfl rfl (HA2.out.keep ((Below.refl _ _).alloc (Nat.le_refl _) _)) rfl (y := f.2) ?c1 (HS2.out.keep ((Below.refl _ _).alloc (Nat.le_refl _) _)) HM.out.2.2 ?c2 ?c3)
      case c1 => simp
      case c2 => omega
      case c3 =>
       intro v' w' hacc hs' hne
       have HACC := Box.mk (show Acc w w' v' (valuesL (l.take (k + 1)) n) ∧ SetIn w' b m ([n].map lowS) ∧ v'.ownBlock ≠ some b by rw [HT.out]; exact ⟨hacc, hs', hne⟩)
       clear hacc hs' hne HT HA2 HS2 HB2 HM
       go_wp2_with fail
       go_roundw
       case rel => exact ⟨k + 1, by omega, by go_num, HACC⟩
       case measure => simp [intOf]; omega
    · have hf' : foldS l[k].1 n = false := by simpa using hf
      have HT := Box.mk (valuesL_no l n k hlt hf')
      have HIN := Box.mk (show inS (lowS l[k].1) ([n].map lowS) = false by rw [inS_one]; exact hf')
      clear hf hf'
      generalize l[k] = f at *
      go_wp2_with fail
      refine (hdrIn_any f.1 f.2 b m _ _ (HM.out.2.1.keep (below_oneF wr (.cells #[.string f.1, .string f.2] 31))) HSZ.out.1).mono ?_
      rintro e w2 ⟨he, hb1⟩
      rw [HIN.out] at he
      subst he
      have HB2 := Box.mk (below_trans (below_oneF wr (.cells #[.string f.1, .string f.2] 31)) hb1)
      have HM2 := Box.mk (show Acc w w2 _ (valuesL (l.take (k + 1)) n) ∧ SetIn w2 b m ([n].map lowS) ∧ _ by rw [HT.out]; exact ⟨HM.out.1.keep HB2.out, HM.out.2.1.keep HB2.out, HM.out.2.2⟩)
      clear hb1 HIN HT HB2
      go_wp2_with fail
      go_roundw
      case rel => exact ⟨k + 1, by omega, by go_num, HM2⟩
      case measure => simp [intOf]; omega
  · have HE := Box.mk (show Acc w wr _ (valuesL l n) by have := HM.out.1; rw [List.take_of_length_le (by omega)] at this; exact this)
    go_wp2_with fail
    obtain ⟨a', cap', rfl, hs⟩ := HE.out.shape
    go_ret
    exact ⟨a', cap', rfl, hs, HE.out.2⟩
set_option maxRecDepth 100000 in
set_option maxHeartbeats 2000000 in
theorem fWithout_acc (l : List Fld) (ns : List ByteArray) (a d : Option Addr) (cap cd : Nat) (w : World) (h : FldsIn w a l) (hz : ShortF l) (hn : StrsIn w d ns) (hnz : ∀ x ∈ ns, x.size ≤ maxLen) (hl : l.length ≤ 1000000) (hnl : ns.length ≤ 4000000000) :
  Calls Tryd.prog 20 #[.slice a l.length cap, .slice d ns.length cd] w (RetAccF w (withoutL l ns)) := by
 have H0 := Box.mk h
 have HZ := Box.mk hz
 have HN := Box.mk hn
 have HNZ := Box.mk hnz
 clear h hz hn hnz
 go_enter Tryd.func20, Tryd.ntmps20
 go_wp2_with fail
 refine (setOf_any ns _ _ _ HN.out HNZ.out (by omega)).mono ?_
 rintro e w1 ⟨b, m, rfl, hS, hb⟩
 have HS := Box.mk hS
 have HB := Box.mk hb
 clear hS hb
 have HA0 := Box.mk (show AccF w w1 (.slice none 0 0) (withoutL (l.take 0) ns) from ⟨World.ownsRow_nil _ _ _ _, HB.out⟩)
 go_wp2_with fail
 go_loopw [5, 13] (fun v iv wr => ∃ k : Nat, k ≤ l.length ∧ iv = .int .i64 k ∧ Box (AccF w wr v (withoutL (l.take k) ns) ∧ SetIn wr b m (ns.map lowS) ∧ v.ownBlock ≠ some b)) (fun _ iv _ => l.length - (intOf iv).toNat)
 case atStart => exact ⟨0, Nat.zero_le _, rfl, ⟨HA0.out, HS.out, by simp [Value.ownBlock]⟩⟩
 case round =>
  clear HS HB HA0
  obtain ⟨k, hk, rfl, HM⟩ := hrel
  by_cases hlt : k < l.length
  · obtain ⟨x, rfl, hx1, hx2⟩ := (H0.out.keep HM.out.1.2) k hlt
    have hx2 := cell_next hx2
    have HSZ := Box.mk (HZ.out _ (List.getElem_mem hlt))
    have hVL := withoutL_len (l.take k) ns
    have hVL2 : (l.take k).length ≤ k := List.length_take_le _ _
    by_cases hf' : inFoldL ns l[k].1 = false
    · have HT := Box.mk (withoutL_yes l ns k hlt hf')
      have HIN := Box.mk (show inS (lowS l[k].1) (ns.map lowS) = false by rw [inS_map]; exact hf')
      clear hf'
      generalize l[k] = f at *
      go_wp2_with fail
      refine (hdrIn_any f.1 f.2 b m _ _ (HM.out.2.1.keep (below_oneF wr (.cells #[.string f.1, .string f.2] 31))) HSZ.out.1).mono ?_
      rintro e w2 ⟨he, hb1⟩
      rw [HIN.out] at he
      subst he
      have hc1 : w2.cell? ⟨wr.heap.size, 0, none⟩ = some (.string f.1) := below_cell hb1 (by rw [new_cellF]; rfl)
      have hc2 : w2.cell? ⟨wr.heap.size, 1, none⟩ = some (.string f.2) := below_cell hb1 (by rw [new_cellF]; rfl)
      have HB2 := Box.mk (below_trans (below_oneF wr (.cells #[.string f.1, .string f.2] 31)) hb1)
      have HA2 := Box.mk (HM.out.1.keep HB2.out)
      have HS2 := Box.mk (HM.out.2.1.keep HB2.out)
      clear hb1 HIN
      go_wp2_with (at_builtin; refine wpList_append_accfset _ rfl _ _ rfl rfl (HA2.out.keep ((Below.refl _ _).alloc (Nat.le_refl _) _)) rfl (y := f) ?c1 ?c1b (HS2.out.keep ((Below.refl _ _).alloc (Nat.le_refl _) _)) HM.out.2.2 ?c2 ?c3)
      case c1 => simp
      case c1b => simp
      case c2 => omega
      case c3 =>
       intro v' w' hacc hs' hne
       have HACC := Box.mk (show AccF w w' v' (withoutL (l.take (k + 1)) ns) ∧ SetIn w' b m (ns.map lowS) ∧ v'.ownBlock ≠ some b by rw [HT.out]; exact ⟨hacc, hs', hne⟩)
       clear hacc hs' hne HT HA2 HS2 HB2 HM
       go_wp2_with fail
       go_roundw
       case rel => exact ⟨k + 1, by omega, by go_num, HACC⟩
       case measure => simp [intOf]; omega
    · have hf : inFoldL ns l[k].1 = true := by simpa using hf'
      have HT := Box.mk (withoutL_no l ns k hlt hf)
      have HIN := Box.mk (show inS (lowS l[k].1) (ns.map lowS) = true by rw [inS_map]; exact hf)
      clear hf hf'
      generalize l[k] = f at *
      go_wp2_with fail
      refine (hdrIn_any f.1 f.2 b m _ _ (HM.out.2.1.keep (below_oneF wr (.cells #[.string f.1, .string f.2] 31))) HSZ.out.1).mono ?_
      rintro e w2 ⟨he, hb1⟩
      rw [HIN.out] at he
      subst he
      have HB2 := Box.mk (below_trans (below_oneF wr (.cells #[.string f.1, .string f.2] 31)) hb1)
      have HM2 := Box.mk (show AccF w w2 _ (withoutL (l.take (k + 1)) ns) ∧ SetIn w2 b m (ns.map lowS) ∧ _ by rw [HT.out]; exact ⟨HM.out.1.keep HB2.out, HM.out.2.1.keep HB2.out, HM.out.2.2⟩)
      clear hb1 HIN HT HB2
      go_wp2_with fail
      go_roundw
      case rel => exact ⟨k + 1, by omega, by go_num, HM2⟩
      case measure => simp [intOf]; omega
  · have HE := Box.mk (show AccF w wr _ (withoutL l ns) by have := HM.out.1; rw [List.take_of_length_le (by omega)] at this; exact this)
    go_wp2_with fail
    go_ret
    exact ⟨_, rfl, HE.out⟩
end Go.Proofs.YtfghgenboahkkaaDoor
namespace Go.Proofs.YtfghgenboahkkaaDoor
open Go.RowKit
section
variable (w : World) (m : Int)
set_option maxHeartbeats 1000000 in
theorem fElements_acc (l : List Fld) (n : ByteArray) (a : Option Addr) (cap : Nat) (h : FldsIn w a l) (hz : ShortF l) (hn : n.size ≤ maxLen) (hl : l.length ≤ 1000000) (hm : w.cell? ⟨0, 0, none⟩ = some (.int .i64 m)) (ht : total (valuesL l n) ≤ 4000000000) :
  Calls Tryd.prog 19 #[.slice a l.length cap, .string n] w (RetAcc w (listL (valuesL l n))) := by
 have H0 := Box.mk h
 have HM := Box.mk hm
 clear h hm
 go_enter Tryd.func19, Tryd.ntmps19
 go_wp2_with fail
 refine (fValues_any l n a cap _ H0.out hz hn hl).mono ?_
 rintro e w1 ⟨a', cap', rfl, hs, hb⟩
 have HB := Box.mk hb
 clear hb
 go_wp2_with fail
 refine (list_acc _ a' cap' _ m hs (below_cell HB.out HM.out) ht).mono ?_
 rintro e w2 ⟨v2, rfl, hs2⟩
 have HS2 := Box.mk (Acc.lift HB.out hs2)
 clear hs2 hs
 go_wp2_with fail
 go_ret
 exact ⟨v2, rfl, HS2.out⟩
end
end Go.Proofs.YtfghgenboahkkaaDoor
namespace Go.Proofs.YtfghgenboahkkaaDoor
open Go.RowKit
def FldsC (w : World) (a : Option Addr) (l : List Fld) (c : Nat) : Prop := FldsIn w a l ∧ (a = none → l = [] ∧ c = 0)
theorem FldsC.keep {w w' : World} {a : Option Addr} {l : List Fld} {c : Nat} (h : FldsC w a l c) (hb : Below w.heap.size w w') : FldsC w' a l c := ⟨h.1.keep hb, h.2⟩
theorem AccF.shapeC {w0 w : World} {v : Value} {l : List Fld} (h : AccF w0 w v l) : ∃ a cap, v = .slice a l.length cap ∧ FldsC w a l cap := by
 obtain ⟨a, cap, e, hs⟩ := h.shape
 refine ⟨a, cap, e, hs, fun ha => ?_⟩
 subst ha
 obtain ⟨⟨h1, h2⟩, _⟩ := h
 rcases h2 with ⟨rfl, h2⟩ | ⟨g, cap', cur, rfl, _⟩
 · injection e with e1 e2 e3
   exact ⟨List.eq_nil_of_length_eq_zero h2, e3.symm⟩
 · injection e with e1; cases e1
section
variable {ops : Array Oper} {rest : List Oper} {o : Oper} {act : Act} {Q : Exit → Act → World → Prop}
theorem wpList_append_accfs (w : World) (hgd : o.guard = none) (s x : Operand) (ho : o.op = .call { callee := .builtin .append, args := #[s, x], argTypes := #[26, 26] })
  {w0 : World} {v : Value} {l : List Fld} (hs : act.eval s = v) (h : AccF w0 w v l) {a : Option Addr} {r : List Fld} {c : Nat} (hx : act.eval x = .slice a r.length c) (hr : FldsC w a r c)
  (hn : l.length + r.length ≤ 4398046511104)
  (K : ∀ v' w', AccF w0 w' v' (l ++ r) → wpList Tryd.prog ops Q rest (act.put o.dst v') w') : wpList Tryd.prog ops Q (o :: rest) act w := by
 obtain ⟨i0, hi, hz0, hz1, hz2⟩ := info_parts Tryd.info31
 cases a with
 | none =>
  obtain ⟨rfl, rfl⟩ := hr.2 rfl
  refine wpList_append_own_none hgd s x 26 ho w0.heap.size 31 i0 2 Tryd.underlying26 hi v l.length (cellsF l) hs h.1 hx (K _ _ ?_)
  rw [List.append_nil]; exact h
 | some ad =>
  refine wpList_append_own_at w hgd s x 26 ho w0.heap.size 31 i0 _ 2 32 Tryd.underlying26 hi hz0 hz1 hz2 rfl (by decide) v l.length (cellsF l) hs h.1 ad r.length c (cellsF r) hx (cellsF_len r) (hr.1.cells) (cellsF_one r) (by unfold maxLen; omega) (by omega) h.2.size ?_
  intro v' w' hown hgrow _ _
  refine K v' w' ⟨?_, h.2.grown hgrow h.2.size fun k hk => (World.ownsRow.lt h.1 k hk).1⟩
  rw [List.length_append, cellsF_app]; exact hown
end
theorem grow_runF (w : World) (n : Nat) (h0 : 0 < n) (hn : n ≤ 4000000) (ty : TypeId) :
  ∃ cap w', (Builtin.append_ #[26, 3] ty #[.slice none 0 0, .int .i64 (n : Int)]).run Tryd.prog w = .ok (.slice (some ⟨w.heap.size, 0, none⟩) n cap) w' ∧ n ≤ cap ∧ cap ≤ maxLen ∧ AccF w w' (.slice (some ⟨w.heap.size, 0, none⟩) 0 cap) [] := by
 obtain ⟨i0, hi, hz0, hz1, hz2⟩ := info_parts Tryd.info31
 have h := Lib.run_append_grow_zeros w 26 3 ty 31 i0 _ .i64 .i64 Tryd.underlying26 Tryd.underlying3 hi hz0 none 0 0 [] (by rw [hz1]; simp [Builtin.firstCells]) n h0 (by rw [hz1]; decide) (by omega) (by omega) (by rw [hz2]; omega) (by rw [hz2]; exact growslice_fits (by omega) (by omega))
 rw [Nat.zero_add] at h
 have hcap := grownCap_ge w n 0 31
 have hmx := grownCap_le_maxLen w n 0 31 (by unfold maxLen; omega)
 refine ⟨_, _, h, hcap, hmx, ⟨rfl, .inr ⟨w.heap.size, _, _, rfl, Nat.le_refl _, (heap_alloc_new w.drew _), Nat.zero_le _, hmx, ?_, rfl⟩⟩, ((Below.refl _ _).drew).alloc (Nat.le_refl _) _⟩
 simp only [Array.size_append, size_zeroCells, List.size_toArray, List.length_nil]
 show 0 + n * 2 + (_ - n) * 2 = _
 omega
set_option maxRecDepth 100000 in
set_option maxHeartbeats 2000000 in
theorem growF_any (n : Nat) (w : World) (hn : n ≤ 4000000) :
  Calls Tryd.prog 34 #[.slice none 0 0, .int .i64 (n : Int)] w fun e w' => ∃ v, e = .returned v ∧ AccF w w' v [] := by
 by_cases h0 : 0 < n
 · obtain ⟨cap, w', hrun, hc1, hc2, hacc⟩ := grow_runF w n h0 hn 26
   have HACC := Box.mk hacc
   clear hacc
   unfold maxLen at hc2
   go_enter Tryd.func34, Tryd.ntmps34
   go_wp2_with (at_builtin; refine Lib.wpList_append_run _ rfl _ _ _ _ rfl _ _ rfl rfl _ _ hrun ?_)
   go_ret
   exact ⟨_, rfl, HACC.out⟩
 · obtain rfl : n = 0 := by omega
   go_enter Tryd.func34, Tryd.ntmps34
   go_wp2_with fail
   go_ret
   exact ⟨_, rfl, AccF.start w⟩
end Go.Proofs.YtfghgenboahkkaaDoor
