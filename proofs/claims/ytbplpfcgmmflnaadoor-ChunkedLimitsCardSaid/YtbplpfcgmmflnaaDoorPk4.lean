/- Contracts of strconv.FormatInt at base 16, and of the functions of package number that write a number. The contracts of awake and of the laws of layer 2. The reference's Encode. Plain mathematics of the decoder: pieces and room, the beginning of a body, a line. Plain mathematics of the decoder: lines, chunks, whole bodies. Words of a line, rune by rune and byte by byte: plain mathematics. strings.Cut at any byte, strings.HasPrefix, strings.CutPrefix; Split and the versions, of package startline. Package chunked: the mathematics of its line and its blocks of data; what a call may touch. Package chunked: leave, isExtension, startChunk, finishLine, readLine. Package chunked: readLine. Bytes of the source. -/
import Derived.Test.YtbplpfcgmmflnaaDoorPk1
import Derived.Test.YtbplpfcgmmflnaaDoorPk2
import Derived.Test.YtbplpfcgmmflnaaDoorPk3
import Derived.Test.YtbplpfcgmmflnaaDoorRows
import Derived.WalkKit
import Derived.WalkSpells
import Derived.WalkLawsBesides
import Derived.BigQuiet
import Derived.Deep.QuietTactic
import Derived.Lib.Bytealg
import Derived.Lib.IndexLaws
import Derived.Lib.Hide
import Derived.Lib.ItoaMem
import Derived.IntWalk
import Derived.Laws.Concat
import Derived.Laws.IdiomStrings
import Derived.Deep.AppendLies
import Derived.Shelf.Strings.SlTrimAscii
import Derived.Shelf.Strings.SplitShaped
import Derived.Shelf.LaysM
import Derived.Shelf.Strings.BuilderK
import Derived.Shelf.Strconv.Itoa4
import Derived.Test.YtbplpfcgmmflnaaDoorProg
import Derived.Sort.Grow
import Derived.ProofKit
import Derived.OpenShut
import Derived.Lib.Strings
import Derived.Lib.LaidTab
import Derived.LaidSub
import Derived.Lib.SlTrimSet
import Derived.Lib.IndexBytes
import Derived.Lib.Split
import Derived.Lib.SplitLaws
import Derived.WalkSmall
import Derived.SliceStrings
import Derived.Deep.Quiet
import Derived.Tactics
import Derived.KernelRfl
import Derived.Below
import Derived.Laws.Bits64
import Derived.Lib.SlBytesConst
import Derived.Maps.AppendAt
import Derived.Laws.AppendOwnNone
import Derived.Great.BuildSlice
import Derived.Laws.Rows
import Derived.Laws.BitsAllLaws
import Derived.Laws.Shifts
import Derived.Maps.OwnOps
import Derived.Maps.OwnSet
import Derived.Deep.SlicePairs
import Derived.Lib.AppendZerosOnto
import Derived.Lib.AppendStr
import Derived.Laws.CopyOwn
import Derived.OwnWalk
import Derived.Laws.Strings3
import Derived.Deep.Matrix
import Derived.Lib.ConvBytes
import Derived.Laws.RangeAny
namespace Go.Proofs.YtbplpfcgmmflnaaDoor
open Go.RowKit

/-- What the tables of the library hold, as far as it is read here. -/
def Tabs (w : World) : Prop := Lib.TabIs Tryd.prog w "internal/strconv.uint64pow10" .u64 Lib.pow10Tab ∧ w.cell? ⟨3, 15, none⟩ = some (.int .u8 4) ∧ 0 < w.heap.size

set_option maxHeartbeats 400000 in
theorem tz64_16 (w : World) (h : w.cell? ⟨3, 15, none⟩ = some (.int .u8 4)) :
    Calls Tryd.prog 93 #[.int .u64 16] w fun e w' => e = .returned (.int .i64 4) ∧ w = w' := by
  go_enter Tryd.func93, Tryd.ntmps93
  have b1 : bits BinOp.and IntKind.u64 16 (IntKind.u64.wrap (-16)) = 16 := by kernel_rfl
  have b2 : IntKind.u64.wrap (16 * 285870213051353865) = 4573923408821661840 := by kernel_rfl
  go_wp2
  go_ret
  exact ⟨rfl, rfl⟩

set_option maxHeartbeats 400000 in
theorem tz16_any (w : World) (h : w.cell? ⟨3, 15, none⟩ = some (.int .u8 4)) :
    Calls Tryd.prog 81 #[.int .u64 16] w fun e w' => e = .returned (.int .i64 4) ∧ w = w' := by
  go_enter Tryd.func81, Tryd.ntmps81
  go_wp2_with (go_at_call 93; refine (tz64_16 _ h).mono ?_; rintro e w' ⟨rfl, rfl⟩)
  go_ret
  exact ⟨rfl, rfl⟩

set_option maxHeartbeats 400000 in
theorem pow2_16 (w : World) :
    Calls Tryd.prog 80 #[.int .i64 16] w fun e w' => e = .returned (.bool true) ∧ w = w' := by
  go_enter Tryd.func80, Tryd.ntmps80
  go_wp2
  go_ret
  exact ⟨rfl, rfl⟩

theorem ret_sl_str {a b : ByteArray} {v : Value} (h : a = b) : Ending.returned (.tuple #[v, .string a]) = .returned (.tuple #[v, .string b]) := by rw [h]

def zs65 : Array Value := Array.replicate 65 (.int .u8 0)
theorem zs65_at (j : Nat) (h : j < 65) : zs65[j]? = some (.int .u8 0) := by unfold zs65; rw [Array.getElem?_replicate, if_pos h]
theorem zs65_ne : ¬ zs65 = #[] := by intro h; have := congrArg Array.size h; simp [zs65] at this
theorem zs65_zero (w : World) : (zeroValue 102).run Tryd.prog w = .ok (.agg zs65) w := by kernel_rfl
theorem pow_bd {k n u : Nat} (h : k * 16 ^ n ≤ u) (hu : u < 9223372036854775808) (hk : 1 ≤ k) : n ≤ 15 := by
  rcases Nat.lt_or_ge 15 n with hn | hn
  · have h1 : 16 ^ 16 ≤ 16 ^ n := Nat.pow_le_pow_right (by omega) hn
    have h2 : 16 ^ n ≤ k * 16 ^ n := Nat.le_mul_of_pos_left _ hk
    have h3 : (16 : Nat) ^ 16 = 18446744073709551616 := by decide
    omega
  · exact hn

/-- The block holds 65 bytes, the last of which are t. -/
def Tail (w0 w : World) (i : Nat) (t : List UInt8) : Prop := ∃ l : List UInt8, l.length = 65 ∧ BytesAt w w0.heap.size l ∧ l.drop i = t ∧ Below w0.heap.size w0 w

def dig36 : ByteArray := ⟨#[48, 49, 50, 51, 52, 53, 54, 55, 56, 57, 97, 98, 99, 100, 101, 102, 103, 104, 105, 106, 107, 108, 109, 110, 111, 112, 113, 114, 115, 116, 117, 118, 119, 120, 121, 122]⟩
theorem dig36_fin : ∀ d : Fin 16, dig36.data.toList[d.val]? = some (dgc d.val) := by decide +kernel
theorem dig36_at {d : Nat} (h : d < 16) (hd : d < dig36.size) : dig36[d]'hd = dgc d := by
  have h1 := dig36_fin ⟨d, h⟩
  have h2 : dig36.data.toList[d]? = some (dig36[d]'hd) := by
    have hs : d < dig36.data.toList.length := by simpa using hd
    rw [List.getElem?_eq_getElem hs]; rfl
  rw [h2] at h1; exact Option.some.inj h1
theorem Tail.cell {w0 w : World} {i : Nat} {t : List UInt8} (h : Tail w0 w i t) {j : Nat} (hj : j < 65) : ∃ v, w.cell? ⟨w0.heap.size, j, none⟩ = some v ∧ w.frozen? ⟨w0.heap.size, j, none⟩ = false := by
  obtain ⟨l, h1, h2, _⟩ := h
  obtain ⟨a, b⟩ := h2 j (by omega)
  exact ⟨_, a, b⟩
theorem Tail.put {w0 w : World} {i : Nat} {t : List UInt8} (h : Tail w0 w i t) (hi : 1 ≤ i) (hi2 : i ≤ 65) (c : UInt8) :
    Tail w0 (w.setCell ⟨w0.heap.size, i - 1, none⟩ (.int .u8 (c.toNat : Int))) (i - 1) (c :: t) := by
  obtain ⟨l, h1, h2, h3, h4⟩ := h
  refine ⟨l.set (i - 1) c, by simp [h1], h2.set (by omega) c, ?_, h4.setCell (Nat.le_refl _) _⟩
  rw [List.drop_eq_getElem_cons (by rw [List.length_set]; omega), List.getElem_set_self, show i - 1 + 1 = i by omega, List.drop_set_of_lt (by omega), h3]

theorem Tail.read {w0 w : World} {i : Nat} {t : List UInt8} (h : Tail w0 w i t) {j : Nat} (hj : j < t.length) : w.cell? ⟨w0.heap.size, i + j, none⟩ = some (.int .u8 (t[j].toNat : Int)) := by
  obtain ⟨l, h1, h2, h3, h4⟩ := h
  subst h3
  have hj' : i + j < l.length := by simp at hj; omega
  rw [(h2 (i + j) hj').1, List.getElem_drop]

set_option maxRecDepth 100000 in
set_option maxHeartbeats 1000000 in
theorem formatBits16 (u : Nat) (w : World) (hu : u < 9223372036854775808) (h : w.cell? ⟨3, 15, none⟩ = some (.int .u8 4)) :
    Calls Tryd.prog 64 #[.slice none 0 0, .int .u64 u, .int .i64 16, .bool false, .bool false] w fun e w' => e = .returned (.tuple #[.slice none 0 0, .string (numeral 16 u)]) ∧ Below w.heap.size w w' := by
  have hlt := lt_cell h
  have hz := zs65_zero
  have hne := zs65_ne
  have HT : Hid (Tail w (w.alloc (.cells zs65 102)) 65 []) := by
    refine Lib.hid ⟨List.replicate 65 0, by simp, ?_, by simp, (Below.refl _ _).alloc (Nat.le_refl _) _⟩
    intro j hj
    have hj' : j < 65 := by simpa using hj
    refine ⟨?_, World.frozen?_alloc_new _ _ _ _⟩
    rw [World.cell?_alloc_new, zs65_at j hj', List.getElem_replicate]; rfl
  have hc : (w.alloc (.cells zs65 102)).cell? ⟨3, 15, none⟩ = some (.int .u8 4) := by rw [World.cell?_alloc_past _ _ _ hlt]; exact h
  have HC := Lib.hid hc
  clear hc h
  go_enter Tryd.func64, Tryd.ntmps64
  go_wp2_with (first | (go_at_call 80; refine (pow2_16 _).mono ?_; rintro e w' ⟨rfl, rfl⟩) | (go_at_call 81; refine (tz16_any _ HC.out).mono ?_; rintro e w' ⟨rfl, rfl⟩))
  go_loopw [1, 13] (fun x y wr => ∃ (k i : Nat) (t : List UInt8), x = .int .u64 k ∧ y = .int .i64 i ∧ t.length + i = 65 ∧ k ≤ u ∧ Hid (k * 16 ^ t.length ≤ u ∧ (t = [] ∨ 1 ≤ k) ∧ digs 16 u = digs 16 k ++ t ∧ Tail w wr i t)) (fun x _ _ => (intOf x).toNat)
  case atStart => exact ⟨u, 65, [], rfl, rfl, by simp, Nat.le_refl _, Lib.hid ⟨by simp, .inl rfl, by simp, HT.out⟩⟩
  case round =>
    obtain ⟨k, i, t, rfl, rfl, hi, hk, HH⟩ := hrel
    have h1 := HH.out.1
    have h15 : t.length ≤ 15 := by
      rcases HH.out.2.1 with e | e
      · rw [e]; simp
      · exact pow_bd h1 hu e
    clear h1
    obtain ⟨v, hcell, hfz⟩ := HH.out.2.2.2.cell (j := i - 1) (by omega)
    have hx : ∀ d (hd16 : d < 16) hd, (⟨#[48, 49, 50, 51, 52, 53, 54, 55, 56, 57, 97, 98, 99, 100, 101, 102, 103, 104, 105, 106, 107, 108, 109, 110, 111, 112, 113, 114, 115, 116, 117, 118, 119, 120, 121, 122]⟩ : ByteArray)[d]'hd = dgc d := fun d hd16 hd => dig36_at hd16 hd
    by_cases h16 : 16 ≤ k
    · obtain ⟨d, hd⟩ : ∃ d : Nat, k % 16 = d := ⟨_, rfl⟩
      have hd9 : d < 16 := by omega
      have hb : bits BinOp.and IntKind.u64 (k : Int) 15 = (d : Int) := by
        rw [show (15 : Int) = ((15 : Nat) : Int) from rfl, bits_and_u64_nat _ _ (by omega) (by omega), ← hd]
        congr 1
        exact Nat.and_two_pow_sub_one_eq_mod k 4
      have HD := Lib.hid hd
      have hxd := hx d hd9
      clear hd hx
      go_wp2
      all_goals go_roundw
      case rel =>
        obtain ⟨a1, a2, a3, a4⟩ := HH.out
        have hd := HD.out
        refine ⟨k / 16, i - 1, dgc d :: t, congrArg (Value.int .u64) (by omega), congrArg (Value.int .i64) (by omega), by simp; omega, by omega, Lib.hid ⟨?_, .inr (by omega), ?_, a4.put (by omega) (by omega) _⟩⟩
        · rw [List.length_cons, Nat.pow_succ, ← Nat.mul_assoc, Nat.mul_right_comm]
          exact Nat.le_trans (Nat.mul_le_mul_right _ (by omega)) a1
        · rw [a3, digs_big (by omega) (show ¬ k < 16 by omega), hd]; simp
      case measure => simp [intOf]; omega
    · have hk16 : k < 16 := by omega
      have hxd := hx k hk16
      clear hx
      have hal : Tryd.prog.arrayLen 102 = 65 := by simp [Program.arrayLen, Tryd.underlying102]
      have hsl : ∀ W, (Instr.sliceAt 102 (.pointer (some ⟨w.heap.size, 0, none⟩)) (some (.int .i64 ((i : Int) - 1))) none none).run Tryd.prog W = .ok (.slice (some ⟨w.heap.size, i - 1, none⟩) (t.length + 1) (t.length + 1)) W := fun W => by
        rw [run_sliceAt_array_l W 102 ⟨w.heap.size, 0, none⟩ (by simp [Program.arrayLen, Program.elem, Tryd.underlying102]) .i64 _ (by omega) (by rw [hal]; omega)]
        go_simp
        omega
      have hT := HH.out.2.2.2.put (by omega) (by omega) (dgc k)
      have hcv : (convert 23 9 (.slice (some ⟨w.heap.size, i - 1, none⟩) (t.length + 1) (t.length + 1))).run Tryd.prog (wr.setCell ⟨w.heap.size, i - 1, none⟩ (.int .u8 ((dgc k).toNat : Int))) = .ok (.string ⟨(dgc k :: t).toArray⟩) (wr.setCell ⟨w.heap.size, i - 1, none⟩ (.int .u8 ((dgc k).toNat : Int))) :=
        run_convert_bytes_back (P := Tryd.prog) _ 23 9 5 ⟨w.heap.size, i - 1, none⟩ (t.length + 1) (dgc k :: t) Tryd.underlying23 Tryd.underlying5 Tryd.underlying9 (fun j hj => by rw [Lib.add_plain]; exact hT.read hj)
      have HT := Lib.hid hT
      clear hT hal
      go_wp2
      go_ret2
      obtain ⟨a1, a2, a3, a4⟩ := HH.out
      obtain ⟨_, _, _, _, hb⟩ := HT.out
      refine ⟨ret_sl_str ?_, hb⟩
      unfold numeral
      rw [a3, digs_small hk16]; rfl

theorem grow_below (w : World) (os : Array Obj) : Below w.heap.size w (Sort.grow w os) :=
  ⟨rfl, rfl, rfl, by simp [Sort.grow], fun k hk => by simp [Sort.grow, Array.getElem?_append_left hk]⟩

set_option maxHeartbeats 1000000 in
theorem formatInt16 (u : Nat) (w : World) (hu : u < 9223372036854775808) (h : w.cell? ⟨3, 15, none⟩ = some (.int .u8 4)) :
    Calls Tryd.prog 43 #[.int .i64 u, .int .i64 16] w fun e w' => e = .returned (.string (numeral 16 u)) ∧ Below w.heap.size w w' := by
  have HC := Lib.hid h
  clear h
  have h1 : Calls Tryd.prog 53 #[.int .i64 u, .int .i64 16] w fun e w' => e = .returned (.string (numeral 16 u)) ∧ Below w.heap.size w w' := by
    have hwr : IntKind.u64.wrap (u : Int) = (u : Int) := by rw [IntKind.wrap_u64]; omega
    go_enter Tryd.func53, Tryd.ntmps53
    go_wp2_with (go_at_call 64; refine (formatBits16 u _ hu HC.out).mono ?_; rintro e w' ⟨rfl, hb⟩)
    go_ret
    exact ⟨rfl, hb⟩
  go_enter Tryd.func43, Tryd.ntmps43
  go_wp2_with (go_at_call 53; refine h1.mono ?_; rintro e w' ⟨rfl, hb⟩)
  go_ret
  exact ⟨rfl, hb⟩

theorem formatInt10 (u : Nat) (w : World) (hu : u < 9223372036854775808) (h : Lib.TabIs Tryd.prog w "internal/strconv.uint64pow10" .u64 Lib.pow10Tab) :
    Calls Tryd.prog 43 #[.int .i64 u, .int .i64 10] w fun e w' => e = .returned (.string (numeral 10 u)) ∧ Below w.heap.size w w' := by
  refine (Any.strconv_FormatInt_10 Tryd.laysM173 (u : Int) (by omega) (by omega) w h).mono ?_
  rintro e w' ⟨rfl, k, os, rfl⟩
  refine ⟨ret_str ?_, (below_drewN0 w k).trans (show Below w.heap.size (w.drewN k) _ from grow_below (w.drewN k) os)⟩
  unfold numeral
  rw [digs_dec, Lib.itoa_nonneg]

theorem format_any (n : Int) (b : Int) (w : World) (hb : b = 10 ∨ b = 16) (h0 : -9223372036854775808 ≤ n) (h1 : n ≤ 9223372036854775807) (ht : Tabs w) :
    Calls Tryd.prog 36 #[.int .i64 n, .int .i64 b] w fun e w' => e = .returned (.string (fmtS b.toNat n)) ∧ Below w.heap.size w w' := by
  by_cases hn : n < 0
  · go_enter Tryd.func36, Tryd.ntmps36
    go_wp2
    go_ret
    exact ⟨ret_str (by unfold fmtS; rw [if_pos hn]), Below.refl _ _⟩
  · obtain ⟨u, rfl⟩ : ∃ u : Nat, n = u := ⟨n.toNat, by omega⟩
    obtain ⟨t1, t2, t3⟩ := ht
    have T1 := Lib.hid t1
    have T2 := Lib.hid t2
    clear t1 t2
    rcases hb with rfl | rfl
    · go_enter Tryd.func36, Tryd.ntmps36
      go_wp2_with (go_at_call 43; refine (formatInt10 u _ (by omega) T1.out).mono ?_; rintro e w' ⟨rfl, hb⟩)
      go_ret
      exact ⟨ret_str (by unfold fmtS; rw [if_neg (by omega)]; rfl), hb⟩
    · go_enter Tryd.func36, Tryd.ntmps36
      go_wp2_with (go_at_call 43; refine (formatInt16 u _ (by omega) T2.out).mono ?_; rintro e w' ⟨rfl, hb⟩)
      go_ret
      exact ⟨ret_str (by unfold fmtS; rw [if_neg (by omega)]; rfl), hb⟩

theorem hex_any (n : Int) (w : World) (h0 : -9223372036854775808 ≤ n) (h1 : n ≤ 9223372036854775807) (ht : Tabs w) :
    Calls Tryd.prog 28 #[.int .i64 n] w fun e w' => e = .returned (.string (fmtS 16 n)) ∧ Below w.heap.size w w' := by
  have HT := Lib.hid ht
  clear ht
  go_enter Tryd.func28, Tryd.ntmps28
  go_wp2_with (go_at_call 36; refine (format_any _ _ _ (.inr rfl) h0 h1 HT.out).mono ?_; rintro e w' ⟨rfl, hb⟩)
  go_ret
  exact ⟨rfl, hb⟩

theorem tabs_below {w w' : World} (h : Tabs w) (hb : Below w.heap.size w w') : Tabs w' := by
  obtain ⟨h1, h2, h3⟩ := h
  refine ⟨?_, below_cell hb h2, Nat.lt_of_lt_of_le h3 hb.size⟩
  have hg : Tryd.prog.globalNamed "internal/strconv.uint64pow10" = some 0 := by kernel_rfl
  unfold Lib.TabIs World.var? at *
  rw [hg] at h1 ⊢
  simp only [Option.bind_some] at h1 ⊢
  rw [hb.block _ h3]; exact h1
end Go.Proofs.YtbplpfcgmmflnaaDoor
namespace Go.Proofs.YtbplpfcgmmflnaaDoor
open Go.RowKit

theorem digs_len {b : Nat} (hb : 2 ≤ b) : ∀ (k n : Nat), n < 2 ^ k → 1 ≤ k → (digs b n).length ≤ k
  | 0, n, _, h => absurd h (by omega)
  | k + 1, n, hn, _ => by
    by_cases h : n < b
    · rw [digs_small h]; simp
    · rw [digs_big hb h, List.length_append]
      have h1 : n / b ≤ n / 2 := Nat.div_le_div_left hb (by omega)
      have h2 : n / 2 < 2 ^ k := by rw [Nat.pow_succ] at hn; omega
      have h3 : 1 ≤ n / b := by
        have : b / b ≤ n / b := Nat.div_le_div_right (by omega)
        rw [Nat.div_self (by omega)] at this; exact this
      have hk : 1 ≤ k := by
        match k, h2 with
        | 0, h2 => simp at h2; omega
        | k + 1, _ => omega
      have := digs_len hb k (n / b) (by omega) hk
      simp; omega
theorem fmtS_size {b : Nat} (hb : 2 ≤ b) (n : Int) (h1 : n ≤ 9223372036854775807) : (fmtS b n).size ≤ 64 := by
  unfold fmtS; split
  · decide
  · show (digs b n.toNat).toArray.size ≤ 64
    simpa using digs_len hb 64 n.toNat (by have : (2 : Nat) ^ 64 = 18446744073709551616 := by decide
                                           omega) (by omega)
end Go.Proofs.YtbplpfcgmmflnaaDoor
namespace Go.Proofs.YtbplpfcgmmflnaaDoor
open Go.RowKit

def crlfB : ByteArray := ⟨#[13, 10]⟩
def endB : ByteArray := ⟨#[48, 13, 10, 13, 10]⟩
def encOne (s : ByteArray) (l : List UInt8) : ByteArray := if l.length = 0 then s else s ++ fmtS 16 l.length ++ crlfB ++ ⟨l.toArray⟩ ++ crlfB
def encGo (s : ByteArray) (ls : List (List UInt8)) : ByteArray := ls.foldl encOne s
def encodeS (ls : List (List UInt8)) : List UInt8 := (encGo ⟨#[]⟩ ls ++ endB).data.toList
theorem encGo_take {ls : List (List UInt8)} {k : Nat} (hk : k < ls.length) : encGo ⟨#[]⟩ (ls.take (k + 1)) = encOne (encGo ⟨#[]⟩ (ls.take k)) ls[k] := by
  unfold encGo
  rw [List.take_succ_eq_append_getElem hk, List.foldl_append]; rfl
theorem encOne_size (s : ByteArray) {l : List UInt8} (hl : l.length ≤ 1000000) : (encOne s l).size ≤ s.size + 1000068 := by
  unfold encOne
  split
  · omega
  · have h1 := fmtS_size (b := 16) (by decide) (l.length : Int) (by omega)
    simp only [ByteArray.size_append]
    have h2 : (⟨l.toArray⟩ : ByteArray).size = l.length := by show l.toArray.size = _; simp
    have h3 : crlfB.size = 2 := rfl
    omega
theorem encGo_size (ls : List (List UInt8)) (hl : ∀ l ∈ ls, l.length ≤ 1000000) : ∀ s : ByteArray, (encGo s ls).size ≤ s.size + ls.length * 1000068 := by
  induction ls with
  | nil => intro s; show s.size ≤ _; simp
  | cons l r ih =>
    intro s
    have h1 := ih (fun x hx => hl x (List.mem_cons_of_mem _ hx)) (encOne s l)
    have h2 := encOne_size s (hl l (by simp))
    show (encGo (encOne s l) r).size ≤ _
    rw [List.length_cons, Nat.add_mul]
    omega
theorem below_bytesWorld (w : World) (e : TypeId) (s : ByteArray) : Below w.heap.size w (Lib.bytesWorld w e s) :=
  ⟨rfl, rfl, rfl, by rw [Lib.bytesWorld_size]; omega, fun k hk => Lib.bytesWorld_at_old w e s k hk⟩
theorem isBytes_bytesWorld (w : World) (s : ByteArray) (hs : s.size ≤ 4000000000) : IsBytes (Lib.bytesWorld w 5 s) (some ⟨w.heap.size, 0, none⟩) s.data.toList (grownCap w s.size 0 5) := by
  refine .inr ⟨_, rfl, ?_, ?_, fun j hj => ?_⟩
  · have := grownCap_ge w s.size 0 5
    simpa using this
  · exact grownCap_le_maxLen w s.size 0 5 (by unfold maxLen; omega)
  · have hj' : j < s.size := by simpa using hj
    rw [Addr.add_lit, Nat.zero_add, Lib.bytesWorld_cell w 5 s j hj']
    simp [List.getD_eq_getElem?_getD, List.getElem?_eq_getElem hj]
theorem agg_slcG (w : World) : (isAgg 23).run Tryd.prog w = .ok false w := by
  unfold isAgg; rw [Sem.run_bind, run_underlying Tryd.underlying23 w]; rfl
section
variable {Q : Exit → Act → World → Prop} {act : Act} {w : World} {o : Oper} {s : Spec}
theorem loc_index_slG {x y : Operand} (ho : o.op = .indexAddr 39 x y) {ad : Addr} {n c k : Nat} (hx : act.eval x = .slice (some ad) n c) (hy : act.eval y = .int .i64 k) (hk : k < n) (hs : s.p (.pointer (some (ad.add k))) w) :
    o.wp Tryd.prog act w (fun a' w' => ∃ v, a' = act.put o.dst v ∧ Below w.heap.size w w' ∧ s.p v w') Q :=
  loc_run (v := .pointer (some (ad.add k))) (by
    have es : (sizeOf (Tryd.prog.elem 39)).run Tryd.prog w = .ok 1 w := by
      rw [show Tryd.prog.elem 39 = 23 by kernel_rfl]
      have h : (Tryd.prog.info? 23).map (·.size) = some 1 := by kernel_rfl
      cases hq : Tryd.prog.info? 23 with
      | none => rw [hq] at h; cases h
      | some i => rw [hq] at h; simp at h; simp [sizeOf, typeInfo, hq, h]
    have h := run_indexAt_slice (P := Tryd.prog) (w := w) 39 ad n c .i64 (k : Int) (by kernel_rfl)
    rw [if_pos ⟨by omega, by omega⟩, es] at h
    simp only [Result.andThen, Int.toNat_natCast, Nat.mul_one] at h
    unfold execOp
    simp only [ho, hx, hy, Sem.run_bind, h, Result.andThen_ok, Sem.run_pure]) (Below.refl _ _) hs
end
set_option maxRecDepth 100000 in
set_option maxHeartbeats 4000000 in
theorem refEncode_any (ls : List (List UInt8)) (a : Option Addr) (c : Nat) (w : World) (h : SlcIn w a ls) (hn : ls.length ≤ 1000) (hl : ∀ l ∈ ls, l.length ≤ 1000000) :
    Calls Tryd.prog 19 #[.slice a ls.length c] w fun e w' => ∃ ra rl rc, rl = encodeS ls ∧ e = .returned (.slice ra (List.length rl) rc) ∧ IsBytes w' ra rl rc ∧ Below w.heap.size w w' := by
  have H0 := Box.mk h
  have HL := Box.mk hl
  have HSZ := Box.mk (fun k => encGo_size (ls.take k) (fun l hl2 => hl l (List.mem_of_mem_take hl2)) ⟨#[]⟩)
  clear h hl
  go_enter Tryd.func19, Tryd.ntmps19
  go_wp2_with fail
  go_loopw [3, 4] (fun v iv wr => ∃ k : Nat, k ≤ ls.length ∧ iv = .int .i64 k ∧ ∃ s : ByteArray, v = .string s ∧ Box (s = encGo ⟨#[]⟩ (ls.take k) ∧ Below w.heap.size w wr)) (fun _ iv _ => ls.length - (intOf iv).toNat)
  case atStart => exact ⟨0, Nat.zero_le _, rfl, ⟨#[]⟩, rfl, ⟨rfl, Below.refl _ _⟩⟩
  case round =>
    obtain ⟨k, hk, rfl, s0, rfl, HM⟩ := hrel
    have hsz : s0.size ≤ 1000068000 := by
      have h1 := HSZ.out k
      rw [← HM.out.1] at h1
      have h2 : (ls.take k).length ≤ 1000 := by rw [List.length_take]; omega
      have h3 : (⟨#[]⟩ : ByteArray).size = 0 := rfl
      omega
    by_cases hlt : k < ls.length
    · obtain ⟨ad, ba, bc, rfl, hc1, hby⟩ := (H0.out.keep HM.out.2) k hlt
      have HTK := Box.mk (show encGo ⟨#[]⟩ (ls.take (k + 1)) = encOne s0 ls[k] by rw [encGo_take hlt, ← HM.out.1])
      have hll := HL.out _ (List.getElem_mem hlt)
      generalize ls[k] = y at *
      have HBY := Box.mk hby
      clear hby
      by_cases hy : y.length = 0
      · have HS1 := Box.mk (show encGo ⟨#[]⟩ (ls.take (k + 1)) = s0 by rw [HTK.out]; unfold encOne; rw [if_pos hy])
        have hy0 : ¬ 0 < y.length := by omega
        clear hy HTK
        go_wp2_with fail
        go_roundw
        case rel => exact ⟨k + 1, by omega, by go_num, s0, rfl, ⟨HS1.out.symm, HM.out.2⟩⟩
        case measure => simp [intOf]; omega
      · have HS1 := Box.mk (show encGo ⟨#[]⟩ (ls.take (k + 1)) = s0 ++ fmtS 16 y.length ++ crlfB ++ ⟨y.toArray⟩ ++ crlfB by rw [HTK.out]; unfold encOne; rw [if_neg hy])
        have hy0 : 0 < y.length := by omega
        have hfs := fmtS_size (b := 16) (by decide) (y.length : Int) (by omega)
        clear hy HTK
        go_wp2_with fail
        rename_i K hK
        have HB := Box.mk HM.out.2
        clear HM
        generalize hfx : fmtS 16 (y.length : Int) = fx at *
        have HFX := Box.mk hfx
        clear hfx
        have hz1 : (s0 ++ fx).size ≤ 1000069000 := by rw [ByteArray.size_append]; omega
        have hz2 : (s0 ++ fx ++ crlfB).size ≤ 1000069002 := by rw [ByteArray.size_append]; show _ + 2 ≤ _; omega
        have hz3 : (⟨y.toArray⟩ : ByteArray).size ≤ 1000000 := by show y.toArray.size ≤ _; simp; omega
        have hz4 : (s0 ++ fx ++ crlfB ++ ⟨y.toArray⟩).size ≤ 1001069002 := by rw [ByteArray.size_append]; omega
        refine wp_region_tail [.val (.string s0), .val (.slice (some ad) ls.length c), .val (.int .i64 k), .val (.pointer (some (ad.add k))), .val (.slice ba y.length bc), .val (.int .i64 y.length), .val (.string fx), .val (.string (s0 ++ fx)), .val (.string (s0 ++ fx ++ crlfB)), .val (.slice (some ad) ls.length c), .val (.int .i64 k), .val (.pointer (some (ad.add k))), .val (.slice ba y.length bc), .val (.string ⟨y.toArray⟩), .val (.string (s0 ++ fx ++ crlfB ++ ⟨y.toArray⟩)), .val (.string (s0 ++ fx ++ crlfB ++ ⟨y.toArray⟩ ++ crlfB)), .any]
          16 [0, 1, 2, 3, 4, 5, 6, 7, 8, 9, 10, 11, 12, 13, 14, 15] (by kernel_rfl) (by kernel_rfl) (by kernel_rfl) (by kernel_rfl) (by kernel_rfl) (by kernel_rfl) ?_ ?_
        · refine ⟨?_, ?_, ?_, ?_, ?_, ?_, ?_, ?_, ?_, ?_, ?_, ?_, ?_, ?_, ?_, ?_, trivial⟩ <;> intro a1 w1 hv hf hd
          · exact ⟨wanted_none rfl, loc_move rfl (hf.base 3 rfl)⟩
          · exact ⟨wanted_none rfl, loc_move rfl (hf.base 0 rfl)⟩
          · exact ⟨wanted_none rfl, loc_move rfl (hf.base 4 rfl)⟩
          · exact ⟨wanted_none rfl, loc_index_slG rfl (hd 1 rfl) (hd 2 rfl) hlt rfl⟩
          · exact ⟨wanted_none rfl, loc_loadB rfl (hd 3 rfl) (below_cell hv hc1) (agg_slcG _) rfl⟩
          · exact ⟨wanted_none rfl, loc_len rfl (hd 4 rfl) rfl⟩
          · refine ⟨wanted_none rfl, loc_call rfl (by kernel_rfl) ?_⟩
            show Calls _ _ #[a1.eval (.tmp 22)] w1 _
            rw [show a1.eval (.tmp 22) = _ from hd 5 rfl]
            refine (refHex_any y.length w1 (by omega) (by omega)).mono ?_
            rintro e w' ⟨rfl, hb'⟩
            exact ⟨_, rfl, hb', by rw [HFX.out]; rfl⟩
          · exact ⟨wanted_none rfl, loc_addS rfl (hd 0 rfl) (hd 6 rfl) (by omega) rfl⟩
          · exact ⟨wanted_none rfl, loc_addS rfl (hd 7 rfl) (c := crlfB) rfl (by show _ + 2 ≤ _; omega) rfl⟩
          · exact ⟨wanted_none rfl, loc_move rfl (hf.base 0 rfl)⟩
          · exact ⟨wanted_none rfl, loc_move rfl (hf.base 4 rfl)⟩
          · exact ⟨wanted_none rfl, loc_index_slG rfl (hd 9 rfl) (hd 10 rfl) hlt rfl⟩
          · exact ⟨wanted_none rfl, loc_loadB rfl (hd 11 rfl) (below_cell hv hc1) (agg_slcG _) rfl⟩
          · exact ⟨wanted_none rfl, loc_string rfl (by rw [show a1.eval (.tmp 29) = _ from hd 12 rfl]; exact ⟨ba, bc, rfl, HBY.out.keep hv⟩) rfl⟩
          · exact ⟨wanted_none rfl, loc_addS rfl (hd 8 rfl) (hd 13 rfl) (by omega) rfl⟩
          · exact ⟨wanted_none rfl, loc_addS rfl (hd 14 rfl) (c := crlfB) rfl (by show _ + 2 ≤ _; omega) rfl⟩
        · intro a1 w1 hv hf hh
          have e32 : a1.eval (.tmp 32) = .string (s0 ++ fx ++ crlfB ++ ⟨y.toArray⟩ ++ crlfB) := hh 15 (by decide) (by decide)
          refine tail_assign rfl rfl ?_
          rw [show a1.eval (.tmp 32) = _ from e32]
          refine hK _ w1 ?_
          rw [frX_putAll _ (isDstX_take (n := 16) rfl rfl) hf]
          clear hf hh e32
          simp only [List.take_succ_cons, List.take_zero, putAll]
          generalize a1.eval (.tmp 17) = t17
          generalize a1.eval (.tmp 18) = t18
          generalize a1.eval (.tmp 19) = t19
          generalize a1.eval (.tmp 20) = t20
          generalize a1.eval (.tmp 21) = t21
          generalize a1.eval (.tmp 22) = t22
          generalize a1.eval (.tmp 23) = t23
          generalize a1.eval (.tmp 24) = t24
          generalize a1.eval (.tmp 25) = t25
          generalize a1.eval (.tmp 26) = t26
          generalize a1.eval (.tmp 27) = t27
          generalize a1.eval (.tmp 28) = t28
          generalize a1.eval (.tmp 29) = t29
          generalize a1.eval (.tmp 30) = t30
          generalize a1.eval (.tmp 31) = t31
          generalize a1.eval (.tmp 32) = t32
          clear a1
          simp only [Act.put, List.setIfInBounds_toArray, List.set_cons_succ, List.set_cons_zero]
          have HB1 := Box.mk (below_trans HB.out hv)
          clear hv
          generalize hw0 : s0 ++ fx ++ crlfB ++ ⟨y.toArray⟩ ++ crlfB = s1
          rw [hw0] at HS1
          have HW0 := Box.mk hw0
          clear hw0
          go_wp2_with fail
          go_roundw
          case rel => exact ⟨k + 1, by omega, by go_num, s1, rfl, ⟨HS1.out.symm, HB1.out⟩⟩
          case measure => simp [intOf]; omega
    · have HP := Box.mk (show (s0 ++ endB).data.toList = encodeS ls by unfold encodeS; rw [HM.out.1, List.take_of_length_le (by omega)])
      have HB := Box.mk HM.out.2
      clear HM
      have hse : (s0 ++ endB).size ≤ 1000068005 := by rw [ByteArray.size_append]; show _ + 5 ≤ _; omega
      have hcv := Lib.run_convert_string_bytes (P := Tryd.prog) wr 9 23 5 (s0 ++ endB) Tryd.underlying9 Tryd.underlying23 Tryd.underlying5
      have HBY := Box.mk (isBytes_bytesWorld wr (s0 ++ endB) (by omega))
      have HB2 := Box.mk (below_trans HB.out (below_bytesWorld wr 5 (s0 ++ endB)))
      have HLN := Box.mk (show s0.size + 5 = (encodeS ls).length by
        have h1 : (s0 ++ endB).size = s0.size + 5 := by rw [ByteArray.size_append]; rfl
        rw [← h1, ← HP.out]; simp)
      rw [HP.out] at HBY
      unfold endB at hcv HBY HB2
      generalize Lib.bytesWorld wr 5 (s0 ++ ⟨#[48, 13, 10, 13, 10]⟩) = W9 at *
      generalize grownCap wr (s0 ++ ⟨#[48, 13, 10, 13, 10]⟩ : ByteArray).size 0 5 = cp at *
      go_wp2_with fail
      go_ret
      exact ⟨_, encodeS ls, cp, rfl, by rw [← HLN.out]; rfl, HBY.out, HB2.out⟩
end Go.Proofs.YtbplpfcgmmflnaaDoor
namespace Go.Proofs.YtbplpfcgmmflnaaDoor
open Go.RowKit

/-- One byte of the body. -/
def dataS (s : Chk) : Chk := ⟨if s.left - 1 = 0 then 2 else 1, s.left - 1, s.tr, s.line⟩
/-- The decoder with as much room as it likes. -/
def feedU : Chk → List UInt8 → Nat → List UInt8 → Int × Chk × List UInt8 × Nat
  | s, out, i, [] => (0, s, out, i)
  | s, out, i, x :: r =>
    if s.ph = 4 then (0, s, out, i)
    else if s.ph = 1 then feedU (dataS s) (out ++ [x]) (i + 1) r
    else if (stepS s x).1 = 0 then feedU (stepS s x).2 out (i + 1) r
    else ((stepS s x).1, zeroC, [], 0)
theorem feedU_nil (s : Chk) (out : List UInt8) (i : Nat) : feedU s out i [] = (0, s, out, i) := rfl
theorem feedU_done {s : Chk} (h : s.ph = 4) (out : List UInt8) (i : Nat) (l : List UInt8) : feedU s out i l = (0, s, out, i) := by
  cases l with
  | nil => rfl
  | cons x r => rw [feedU, if_pos h]
theorem feedU_data {s : Chk} (h : s.ph = 1) (out : List UInt8) (i : Nat) (x : UInt8) (r : List UInt8) : feedU s out i (x :: r) = feedU (dataS s) (out ++ [x]) (i + 1) r := by
  rw [feedU, if_neg (by omega), if_pos h]
theorem feedU_ok {s : Chk} {x : UInt8} (h4 : ¬ s.ph = 4) (h1 : ¬ s.ph = 1) (h0 : (stepS s x).1 = 0) (out : List UInt8) (i : Nat) (r : List UInt8) : feedU s out i (x :: r) = feedU (stepS s x).2 out (i + 1) r := by
  rw [feedU, if_neg h4, if_neg h1, if_pos h0]
theorem feedU_err {s : Chk} {x : UInt8} (h4 : ¬ s.ph = 4) (h1 : ¬ s.ph = 1) (h0 : ¬ (stepS s x).1 = 0) (out : List UInt8) (i : Nat) (r : List UInt8) : feedU s out i (x :: r) = ((stepS s x).1, zeroC, [], 0) := by
  rw [feedU, if_neg h4, if_neg h1, if_neg h0]
theorem feedS_room : ∀ (l : List UInt8) (s : Chk) (out : List UInt8) (i : Nat) (room : Int), (out.length : Int) + l.length ≤ room → feedS room s out i l = feedU s out i l
  | [], _, _, _, _, _ => rfl
  | x :: r, s, out, i, room, h => by
    have hr : ¬ room ≤ out.length := by simp at h; omega
    by_cases h4 : s.ph = 4
    · rw [feedS_stop (.inl h4), feedU_done h4]
    · by_cases h1 : s.ph = 1
      · rw [feedS_data h1 hr, feedU_data h1]
        exact feedS_room r _ _ _ _ (by simp at h ⊢; omega)
      · by_cases h0 : (stepS s x).1 = 0
        · rw [feedS_ok h4 h1 h0, feedU_ok h4 h1 h0]
          exact feedS_room r _ _ _ _ (by simp at h ⊢; omega)
        · rw [feedS_err h4 h1 h0, feedU_err h4 h1 h0]
theorem decodeS_eq (b : List UInt8) : decodeS b = if (feedU zeroC [] 0 b).1 = 0 then (if (feedU zeroC [] 0 b).2.1.ph = 4 then (0, (feedU zeroC [] 0 b).2.2.1, (feedU zeroC [] 0 b).2.2.2) else (4, [], 0)) else ((feedU zeroC [] 0 b).1, [], 0) := by
  unfold decodeS
  rw [feedS_room b zeroC [] 0 b.length (by simp)]
/-- A piece, with little room: what is left goes on where it stopped. -/
theorem feedS_piece (q : List UInt8) (room : Int) : ∀ (p : List UInt8) (s : Chk) (o : List UInt8) (k : Nat) (out : List UInt8) (i : Nat), (feedS room s o k p).1 = 0 →
    ∃ d m, (feedS room s o k p).2.2.1 = o ++ d ∧ (feedS room s o k p).2.2.2 = k + m ∧ m ≤ p.length ∧ d.length ≤ m ∧ feedU s out i (p ++ q) = feedU (feedS room s o k p).2.1 (out ++ d) (i + m) ((p ++ q).drop m)
  | [], s, o, k, out, i, _ => ⟨[], 0, by rw [feedS_nil]; simp, by rw [feedS_nil]; simp, Nat.le_refl _, Nat.le_refl _, by rw [feedS_nil]; simp⟩
  | x :: p, s, o, k, out, i, h => by
    by_cases hs : s.ph = 4 ∨ s.ph = 1 ∧ room ≤ o.length
    · rw [feedS_stop hs] at h ⊢
      exact ⟨[], 0, by simp, by simp, Nat.zero_le _, Nat.le_refl _, by simp⟩
    · have h4 : ¬ s.ph = 4 := fun e => hs (.inl e)
      by_cases h1 : s.ph = 1
      · have hr : ¬ room ≤ o.length := fun e => hs (.inr ⟨h1, e⟩)
        rw [feedS_data h1 hr] at h ⊢
        obtain ⟨d, m, e1, e2, e3, e4, e5⟩ := feedS_piece q room p _ _ _ (out ++ [x]) (i + 1) h
        refine ⟨x :: d, m + 1, by rw [e1]; simp, by rw [e2]; omega, by simp; omega, by simp; omega, ?_⟩
        rw [List.cons_append, feedU_data h1]
        unfold dataS
        rw [e5, List.drop_succ_cons, List.append_assoc, List.singleton_append, show i + 1 + m = i + (m + 1) by omega]
      · by_cases h0 : (stepS s x).1 = 0
        · rw [feedS_ok h4 h1 h0] at h ⊢
          obtain ⟨d, m, e1, e2, e3, e4, e5⟩ := feedS_piece q room p _ _ _ out (i + 1) h
          refine ⟨d, m + 1, e1, by rw [e2]; omega, by simp; omega, by omega, ?_⟩
          rw [List.cons_append, feedU_ok h4 h1 h0, e5, List.drop_succ_cons, show i + 1 + m = i + (m + 1) by omega]
        · rw [feedS_err h4 h1 h0] at h
          exact absurd h h0
theorem feedS_bad (q : List UInt8) (room : Int) : ∀ (p : List UInt8) (s : Chk) (o : List UInt8) (k : Nat) (out : List UInt8) (i : Nat), ¬ (feedS room s o k p).1 = 0 →
    feedU s out i (p ++ q) = ((feedS room s o k p).1, zeroC, [], 0)
  | [], s, o, k, out, i, h => absurd rfl h
  | x :: p, s, o, k, out, i, h => by
    by_cases hs : s.ph = 4 ∨ s.ph = 1 ∧ room ≤ o.length
    · rw [feedS_stop hs] at h; exact absurd rfl h
    · have h4 : ¬ s.ph = 4 := fun e => hs (.inl e)
      by_cases h1 : s.ph = 1
      · have hr : ¬ room ≤ o.length := fun e => hs (.inr ⟨h1, e⟩)
        rw [feedS_data h1 hr] at h ⊢
        rw [List.cons_append, feedU_data h1]
        exact feedS_bad q room p _ _ _ _ _ h
      · by_cases h0 : (stepS s x).1 = 0
        · rw [feedS_ok h4 h1 h0] at h ⊢
          rw [List.cons_append, feedU_ok h4 h1 h0]
          exact feedS_bad q room p _ _ _ _ _ h
        · rw [feedS_err h4 h1 h0]
          rw [List.cons_append, feedU_err h4 h1 h0]
theorem feedS_okC (room : Int) : ∀ (p : List UInt8) (s : Chk) (o : List UInt8) (k : Nat), OkC s → (feedS room s o k p).1 = 0 → OkC (feedS room s o k p).2.1
  | [], s, o, k, hs, _ => hs
  | x :: p, s, o, k, hs, h => by
    by_cases hst : s.ph = 4 ∨ s.ph = 1 ∧ room ≤ o.length
    · rw [feedS_stop hst]; exact hs
    · have h4 : ¬ s.ph = 4 := fun e => hst (.inl e)
      by_cases h1 : s.ph = 1
      · have hr : ¬ room ≤ o.length := fun e => hst (.inr ⟨h1, e⟩)
        rw [feedS_data h1 hr] at h ⊢
        exact feedS_okC room p _ _ _ (okC_data hs h1) h
      · by_cases h0 : (stepS s x).1 = 0
        · rw [feedS_ok h4 h1 h0] at h ⊢
          exact feedS_okC room p _ _ _ (okC_step hs h1 h4 h0) h
        · rw [feedS_err h4 h1 h0] at h
          exact absurd h h0
/-- A piece that is not empty is read on, where there is room and the body is not complete. -/
theorem feedS_moves {room : Int} {s : Chk} {x : UInt8} {p : List UInt8} (h4 : ¬ s.ph = 4) (hr : 1 ≤ room) (h : (feedS room s [] 0 (x :: p)).1 = 0) : 1 ≤ (feedS room s [] 0 (x :: p)).2.2.2 := by
  by_cases h1 : s.ph = 1
  · have hr2 : ¬ room ≤ (([] : List UInt8).length : Int) := by simp; omega
    rw [feedS_data h1 hr2] at h ⊢
    obtain ⟨d, m, _, e2, _⟩ := feedS_piece [] room p _ _ _ [] 0 h
    rw [e2]; omega
  · by_cases h0 : (stepS s x).1 = 0
    · rw [feedS_ok h4 h1 h0] at h ⊢
      obtain ⟨d, m, _, e2, _⟩ := feedS_piece [] room p _ _ _ [] 0 h
      rw [e2]; omega
    · rw [feedS_err h4 h1 h0] at h
      exact absurd h h0
/-- A beginning of a complete body is not complete, and no error. -/
theorem feedU_torn (q : List UInt8) : ∀ (p : List UInt8) (s : Chk) (out : List UInt8) (i : Nat), q ≠ [] → (feedU s out i (p ++ q)).1 = 0 → (feedU s out i (p ++ q)).2.2.2 = i + (p ++ q).length → (feedU s out i p).1 = 0 ∧ ¬ (feedU s out i p).2.1.ph = 4
  | [], s, out, i, hq, h, hn => by
    refine ⟨rfl, fun e => ?_⟩
    have e : s.ph = 4 := e
    rw [feedU_done e] at hn
    have hn' : i = i + (([] : List UInt8) ++ q).length := hn
    have h0 : (([] : List UInt8) ++ q).length = 0 := by omega
    simp at h0
    exact hq h0
  | x :: p, s, out, i, hq, h, hn => by
    by_cases h4 : s.ph = 4
    · rw [feedU_done h4] at hn
      simp at hn
    · rw [List.cons_append] at h hn
      by_cases h1 : s.ph = 1
      · rw [feedU_data h1] at h hn ⊢
        exact feedU_torn q p _ _ _ hq h (by rw [hn]; simp; omega)
      · by_cases h0 : (stepS s x).1 = 0
        · rw [feedU_ok h4 h1 h0] at h hn ⊢
          exact feedU_torn q p _ _ _ hq h (by rw [hn]; simp; omega)
        · rw [feedU_err h4 h1 h0] at h
          exact absurd h h0
end Go.Proofs.YtbplpfcgmmflnaaDoor
namespace Go.Proofs.YtbplpfcgmmflnaaDoor
open Go.RowKit

/-- The size of the trailer section behind n more bytes. -/
def trS (p t : Int) (n : Nat) : Int := if p = 3 then t + n else t
/-- Bytes of a line, neither CR nor LF. -/
def Plain (w : List UInt8) : Prop := ∀ x ∈ w, ¬ x = 13 ∧ ¬ x = 10
theorem crB_plain {w : List UInt8} (h : Plain w) : crB w = false := by
  rcases last_cases w with rfl | ⟨m, z, rfl⟩
  · rfl
  · rw [crB_app]
    have := (h z (by simp)).1
    simpa using this
theorem stepS_line {p l t : Int} {w : List UInt8} {x : UInt8} (h3 : p = 3 → t + 1 ≤ 1024) : stepS ⟨p, l, t, w⟩ x = byteS ⟨p, l, t, w⟩ (trS p t 1) x := by
  unfold stepS trS
  by_cases h : p = 3
  · have := h3 h
    simp only [if_pos h]
    rw [if_neg (by omega)]; rfl
  · simp only [if_neg h]
theorem trS_add (p t : Int) (n m : Nat) : trS p (trS p t n) m = trS p t (n + m) := by
  unfold trS; split
  · push_cast; omega
  · rfl
theorem feed_plain {p l : Int} (h1 : ¬ p = 1) (h4 : ¬ p = 4) (out r : List UInt8) : ∀ (w pre : List UInt8) (t : Int) (i : Nat), Plain (pre ++ w) → (pre ++ w).length ≤ 128 → (p = 3 → t + w.length ≤ 1024) →
    feedU ⟨p, l, t, pre⟩ out i (w ++ r) = feedU ⟨p, l, trS p t w.length, pre ++ w⟩ out (i + w.length) r
  | [], pre, t, i, _, _, _ => by
    have : trS p t 0 = t := by unfold trS; split <;> simp
    simp [this]
  | x :: w, pre, t, i, hp, hl, h3 => by
    have hx := hp x (by simp)
    have hpre : Plain pre := fun y hy => hp y (by simp [hy])
    have hst : stepS ⟨p, l, t, pre⟩ x = (0, ⟨p, l, trS p t 1, pre ++ [x]⟩) := by
      rw [stepS_line (fun e => by have := h3 e; simp at this; omega)]
      exact byteS_more (crB_plain hpre) hx.2 (fun hb => by have := hb.1; simp at this hl; omega)
    rw [List.cons_append, feedU_ok h4 h1 (by rw [hst]), hst]
    have ih := feed_plain (l := l) h1 h4 out r w (pre ++ [x]) (trS p t 1) (i + 1) (by simpa using hp) (by simpa using hl) (fun e => by have := h3 e; unfold trS; rw [if_pos e]; simp at this ⊢; omega)
    rw [ih, trS_add]
    simp only [List.append_assoc, List.singleton_append, List.length_cons]
    rw [show 1 + w.length = w.length + 1 by omega, show i + 1 + w.length = i + (w.length + 1) by omega]
/-- A whole line. -/
theorem feed_line {p l t : Int} (h1 : ¬ p = 1) (h4 : ¬ p = 4) (out r w : List UInt8) (i : Nat) (hp : Plain w) (hl : w.length ≤ 128) (h3 : p = 3 → t + w.length + 2 ≤ 1024) (h0 : (lineS ⟨p, l, trS p t (w.length + 2), []⟩ ⟨w.toArray⟩).1 = 0) :
    feedU ⟨p, l, t, []⟩ out i (w ++ 13 :: 10 :: r) = feedU (lineS ⟨p, l, trS p t (w.length + 2), []⟩ ⟨w.toArray⟩).2 out (i + (w.length + 2)) r := by
  rw [feed_plain h1 h4 out _ w [] t i (by simpa using hp) (by simpa using hl) (fun e => by have := h3 e; omega)]
  rw [List.nil_append]
  have ht3 : p = 3 → trS p t w.length = t + w.length := fun e => by unfold trS; rw [if_pos e]
  have hs1 : stepS ⟨p, l, trS p t w.length, w⟩ 13 = (0, ⟨p, l, trS p t (w.length + 1), w ++ [13]⟩) := by
    rw [stepS_line (fun e => by rw [ht3 e]; have := h3 e; omega), trS_add]
    exact byteS_more (crB_plain hp) (by decide) (fun hb => hb.2 rfl)
  rw [feedU_ok h4 h1 (by rw [hs1]), hs1]
  have hs2 : stepS ⟨p, l, trS p t (w.length + 1), w ++ [13]⟩ 10 = lineS ⟨p, l, trS p t (w.length + 2), []⟩ ⟨w.toArray⟩ := by
    rw [stepS_line (fun e => by unfold trS; rw [if_pos e]; have := h3 e; push_cast; omega), trS_add, byteS_line]
  rw [feedU_ok h4 h1 (by rw [hs2]; exact h0), hs2, show i + w.length + 1 + 1 = i + (w.length + 2) by omega]
theorem feed_data (t : Int) (r : List UInt8) : ∀ (d : List UInt8) (out : List UInt8) (i : Nat), d ≠ [] → feedU ⟨1, d.length, t, []⟩ out i (d ++ r) = feedU ⟨2, 0, t, []⟩ (out ++ d) (i + d.length) r
  | [], _, _, h => absurd rfl h
  | [x], out, i, _ => by
    rw [List.cons_append, feedU_data rfl]
    rfl
  | x :: y :: d, out, i, _ => by
    rw [List.cons_append, feedU_data rfl]
    have e : dataS ⟨1, ((x :: y :: d).length : Nat), t, []⟩ = ⟨1, ((y :: d).length : Nat), t, []⟩ := by
      unfold dataS
      simp only [List.length_cons]
      push_cast
      rw [if_neg (by omega)]
      congr 1; omega
    rw [e, feed_data t r (y :: d) (out ++ [x]) (i + 1) (by simp)]
    simp only [List.append_assoc, List.singleton_append, List.length_cons]
    rw [show i + 1 + (d.length + 1) = i + (d.length + 1 + 1) by omega]
theorem lineS_zero {l t : Int} {y : ByteArray} {n : Int} (hp : parseS 16 1000000000 (szS y) = (n, 0)) (hv : visS y = true) : lineS ⟨0, l, t, []⟩ y = (0, ⟨if n = 0 then 3 else 1, n, t, []⟩) := by
  have h := lineS_size (l := l) (t := t) (y := y) (by rw [hp, hv]; simp) (by rw [hp])
  rw [h, hp]
theorem lineS_end {l t : Int} : lineS ⟨2, l, t, []⟩ ⟨([] : List UInt8).toArray⟩ = (0, ⟨0, l, t, []⟩) := rfl
theorem lineS_fin {l t : Int} : lineS ⟨3, l, t, []⟩ ⟨([] : List UInt8).toArray⟩ = (0, ⟨4, l, t, []⟩) := rfl
/-- One chunk: its size line w, its bytes d. -/
theorem feed_chunk (w d r out : List UInt8) (i : Nat) (hw : Plain w) (hl : w.length ≤ 128) (hd : d ≠ []) (hp : parseS 16 1000000000 (szS ⟨w.toArray⟩) = ((d.length : Int), 0)) (hv : visS ⟨w.toArray⟩ = true) :
    feedU zeroC out i (w ++ 13 :: 10 :: (d ++ 13 :: 10 :: r)) = feedU zeroC (out ++ d) (i + (w.length + 2 + d.length + 2)) r := by
  have hd0 : ¬ (d.length : Int) = 0 := by
    have := List.length_pos_iff.2 hd; omega
  have ht : trS 0 0 (w.length + 2) = 0 := rfl
  have hls := lineS_zero (l := 0) (t := 0) hp hv
  rw [if_neg hd0] at hls
  unfold zeroC
  rw [feed_line (p := 0) (by decide) (by decide) out _ w i hw hl (fun e => absurd e (by decide)) (by rw [ht, hls]), ht, hls]
  rw [feed_data 0 _ d out _ hd]
  have h2 := feed_line (p := 2) (l := 0) (t := 0) (by decide) (by decide) (out ++ d) r [] (i + (w.length + 2) + d.length) (fun _ h => by cases h) (by simp) (fun e => absurd e (by decide)) (by rw [lineS_end])
  rw [List.nil_append] at h2
  rw [h2, lineS_end]
  show feedU ⟨0, 0, 0, []⟩ _ _ _ = _
  rw [show i + (w.length + 2) + d.length + ([].length + 2) = i + (w.length + 2 + d.length + 2) by simp; omega]
/-- The last chunk's line w and the trailer section's lines. -/
theorem feed_last (w r out : List UInt8) (i : Nat) (hw : Plain w) (hl : w.length ≤ 128) (hp : parseS 16 1000000000 (szS ⟨w.toArray⟩) = (0, 0)) (hv : visS ⟨w.toArray⟩ = true) :
    feedU zeroC out i (w ++ 13 :: 10 :: r) = feedU ⟨3, 0, 0, []⟩ out (i + (w.length + 2)) r := by
  have ht : trS 0 0 (w.length + 2) = 0 := rfl
  have hls := lineS_zero (l := 0) (t := 0) hp hv
  rw [if_pos rfl] at hls
  unfold zeroC
  rw [feed_line (p := 0) (by decide) (by decide) out _ w i hw hl (fun e => absurd e (by decide)) (by rw [ht, hls]), ht, hls]
theorem feed_field (w r out : List UInt8) (t : Int) (i : Nat) (hw : Plain w) (hl : w.length ≤ 128) (hn : w ≠ []) (ht : t + w.length + 2 ≤ 1024) (hf : (parseF ⟨w.toArray⟩).isSome = true) :
    feedU ⟨3, 0, t, []⟩ out i (w ++ 13 :: 10 :: r) = feedU ⟨3, 0, t + w.length + 2, []⟩ out (i + (w.length + 2)) r := by
  have e : trS 3 t (w.length + 2) = t + w.length + 2 := by unfold trS; rw [if_pos rfl]; push_cast; omega
  have hls : lineS ⟨3, 0, t + w.length + 2, []⟩ ⟨w.toArray⟩ = (0, ⟨3, 0, t + w.length + 2, []⟩) := by
    unfold lineS
    rw [if_neg (show ¬ (3 : Int) = 0 by decide), if_neg (show ¬ (3 : Int) = 2 by decide), if_pos (show (3 : Int) = 3 from rfl), if_neg, if_pos hf]
    show ¬ w.toArray.size = 0
    rw [List.size_toArray]
    have := List.length_pos_iff.2 hn; omega
  rw [feed_line (p := 3) (by decide) (by decide) out r w i hw hl (fun _ => ht) (by rw [e, hls]), e, hls]
theorem feed_done (r out : List UInt8) (t : Int) (i : Nat) (ht : t + 2 ≤ 1024) : feedU ⟨3, 0, t, []⟩ out i (13 :: 10 :: r) = (0, ⟨4, 0, t + 2, []⟩, out, i + 2) := by
  have e : trS 3 t (([] : List UInt8).length + 2) = t + 2 := by unfold trS; rw [if_pos rfl]; simp
  have h2 := feed_line (p := 3) (l := 0) (t := t) (by decide) (by decide) out r [] i (fun _ h => by cases h) (by simp) (fun _ => by simpa using ht) (by rw [e, lineS_fin])
  rw [List.nil_append] at h2
  rw [h2, e, lineS_fin, feedU_done rfl]
  rfl

/-- A hexadecimal numeral as a size line, with an extension behind it. -/
theorem digs_bytes (n : Nat) : ∀ x ∈ digs 16 n, 48 ≤ x.toNat ∧ x.toNat ≤ 102 ∧ ¬ x = 59 ∧ valB x = true := fun x hx => by
  have h1 := List.all_eq_true.1 (digs_num (b := 16) (by decide) (by decide) n) x hx
  unfold numB at h1
  have h2 := of_decide_eq_true h1
  unfold dv at h2
  have h3 : 48 ≤ x.toNat ∧ x.toNat ≤ 57 ∨ 97 ≤ x.toNat ∧ x.toNat ≤ 102 ∨ 65 ≤ x.toNat ∧ x.toNat ≤ 70 := by
    split at h2
    · omega
    · split at h2
      · omega
      · split at h2
        · omega
        · omega
  refine ⟨by omega, by omega, fun e => by subst e; simp at h3, ?_⟩
  unfold valB
  simp
  omega
theorem plain_digs (n : Nat) : Plain (digs 16 n) := fun x hx => by
  have h := digs_bytes n x hx
  refine ⟨fun e => ?_, fun e => ?_⟩ <;> (subst e; simp at h)
theorem splitL_head (c : UInt8) : ∀ (a b : List UInt8), ¬ c ∈ a → (splitL c (a ++ c :: b))[0]? = some a := fun a b h => by
  rw [splitL_append, splitL_whole c a h]; rfl
theorem szS_plain {a : List UInt8} (h : ¬ (59 : UInt8) ∈ a) : szS ⟨a.toArray⟩ = ⟨a.toArray⟩ := by
  unfold szS splitS
  show (((splitL 59 a).map ofL)[0]?).getD _ = _
  rw [splitL_whole 59 a h]; rfl
theorem szS_ext {a b : List UInt8} (h : ¬ (59 : UInt8) ∈ a) : szS ⟨(a ++ 59 :: b).toArray⟩ = ⟨a.toArray⟩ := by
  unfold szS splitS
  show (((splitL 59 (a ++ 59 :: b)).map ofL)[0]?).getD _ = _
  rw [List.getElem?_map, splitL_head 59 a b h]; rfl
theorem digs_no59 (n : Nat) : ¬ (59 : UInt8) ∈ digs 16 n := fun h => (digs_bytes n _ h).2.2.1 rfl
theorem parse_digs {n : Nat} (h : n ≤ 1000000000) : parseS 16 1000000000 ⟨(digs 16 n).toArray⟩ = ((n : Int), 0) := by
  have h1 := parse_numeral (b := 16) (by decide) (by decide) n 1000000000
  rw [if_pos (by omega)] at h1
  exact h1
theorem vis_digs (n : Nat) : visS ⟨(digs 16 n).toArray⟩ = true := by
  unfold visS
  exact List.all_eq_true.2 fun x hx => (digs_bytes n x hx).2.2.2
theorem digs16_len (n : Nat) (h : n ≤ 9223372036854775807) : (digs 16 n).length ≤ 64 := by
  have h1 := fmtS_size (b := 16) (by decide) (n : Int) (by omega)
  unfold fmtS at h1
  rw [if_neg (by omega)] at h1
  have e : (numeral 16 (n : Int).toNat).size = (digs 16 n).length := by
    show (digs 16 (n : Int).toNat).toArray.size = _
    rw [List.size_toArray, Int.toNat_natCast]
  omega
/-- What Encode writes, as a list of bytes. -/
def encL : List (List UInt8) → List UInt8
  | [] => [48, 13, 10, 13, 10]
  | d :: r => if d = [] then encL r else digs 16 d.length ++ 13 :: 10 :: (d ++ 13 :: 10 :: encL r)
theorem feed_enc (more : List UInt8) : ∀ (ls : List (List UInt8)) (out : List UInt8) (i : Nat), (∀ d ∈ ls, d.length ≤ 1000000) → feedU zeroC out i (encL ls ++ more) = (0, ⟨4, 0, 2, []⟩, out ++ ls.flatten, i + (encL ls).length)
  | [], out, i, _ => by
    have hl := feed_last [48] (13 :: 10 :: more) out i (fun x hx => by simp at hx; subst hx; decide) (by decide) (by decide +kernel) (by decide +kernel)
    have e : encL [] ++ more = [48] ++ 13 :: 10 :: (13 :: 10 :: more) := rfl
    rw [e, hl, feed_done more out 0 _ (by decide)]
    simp [encL]
  | d :: r, out, i, h => by
    by_cases hd : d = []
    · have e : encL (d :: r) = encL r := by rw [encL, if_pos hd]
      rw [e, feed_enc more r out i (fun x hx => h x (by simp [hx])), hd]
      simp
    · have e : encL (d :: r) = digs 16 d.length ++ 13 :: 10 :: (d ++ 13 :: 10 :: encL r) := by rw [encL, if_neg hd]
      have hdl := h d (by simp)
      have e2 : encL (d :: r) ++ more = digs 16 d.length ++ 13 :: 10 :: (d ++ 13 :: 10 :: (encL r ++ more)) := by rw [e]; simp
      have hlen := digs16_len d.length (by omega)
      rw [e2, feed_chunk (digs 16 d.length) d (encL r ++ more) out i (plain_digs _) (by omega) hd (by rw [szS_plain (digs_no59 _)]; exact parse_digs (by omega)) (vis_digs _)]
      rw [feed_enc more r (out ++ d) _ (fun x hx => h x (by simp [hx])), e]
      simp only [List.flatten_cons, List.append_assoc, List.length_append, List.length_cons]
      rw [show i + ((digs 16 d.length).length + 2 + d.length + 2) + (encL r).length = i + ((digs 16 d.length).length + (d.length + ((encL r).length + 1 + 1) + 1 + 1)) by omega]
theorem encGo_list : ∀ (ls : List (List UInt8)) (s : ByteArray), (encGo s ls ++ endB).data.toList = s.data.toList ++ encL ls
  | [], s => by
    show (s ++ endB).data.toList = _
    rw [encL]; simp [endB]
  | d :: r, s => by
    have ih := encGo_list r (encOne s d)
    show (encGo (encOne s d) r ++ endB).data.toList = _
    rw [ih]
    by_cases hd : d = []
    · have e : encOne s d = s := by unfold encOne; rw [if_pos (by rw [hd]; rfl)]
      rw [e, encL, if_pos hd]
    · have hn : ¬ d.length = 0 := fun e => hd (List.eq_nil_of_length_eq_zero e)
      have e : (encOne s d).data.toList = s.data.toList ++ (digs 16 d.length ++ 13 :: 10 :: (d ++ [13, 10])) := by
        unfold encOne
        rw [if_neg hn]
        have e2 : (fmtS 16 (d.length : Int)).data.toList = digs 16 d.length := by
          unfold fmtS; rw [if_neg (by omega)]; rfl
        simp [crlfB, e2]
      rw [e, encL, if_neg hd]
      simp
theorem encodeS_eq (ls : List (List UInt8)) : encodeS ls = encL ls := by
  unfold encodeS
  rw [encGo_list]; rfl
/-- Decode of Encode, whatever follows. -/
theorem decode_enc (ls : List (List UInt8)) (more : List UInt8) (h : ∀ d ∈ ls, d.length ≤ 1000000) : decodeS (encodeS ls ++ more) = (0, ls.flatten, (encodeS ls).length) := by
  rw [encodeS_eq, decodeS_eq, feed_enc more ls [] 0 h]
  simp
end Go.Proofs.YtbplpfcgmmflnaaDoor
namespace Go.Proofs.YtbplpfcgmmflnaaDoor
open Go.RowKit

/-- A string at the first of a byte. -/
def cutS (d : UInt8) (s : ByteArray) : ByteArray × ByteArray :=
  if 0 ≤ idxI d s then (s.extract 0 (idxI d s).toNat, s.extract ((idxI d s).toNat + 1) s.size) else (s, ⟨#[]⟩)
theorem cutS_at {d : UInt8} {s : ByteArray} {k : Nat} (h : idxI d s = k) : cutS d s = (s.extract 0 k, s.extract (k + 1) s.size) := by unfold cutS; rw [h]; simp
theorem cutS_no {d : UInt8} {s : ByteArray} (h : idxI d s = -1) : cutS d s = (s, ⟨#[]⟩) := by unfold cutS; rw [h]; rfl
theorem idxI_cases (d : UInt8) (s : ByteArray) : idxI d s = -1 ∨ ∃ k : Nat, idxI d s = k ∧ k < s.size := by
  have := idxI_ge d s
  by_cases h : idxI d s = -1
  · exact .inl h
  · refine .inr ⟨(idxI d s).toNat, by omega, idxI_lt d s (by omega)⟩
theorem cutS_size1 (d : UInt8) (s : ByteArray) : (cutS d s).1.size ≤ s.size := by
  rcases idxI_cases d s with h | ⟨k, h, hk⟩
  · rw [cutS_no h]; exact Nat.le_refl _
  · rw [cutS_at h]; exact extract_le _ _ _
theorem cutS_size2 (d : UInt8) (s : ByteArray) : (cutS d s).2.size ≤ s.size := by
  rcases idxI_cases d s with h | ⟨k, h, hk⟩
  · rw [cutS_no h]; exact Nat.zero_le _
  · rw [cutS_at h]; exact extract_le _ _ _
end Go.Proofs.YtbplpfcgmmflnaaDoor
namespace Go.Proofs.YtbplpfcgmmflnaaDoor
open Go.RowKit

theorem idxI_one (d : UInt8) (s : ByteArray) (h : (⟨#[d]⟩ : ByteArray) = s) : idxI d s = 0 := by
  subst h
  exact idxI_at d ⟨#[d]⟩ 0 (show 0 < 1 by decide) rfl (fun j hj => absurd hj (Nat.not_lt_zero _))

set_option maxRecDepth 100000 in
set_option maxHeartbeats 2000000 in
theorem idxLiteC_any (d : UInt8) (s c : ByteArray) (w : World) (hz : c.size = 1) (h0 : ∀ h, c[0]'h = d) (hc : c = ⟨#[d]⟩) :
    Calls Tryd.prog 65 #[.string s, .string c] w fun e w' => e = .returned (.int .i64 (idxI d s)) ∧ w = w' := by
  by_cases he : c = s
  · have HE := Box.mk (idxI_one d s (by rw [← hc]; exact he))
    have h1 : (c.toList == s.toList) = true := by rw [toList_eq]; simp [he]
    clear he hc
    go_enter Tryd.func65, Tryd.ntmps65
    go_wp2_with fail
    go_ret
    exact ⟨ret_int HE.out.symm, rfl⟩
  · have h1 : (c.toList == s.toList) = false := by rw [toList_eq]; simp [he]
    clear he hc
    go_enter Tryd.func65, Tryd.ntmps65
    go_wp2_with fail
    refine (indexByteLite_any s d _).mono ?_
    rintro e w1 ⟨rfl, rfl⟩
    go_wp2_with fail
    go_ret
    exact ⟨rfl, rfl⟩

set_option maxRecDepth 100000 in
set_option maxHeartbeats 2000000 in
theorem liteCutC_yes (d : UInt8) (s c : ByteArray) (k : Nat) (w : World) (hs : s.size ≤ maxLen) (hz : c.size = 1) (h0 : ∀ h, c[0]'h = d) (hc : c = ⟨#[d]⟩) (hk : idxI d s = k) :
    Calls Tryd.prog 54 #[.string s, .string c] w fun e w' => e = .returned (.tuple #[.string (s.extract 0 k), .string (s.extract (k + 1) s.size), .bool true]) ∧ Below w.heap.size w w' := by
  have hlt := idxI_lt d s hk
  unfold maxLen at hs
  have HK := Box.mk hk
  have H0 := Box.mk (And.intro h0 hc)
  clear hk h0 hc
  go_enter Tryd.func54, Tryd.ntmps54
  go_wp2_with fail
  refine (idxLiteC_any d s c _ hz H0.out.1 H0.out.2).mono ?_
  rintro e w1 ⟨he, rfl⟩
  rw [HK.out] at he
  subst he
  go_wp2_with fail
  go_quiet (fail)
  go_wp2
  go_ret3
  exact ⟨rfl, below_drewN (Below.refl _ _) _⟩

set_option maxRecDepth 100000 in
set_option maxHeartbeats 2000000 in
theorem liteCutC_no (d : UInt8) (s c : ByteArray) (w : World) (hz : c.size = 1) (h0 : ∀ h, c[0]'h = d) (hc : c = ⟨#[d]⟩) (hk : idxI d s = -1) :
    Calls Tryd.prog 54 #[.string s, .string c] w fun e w' => e = .returned (.tuple #[.string s, .string ⟨#[]⟩, .bool false]) ∧ Below w.heap.size w w' := by
  have HK := Box.mk hk
  have H0 := Box.mk (And.intro h0 hc)
  clear hk h0 hc
  go_enter Tryd.func54, Tryd.ntmps54
  go_wp2_with fail
  refine (idxLiteC_any d s c _ hz H0.out.1 H0.out.2).mono ?_
  rintro e w1 ⟨he, rfl⟩
  rw [HK.out] at he
  subst he
  go_wp2_with fail
  go_ret3
  exact ⟨rfl, Below.refl _ _⟩

set_option maxHeartbeats 2000000 in
theorem cutC_any (d : UInt8) (s : ByteArray) (w : World) (hs : s.size ≤ maxLen) :
    Calls Tryd.prog 44 #[.string s, .string ⟨#[d]⟩] w fun e w' => ∃ b, e = .returned (.tuple #[.string (cutS d s).1, .string (cutS d s).2, .bool b]) ∧ Below w.heap.size w w' := by
  rcases idxI_cases d s with hk | ⟨k, hk, _⟩
  · have HK := Box.mk hk
    have HC := Box.mk (cutS_no hk)
    clear hk
    go_enter Tryd.func44, Tryd.ntmps44
    go_wp2_with fail
    refine (liteCutC_no d s _ _ rfl (fun _ => rfl) rfl HK.out).mono ?_
    rintro e w1 ⟨rfl, hb⟩
    have HB := Box.mk hb
    clear hb
    go_wp2_with fail
    go_ret3
    exact ⟨false, by rw [HC.out]; rfl, HB.out⟩
  · have HK := Box.mk hk
    have HC := Box.mk (cutS_at hk)
    clear hk
    go_enter Tryd.func44, Tryd.ntmps44
    go_wp2_with fail
    refine (liteCutC_yes d s _ k _ hs rfl (fun _ => rfl) rfl HK.out).mono ?_
    rintro e w1 ⟨rfl, hb⟩
    have HB := Box.mk hb
    clear hb
    go_wp2_with fail
    go_ret3
    exact ⟨true, by rw [HC.out]; rfl, HB.out⟩

end Go.Proofs.YtbplpfcgmmflnaaDoor
namespace Go.Proofs.YtbplpfcgmmflnaaDoor
open Go.RowKit

theorem blank_val {c : UInt8} (h : blankB c = true) : valB c = true := by
  unfold blankB blanks at h
  simp only [List.contains_cons, List.contains_nil, Bool.or_false, Bool.or_eq_true, beq_iff_eq] at h
  rcases h with rfl | rfl <;> decide
theorem all_dropWhile (l : List UInt8) : (l.dropWhile blankB).all valB = l.all valB := by
  induction l with
  | nil => rfl
  | cons c r ih =>
    rw [List.dropWhile_cons]
    by_cases h : blankB c = true
    · rw [if_pos h, ih, List.all_cons, blank_val h, Bool.true_and]
    · rw [if_neg h]
theorem all_trimL (l : List UInt8) : (trimL l).all valB = l.all valB := by
  unfold trimL rdrop
  rw [all_dropWhile, List.all_reverse, all_dropWhile, List.all_reverse]
theorem valS_trim (s : ByteArray) : valS (trimBA s) = visS s := by
  unfold valS
  rw [trimBA_idem]
  simp only [beq_self_eq_true, Bool.and_true]
  unfold visS
  rw [trimBA_list, all_trimL]
theorem num_val {c : UInt8} (h : numB 16 c = true) : valB c = true := by
  unfold numB at h
  have h2 := of_decide_eq_true h
  unfold dv at h2
  have h3 : 48 ≤ c.toNat ∧ c.toNat ≤ 57 ∨ 97 ≤ c.toNat ∧ c.toNat ≤ 102 ∨ 65 ≤ c.toNat ∧ c.toNat ≤ 70 := by
    split at h2
    · omega
    · split at h2
      · omega
      · split at h2
        · omega
        · omega
  unfold valB
  simp
  omega
theorem parse_vis {s : ByteArray} (h : ¬ (parseS 16 1000000000 s).2 = 2) : visS s = true := by
  unfold parseS at h
  split at h
  · rename_i hn
    unfold numS at hn
    rw [Bool.and_eq_true] at hn
    exact List.all_eq_true.2 fun x hx => num_val (List.all_eq_true.1 hn.1 x hx)
  · simp at h
theorem cutS_list (s : ByteArray) : (¬ (59 : UInt8) ∈ s.data.toList ∧ cutS 59 s = (s, ⟨#[]⟩)) ∨ ∃ a b : List UInt8, ¬ (59 : UInt8) ∈ a ∧ s = ⟨(a ++ 59 :: b).toArray⟩ ∧ cutS 59 s = (⟨a.toArray⟩, ⟨b.toArray⟩) := by
  rcases idxI_cases 59 s with h | ⟨k, h, hk⟩
  · refine .inl ⟨fun hm => ?_, cutS_no h⟩
    obtain ⟨j, hj⟩ := List.getElem?_of_mem hm
    exact Lib.indexByte_none h j hj
  · obtain ⟨h1, h2⟩ := Lib.indexByte_some h
    have hl : k < s.data.toList.length := by simpa using hk
    refine .inr ⟨s.data.toList.take k, s.data.toList.drop (k + 1), fun hm => ?_, ?_, ?_⟩
    · obtain ⟨j, hj⟩ := List.getElem?_of_mem hm
      rw [List.getElem?_take] at hj
      split at hj
      · rename_i hlt
        exact h2 j hlt hj
      · cases hj
    · refine ba_ext ?_
      have e : s.data.toList = s.data.toList.take k ++ 59 :: s.data.toList.drop (k + 1) := by
        rw [List.getElem?_eq_getElem hl] at h1
        rw [← Option.some.inj h1, ← List.drop_eq_getElem_cons hl, List.take_append_drop]
      exact e
    · rw [cutS_at h]
      refine Prod.ext (ba_ext ?_) (ba_ext ?_)
      · simp
      · show (s.extract (k + 1) s.size).data.toList = s.data.toList.drop (k + 1)
        rw [ByteArray.data_extract, Array.toList_extract, List.extract_eq_take_drop]
        exact List.take_of_length_le (by rw [List.length_drop]; show _ - _ ≤ s.data.size - _; rw [Array.length_toList]; exact Nat.le_refl _)
theorem cutS_sz (y : ByteArray) : szS y = (cutS 59 y).1 := by
  rcases cutS_list y with ⟨h, e⟩ | ⟨a, b, h, rfl, e⟩
  · rw [e]
    exact szS_plain (a := y.data.toList) h
  · rw [e]
    exact szS_ext h
theorem cutS_vis (y : ByteArray) : visS y = (visS (cutS 59 y).1 && visS (cutS 59 y).2) := by
  rcases cutS_list y with ⟨h, e⟩ | ⟨a, b, h, rfl, e⟩
  · rw [e]
    show visS y = (visS y && true)
    rw [Bool.and_true]
  · rw [e]
    unfold visS
    show (a ++ 59 :: b).all valB = (a.all valB && b.all valB)
    rw [List.all_append, List.all_cons, show valB 59 = true by decide, Bool.true_and]
/-- What a size line leads to, in the order of the project. -/
theorem lineS_ext {l t : Int} {y : ByteArray} (h : visS (cutS 59 y).2 = false) : lineS ⟨0, l, t, []⟩ y = (2, zeroC) :=
  lineS_bad (.inr (by rw [cutS_vis, h, Bool.and_false]))
theorem lineS_err {l t n e : Int} {y : ByteArray} (h : visS (cutS 59 y).2 = true) (hp : parseS 16 1000000000 (cutS 59 y).1 = (n, e)) (h0 : ¬ e = 0) : lineS ⟨0, l, t, []⟩ y = (e, zeroC) := by
  have hp2 : parseS 16 1000000000 (szS y) = (n, e) := by rw [cutS_sz]; exact hp
  by_cases h2 : e = 2
  · subst h2
    exact lineS_bad (.inl (by rw [hp2]))
  · have hv : visS y = true := by
      rw [cutS_vis, h, Bool.and_true]
      exact parse_vis (by rw [hp]; exact h2)
    have := lineS_big (l := l) (t := t) (y := y) (by rw [hp2, hv]; simp [h2]) (by rw [hp2]; exact h0)
    rw [hp2] at this
    exact this
theorem lineS_ok {l t n : Int} {y : ByteArray} (h : visS (cutS 59 y).2 = true) (hp : parseS 16 1000000000 (cutS 59 y).1 = (n, 0)) : lineS ⟨0, l, t, []⟩ y = (0, ⟨if n = 0 then 3 else 1, n, t, []⟩) :=
  lineS_zero (by rw [cutS_sz]; exact hp) (by
    rw [cutS_vis, h, Bool.and_true]
    exact parse_vis (by rw [hp]; exact (by decide : ¬ (0 : Int) = 2)))
/-- As many bytes of the body at once as there are. -/
theorem feedS_block (room : Int) : ∀ (n : Nat) (s : Chk) (out : List UInt8) (i : Nat) (l : List UInt8), s.ph = 1 → n + 1 ≤ l.length → ((n + 1 : Nat) : Int) ≤ s.left → (out.length : Int) + (n + 1 : Nat) ≤ room →
    feedS room s out i l = feedS room ⟨if s.left - (n + 1 : Nat) = 0 then 2 else 1, s.left - (n + 1 : Nat), s.tr, s.line⟩ (out ++ l.take (n + 1)) (i + (n + 1)) (l.drop (n + 1))
  | n, s, out, i, [], _, h, _, _ => absurd h (by simp)
  | 0, s, out, i, x :: r, h1, _, _, h4 => by
    rw [feedS_data h1 (by omega)]
    rfl
  | n + 1, s, out, i, x :: r, h1, h2, h3, h4 => by
    rw [feedS_data h1 (by omega), if_neg (by omega)]
    have ih := feedS_block room n ⟨1, s.left - 1, s.tr, s.line⟩ (out ++ [x]) (i + 1) r rfl (by simp at h2; omega) (by show _ ≤ s.left - 1; omega) (by simp; omega)
    rw [ih]
    simp only [List.take_succ_cons, List.drop_succ_cons, List.append_assoc, List.singleton_append]
    rw [show s.left - 1 - ((n + 1 : Nat) : Int) = s.left - ((n + 1 + 1 : Nat) : Int) by omega, show i + 1 + (n + 1) = i + (n + 1 + 1) by omega]

/-- A call may touch the block g, the block r, and what is new. -/
structure Touch (w w' : World) (g : Nat) (r : Option Nat) : Prop where
  os : w'.os = w.os
  tape : w'.tape = w.tape
  output : w'.output = w.output
  size : w.heap.size ≤ w'.heap.size
  block : ∀ k, k < w.heap.size → k ≠ g → some k ≠ r → w'.heap[k]? = w.heap[k]?
theorem Touch.refl (w : World) (g : Nat) (r : Option Nat) : Touch w w g r := ⟨rfl, rfl, rfl, Nat.le_refl _, fun _ _ _ _ => rfl⟩
theorem Touch.ofVar {w w' : World} {g : Nat} (h : w.grownBy w' (some g)) (r : Option Nat) : Touch w w' g r := ⟨h.os, h.tape, h.output, h.size, fun k hk hg _ => h.block k hk (fun e => hg (Option.some.inj e))⟩
theorem Touch.ofRow {w w' : World} {r : Option Nat} (h : w.grownBy w' r) (g : Nat) : Touch w w' g r := ⟨h.os, h.tape, h.output, h.size, fun k hk _ hr => h.block k hk hr⟩
theorem Touch.trans {w w1 w2 : World} {g : Nat} {r r' : Option Nat} (h : Touch w w1 g r) (k : Touch w1 w2 g r') (hr : r' = r ∨ r' = none ∨ ∃ q, r' = some q ∧ w.heap.size ≤ q) : Touch w w2 g r :=
  ⟨k.os.trans h.os, k.tape.trans h.tape, k.output.trans h.output, Nat.le_trans h.size k.size, fun i hi hg hne => (k.block i (Nat.lt_of_lt_of_le hi h.size) hg (fun e => by
    rcases hr with rfl | rfl | ⟨q, rfl, hq⟩
    · exact hne e
    · cases e
    · have := Option.some.inj e; omega)).trans (h.block i hi hg hne)⟩
theorem grownBy_setC (w : World) (g i : Nat) (u : Value) : w.grownBy (w.setCell ⟨g, i, none⟩ u) (some g) :=
  ⟨by unfold World.setCell; split <;> rfl, by unfold World.setCell; split <;> rfl, by unfold World.setCell; split <;> rfl, Nat.le_of_eq (World.size_setCell w _ u).symm, fun k _ hne => heap_setCell_other _ _ _ _ (fun e => hne (by rw [e]))⟩
theorem grownBy_of {w w' : World} (h : Below w.heap.size w w') (r : Option Nat) : w.grownBy w' r := ⟨h.os, h.tape, h.output, h.size, fun k hk _ => h.block k hk⟩
theorem Own.touch {B g : Nat} {w w' : World} {v : Value} {l : List UInt8} {r : Option Nat} (h : Own B w v l) (t : Touch w w' g r) (hg : g < B) (hne : ∀ k, v.ownBlock = some k → some k ≠ r) : Own B w' v l :=
  h.same fun k hk => t.block k (h.lt hk).2 (by have := (h.lt hk).1; omega) (hne k hk)
theorem Below.touch {B g : Nat} {w0 w w' : World} {r : Option Nat} (h : Below B w0 w) (t : Touch w w' g r) (hB : B ≤ w.heap.size) (hg : B ≤ g) (hr : ∀ k, r = some k → B ≤ k) : Below B w0 w' :=
  ⟨t.os.trans h.os, t.tape.trans h.tape, t.output.trans h.output, Nat.le_trans h.size t.size, fun i hi => (t.block i (by omega) (by omega) (fun e => by have := hr i e.symm; omega)).trans (h.block i hi)⟩
theorem CVar.touch {w w' : World} {g g2 : Nat} {p l t : Int} {v : Value} {r : Option Nat} (h : CVar w g2 p l t v) (k : Touch w w' g r) (hg : g2 ≠ g) (hr : some g2 ≠ r) : CVar w' g2 p l t v := by
  unfold CVar at *
  rw [k.block g2 (Array.getElem?_eq_some_iff.1 h).1 hg hr]; exact h
end Go.Proofs.YtbplpfcgmmflnaaDoor
namespace Go.Proofs.YtbplpfcgmmflnaaDoor
open Go.RowKit

theorem empty_y {y : ByteArray} (h : y.size = 0) : y.toList.isEmpty = true := by
  rw [ByteArray.toList_eq, List.isEmpty_iff, ← List.length_eq_zero_iff, Array.length_toList]; exact h
theorem full_y {y : ByteArray} (h : ¬ y.size = 0) : y.toList.isEmpty = false := by
  rw [← Bool.not_eq_true, ByteArray.toList_eq, List.isEmpty_iff, ← List.length_eq_zero_iff, Array.length_toList]; exact h
set_option maxHeartbeats 1000000 in
theorem leave_any (g : Nat) (p l t left np : Int) (v : Value) (w : World) (h : CVar w g p l t v) (hnp : (if left = 0 then 2 else p) = np) :
    Calls Tryd.prog 24 #[.pointer (some ⟨g, 0, none⟩), .int .i64 left] w fun e w' => e = .returned (.tuple #[]) ∧ CVar w' g np left t v ∧ w.grownBy w' (some g) := by
  obtain ⟨ha0, ha1, ha2, ha3⟩ := h.cells
  have hf1 := h.frozen (i := 1)
  have HC := Box.mk (h.setL (z := left))
  have hf0 := HC.out.frozen (i := 0)
  obtain ⟨hb0, hb1, hb2, hb3⟩ := HC.out.cells
  clear h
  by_cases hz : left = 0
  · have HZ := Box.mk (show np = 2 by rw [← hnp, if_pos hz])
    have ez : (left == 0) = true := by rw [hz]; rfl
    clear hz hnp
    go_enter Tryd.func24, Tryd.ntmps24
    go_wp2_with fail
    go_end0
    exact ⟨rfl, by rw [HZ.out]; exact HC.out.setP, grownBy_trans (grownBy_setC _ _ _ _) (grownBy_setC _ _ _ _)⟩
  · have HZ := Box.mk (show np = p by rw [← hnp, if_neg hz])
    have ez : (left == 0) = false := by rw [beq_eq_false_iff_ne]; exact hz
    clear hz hnp
    go_enter Tryd.func24, Tryd.ntmps24
    go_wp2_with fail
    go_end0
    exact ⟨rfl, by rw [HZ.out]; exact HC.out, grownBy_setC _ _ _ _⟩
set_option maxHeartbeats 1000000 in
theorem isExtension_any (s : ByteArray) (w : World) (hs : s.size ≤ maxLen) :
    Calls Tryd.prog 45 #[.string s] w fun e w' => e = .returned (.bool (visS s)) ∧ Below w.heap.size w w' := by
  have HS := Box.mk (And.intro hs (Nat.le_trans (trimBA_size s) hs))
  have HV := Box.mk (valS_trim s)
  clear hs
  go_enter Tryd.func45, Tryd.ntmps45
  go_wp2_with fail
  refine (trim_any s _ HS.out.1).mono ?_
  rintro e w1 ⟨rfl, hb1⟩
  generalize trimBA s = u at *
  have HB1 := Box.mk hb1
  clear hb1
  go_wp2_with fail
  refine (value_any u _ HS.out.2).mono ?_
  rintro e w2 ⟨he, hb2⟩
  rw [HV.out] at he
  subst he
  have HB2 := Box.mk (below_trans HB1.out hb2)
  clear hb2
  go_wp2_with fail
  go_ret
  exact ⟨rfl, HB2.out⟩
/-- What a check of a complete line returns, and what it leaves of the state. -/
def RetFin (w : World) (g : Nat) (r : Int × Chk) (e : Ending) (w' : World) : Prop :=
  e = .returned (.int .i64 r.1) ∧ (r.1 = 0 → CVar w' g r.2.ph r.2.left r.2.tr (.slice none 0 0) ∧ r.2.line = []) ∧ w.grownBy w' (some g)
theorem RetFin.err {w w' : World} {g : Nat} {r : Int × Chk} {e : Ending} {er : Int} (hr : r = (er, zeroC)) (he : e = .returned (.int .i64 er)) (h0 : ¬ er = 0) (hg : w.grownBy w' (some g)) : RetFin w g r e w' := by
  subst hr; exact ⟨he, fun h => absurd h h0, hg⟩
theorem RetFin.ok {w w' : World} {g : Nat} {r : Int × Chk} {e : Ending} {p l t : Int} (hr : r = (0, ⟨p, l, t, []⟩)) (he : e = .returned (.int .i64 0)) (hc : CVar w' g p l t (.slice none 0 0)) (hg : w.grownBy w' (some g)) : RetFin w g r e w' := by
  subst hr; exact ⟨he, fun _ => ⟨hc, rfl⟩, hg⟩
set_option maxRecDepth 100000 in
set_option maxHeartbeats 2000000 in
theorem startChunk_any (g : Nat) (y : ByteArray) (w : World) (h : CVar w g 0 0 0 (.slice none 0 0)) (hy : y.size ≤ 1000) :
    Calls Tryd.prog 38 #[.pointer (some ⟨g, 0, none⟩), .string y] w (RetFin w g (lineS ⟨0, 0, 0, []⟩ y)) := by
  obtain ⟨d, x, hdx⟩ : ∃ d x, cutS 59 y = (d, x) := ⟨_, _, rfl⟩
  obtain ⟨n, er, hp⟩ : ∃ n er, parseS 16 1000000000 d = (n, er) := ⟨_, _, rfl⟩
  have HD := Box.mk hdx
  have HPS := Box.mk hp
  have HDX := Box.mk (show d.size ≤ maxLen ∧ x.size ≤ maxLen from by
    have h1 := cutS_size1 59 y
    have h2 := cutS_size2 59 y
    rw [hdx] at h1 h2
    have h3 : d.size ≤ y.size := h1
    have h4 : x.size ≤ y.size := h2
    unfold maxLen
    omega)
  have HY := Box.mk (show y.size ≤ maxLen from by unfold maxLen; omega)
  have HL1 := Box.mk (fun (hv : visS x = false) => lineS_ext (l := 0) (t := 0) (y := y) (by rw [hdx]; exact hv))
  have HL2 := Box.mk (fun (hv : visS x = true) (h0 : ¬ er = 0) => lineS_err (l := 0) (t := 0) (n := n) (e := er) (y := y) (by rw [hdx]; exact hv) (by rw [hdx]; exact hp) h0)
  have HL3 := Box.mk (fun (hv : visS x = true) (h0 : er = 0) => lineS_ok (l := 0) (t := 0) (n := n) (y := y) (by rw [hdx]; exact hv) (by rw [hdx, ← h0]; exact hp))
  have HC := Box.mk h
  generalize lineS ⟨0, 0, 0, []⟩ y = R at *
  clear h hp hdx hy
  go_enter Tryd.func38, Tryd.ntmps38
  go_wp2_with fail
  refine (cutC_any 59 y _ HY.out).mono ?_
  rintro e w1 ⟨b, he, hb1⟩
  rw [HD.out] at he
  simp only [] at he
  subst he
  have HC1 := Box.mk (HC.out.keep hb1)
  have HG1 := Box.mk (grownBy_of hb1 (some g))
  clear hb1 HC
  go_wp2_with fail
  refine (isExtension_any x _ HDX.out.2).mono ?_
  rintro e w2 ⟨he, hb2⟩
  have HC2 := Box.mk (HC1.out.keep hb2)
  have HG2 := Box.mk (grownBy_trans HG1.out (grownBy_of hb2 (some g)))
  clear hb2 HC1 HG1
  by_cases hv : visS x = true
  · rw [hv] at he
    subst he
    have HV := Box.mk hv
    clear hv
    go_wp2_with fail
    refine (parseHex_any d 1000000000 _ HDX.out.1 (by decide) (by decide)).mono ?_
    rintro e w3 ⟨he, rfl⟩
    rw [HPS.out] at he
    simp only [] at he
    subst he
    by_cases h0 : er = 0
    · have HR := Box.mk (HL3.out HV.out h0)
      have e0 : (er != 0) = false := by rw [h0]; rfl
      clear h0 HL1 HL2 HL3 HPS
      obtain ⟨ha0, ha1, ha2, ha3⟩ := HC2.out.cells
      have hf0 := HC2.out.frozen (i := 0)
      by_cases hn : n = 0
      · have HR2 := Box.mk (show R = (0, ⟨3, 0, 0, []⟩) by rw [HR.out, if_pos hn, hn])
        have en : (n == 0) = true := by rw [hn]; rfl
        have HC3 := Box.mk (HC2.out.setP (z := 3))
        obtain ⟨hb0, hb1, hb2, hb3⟩ := HC3.out.cells
        have hf2 := HC3.out.frozen (i := 2)
        clear hn HR
        go_wp2_with fail
        go_ret
        exact RetFin.ok HR2.out rfl HC3.out.setT (grownBy_trans HG2.out (grownBy_trans (grownBy_setC _ _ _ _) (grownBy_setC _ _ _ _)))
      · have HR2 := Box.mk (show R = (0, ⟨1, n, 0, []⟩) by rw [HR.out, if_neg hn])
        have en : (n == 0) = false := by rw [beq_eq_false_iff_ne]; exact hn
        have HC3 := Box.mk (HC2.out.setP (z := 1))
        obtain ⟨hb0, hb1, hb2, hb3⟩ := HC3.out.cells
        have hf1 := HC3.out.frozen (i := 1)
        clear hn HR
        go_wp2_with fail
        go_ret
        exact RetFin.ok HR2.out rfl HC3.out.setL (grownBy_trans HG2.out (grownBy_trans (grownBy_setC _ _ _ _) (grownBy_setC _ _ _ _)))
    · have HR := Box.mk (HL2.out HV.out h0)
      have e0 : (er != 0) = true := by rw [bne_iff_ne]; exact h0
      have H0 := Box.mk h0
      clear h0 HL1 HL2 HL3 HPS
      go_wp2_with fail
      go_ret
      exact RetFin.err HR.out rfl H0.out HG2.out
  · have hv2 : visS x = false := by rw [← Bool.not_eq_true]; exact hv
    have HR := Box.mk (HL1.out hv2)
    rw [hv2] at he
    subst he
    clear hv hv2 HL1 HL2 HL3 HPS
    go_wp2_with fail
    go_ret
    exact RetFin.err HR.out rfl (by decide) HG2.out
set_option maxRecDepth 100000 in
set_option maxHeartbeats 2000000 in
theorem finishLine_any (p l t : Int) (g : Nat) (y : ByteArray) (w : World) (h : CVar w g p l t (.slice none 0 0)) (hp : p = 0 ∧ l = 0 ∧ t = 0 ∨ p = 2 ∨ p = 3) (hy : y.size ≤ 1000) :
    Calls Tryd.prog 31 #[.pointer (some ⟨g, 0, none⟩), .string y] w (RetFin w g (lineS ⟨p, l, t, []⟩ y)) := by
  rcases hp with ⟨rfl, rfl, rfl⟩ | rfl | rfl
  · have HC := Box.mk h
    obtain ⟨ha0, ha1, ha2, ha3⟩ := h.cells
    have HY := Box.mk hy
    generalize hR : lineS ⟨0, 0, 0, []⟩ y = R
    have HR := Box.mk hR
    clear h hy hR
    go_enter Tryd.func31, Tryd.ntmps31
    go_wp2_with fail
    refine (startChunk_any g y _ HC.out HY.out).mono ?_
    rintro e w1 ⟨he, h1, h2⟩
    rw [HR.out] at he h1
    subst he
    have H1 := Box.mk h1
    have H2 := Box.mk h2
    clear h1 h2
    go_wp2_with fail
    go_ret
    exact ⟨rfl, H1.out, H2.out⟩
  · obtain ⟨ha0, ha1, ha2, ha3⟩ := h.cells
    have hf0 := h.frozen (i := 0)
    have HC := Box.mk h
    clear h
    by_cases hz : y.size = 0
    · have HR := Box.mk (show lineS ⟨2, l, t, []⟩ y = (0, ⟨0, l, t, []⟩) by unfold lineS; simp [hz])
      have hye := empty_y hz
      generalize lineS ⟨2, l, t, []⟩ y = R at *
      clear hz hy
      go_enter Tryd.func31, Tryd.ntmps31
      go_wp2_with fail
      go_ret
      exact RetFin.ok HR.out rfl HC.out.setP (grownBy_setC _ _ _ _)
    · have HR := Box.mk (show lineS ⟨2, l, t, []⟩ y = (2, zeroC) by unfold lineS; simp [hz])
      have hye := full_y hz
      generalize lineS ⟨2, l, t, []⟩ y = R at *
      clear hz hy
      go_enter Tryd.func31, Tryd.ntmps31
      go_wp2_with fail
      go_ret
      exact RetFin.err HR.out rfl (by decide) (grownBy_of (Below.refl _ _) _)
  · obtain ⟨ha0, ha1, ha2, ha3⟩ := h.cells
    have hf0 := h.frozen (i := 0)
    have HC := Box.mk h
    clear h
    by_cases hz : y.size = 0
    · have HR := Box.mk (show lineS ⟨3, l, t, []⟩ y = (0, ⟨4, l, t, []⟩) by unfold lineS; simp [hz])
      have hye := empty_y hz
      generalize lineS ⟨3, l, t, []⟩ y = R at *
      clear hz hy
      go_enter Tryd.func31, Tryd.ntmps31
      go_wp2_with fail
      go_ret
      exact RetFin.ok HR.out rfl HC.out.setP (grownBy_setC _ _ _ _)
    · have HR1 := Box.mk (fun (hf : (parseF y).isSome = true) => show lineS ⟨3, l, t, []⟩ y = (0, ⟨3, l, t, []⟩) by unfold lineS; simp [hz, hf])
      have HR2 := Box.mk (fun (hf : ¬ (parseF y).isSome = true) => show lineS ⟨3, l, t, []⟩ y = (2, zeroC) by unfold lineS; simp [hz, hf])
      have hye := full_y hz
      have HY := Box.mk (show y.size ≤ maxLen from by unfold maxLen; omega)
      generalize lineS ⟨3, l, t, []⟩ y = R at *
      clear hz hy
      go_enter Tryd.func31, Tryd.ntmps31
      go_wp2_with fail
      refine (fParse_any y _ HY.out).mono ?_
      rintro e w1 ⟨he, hb1⟩
      have HC1 := Box.mk (HC.out.keep hb1)
      have HB1 := Box.mk hb1
      clear hb1
      rcases hq : parseF y with _ | ⟨fn, fv⟩
      · rw [hq] at he
        simp only [parseV] at he
        subst he
        have HR := Box.mk (HR2.out (by rw [hq]; simp))
        clear hq HR1 HR2
        go_wp2_with fail
        go_ret
        exact RetFin.err HR.out rfl (by decide) (grownBy_of (below_trans HB1.out (below_oneF _ _)) _)
      · rw [hq] at he
        simp only [parseV] at he
        subst he
        have HR := Box.mk (HR1.out (by rw [hq]; rfl))
        clear hq HR1 HR2
        go_wp2_with fail
        go_ret
        exact RetFin.ok HR.out rfl (HC1.out.keep (below_oneF _ _)) (grownBy_of (below_trans HB1.out (below_oneF _ _)) _)
end Go.Proofs.YtbplpfcgmmflnaaDoor
namespace Go.Proofs.YtbplpfcgmmflnaaDoor
open Go.RowKit

/-- What readLine returns, and what it leaves of the state. -/
def RetLine (w : World) (g B : Nat) (v : Value) (r : Int × Chk) (e : Ending) (w' : World) : Prop :=
  e = .returned (.int .i64 r.1) ∧ (r.1 = 0 → ∃ v', CVar w' g r.2.ph r.2.left r.2.tr v' ∧ Own B w' v' r.2.line ∧ (v'.ownBlock = v.ownBlock ∨ v'.ownBlock = none ∨ ∃ k, v'.ownBlock = some k ∧ w.heap.size ≤ k)) ∧ Touch w w' g v.ownBlock
theorem RetLine.err {w w' : World} {g B : Nat} {v : Value} {r : Int × Chk} {e : Ending} {er : Int} (hr : r = (er, zeroC)) (he : e = .returned (.int .i64 er)) (h0 : ¬ er = 0) (ht : Touch w w' g v.ownBlock) : RetLine w g B v r e w' := by
  subst hr; exact ⟨he, fun h => absurd h h0, ht⟩
theorem RetLine.ok {w w' : World} {g B : Nat} {v v' : Value} {r : Int × Chk} {e : Ending} {p l t : Int} {ln : List UInt8} (hr : r = (0, ⟨p, l, t, ln⟩)) (he : e = .returned (.int .i64 0)) (hc : CVar w' g p l t v') (ho : Own B w' v' ln)
    (hb : v'.ownBlock = v.ownBlock ∨ v'.ownBlock = none ∨ ∃ k, v'.ownBlock = some k ∧ w.heap.size ≤ k) (ht : Touch w w' g v.ownBlock) : RetLine w g B v r e w' := by
  subst hr; exact ⟨he, fun _ => ⟨v', hc, ho, hb⟩, ht⟩
theorem own_cap {w : World} {a : Option Addr} {m : List UInt8} {z : UInt8} {c : Nat} (h : IsBytes w a (m ++ [z]) c) : m.length + 1 ≤ c := by
  rcases h with ⟨_, e, _⟩ | ⟨y, _, h1, _, _⟩
  · simp at e
  · simpa using h1
theorem own_lastC {w : World} {ad : Addr} {m : List UInt8} {z : UInt8} {c : Nat} (h : IsBytes w (some ad) (m ++ [z]) c) : w.cell? (ad.add m.length) = some (.int .u8 (z.toNat : Int)) := by
  rcases h with ⟨e, _⟩ | ⟨y, e, _, _, hc⟩
  · cases e
  · obtain rfl := Option.some.inj e
    have := hc m.length (by simp)
    simpa using this
set_option maxRecDepth 100000 in
set_option maxHeartbeats 2000000 in
theorem readLine_full (l t : Int) (x : UInt8) (g : Nat) (v : Value) (w : World) (hc : CVar w g 3 l t v) (ht0 : 0 ≤ t ∧ t ≤ 1024) (ht : 1024 < t + 1) :
    Calls Tryd.prog 25 #[.pointer (some ⟨g, 0, none⟩), .int .u8 x.toNat] w fun e w' => e = .returned (.int .i64 3) ∧ Touch w w' g v.ownBlock := by
  obtain ⟨ha0, ha1, ha2, ha3⟩ := hc.cells
  have hf2 := hc.frozen (i := 2)
  obtain ⟨hd0, hd1, hd2, hd3⟩ := (hc.setT (z := t + 1)).cells
  clear hc
  go_enter Tryd.func25, Tryd.ntmps25
  go_wp2_with fail
  go_ret
  exact ⟨rfl, Touch.ofVar (grownBy_setC _ _ _ _) _⟩
theorem Own.bytes2 {B : Nat} {w : World} {a : Option Addr} {l : List UInt8} {n c : Nat} (h : Own B w (.slice a n c) l) (_ : l ≠ []) : IsBytes w a l c := h.bytes
set_option maxRecDepth 100000 in
set_option maxHeartbeats 4000000 in
theorem readLine_n (p l t : Int) (line : List UInt8) (x : UInt8) (g B : Nat) (v : Value) (w : World) (hc : CVar w g p l t v) (ho : Own B w v line) (hB : B ≤ w.heap.size) (hg : g < B) (hp : p = 0 ∧ l = 0 ∧ t = 0 ∨ p = 2) (hl : line.length ≤ 129) :
    Calls Tryd.prog 25 #[.pointer (some ⟨g, 0, none⟩), .int .u8 x.toNat] w (RetLine w g B v (byteS ⟨p, l, t, line⟩ t x)) := by
  have HPP := Box.mk hp
  have ep : (p == 3) = false := by rw [beq_eq_false_iff_ne]; rcases hp with h | h <;> omega
  clear hp
  obtain ⟨va, vc, rfl, hvb⟩ := ho.val
  rcases last_cases line with rfl | ⟨m, z, rfl⟩
  · have hcr : crB [] = false := rfl
    obtain ⟨n, hn⟩ : ∃ n : Nat, n = ([] : List UInt8).length := ⟨_, rfl⟩
    rw [← hn] at hc ho ⊢
    have HN := Box.mk (show n = 0 from hn)
    have hni : (n : Int) ≤ 0 := by rw [hn]; decide
    clear hn
    obtain ⟨ha0, ha1, ha2, ha3⟩ := hc.cells
    have HC := Box.mk (show CVar w g p l t (.slice va n vc) from hc)
    have HO := Box.mk (show Own B w (.slice va n vc) [] from ho)
    have HT := Box.mk (show Touch w w g (Value.slice va n vc).ownBlock from Touch.refl _ _ _)
    have hsz : B ≤ w.heap.size := by exact hB
    obtain ⟨hd0, hd1, hd2, hd3⟩ := HC.out.cells
    have hf3 := HC.out.frozen (i := 3)
    clear hc ho hvb
    by_cases hx : x = 10
    · subst hx
      have HP := Box.mk (byteS_ten (s := ⟨p, l, t, []⟩) (t := t) hcr)
      clear hcr
      rw [show (10 : UInt8).toNat = 10 from rfl]
      go_enter Tryd.func25, Tryd.ntmps25
      go_wp2_with fail
      go_ret
      exact RetLine.err HP.out rfl (by decide) HT.out
    · have e10 : ((x.toNat : Int) == 10) = false := by
        rw [beq_eq_false_iff_ne]; intro e; exact hx (UInt8.toNat_inj.1 (by rw [show (10 : UInt8).toNat = 10 from rfl]; omega))
      go_enter Tryd.func25, Tryd.ntmps25
      go_wp2_with (at_builtin; refine wpList_append_ownb _ rfl _ _ rfl rfl (HO.out.keep (below_oneF w (.cells #[.int .u8 (x.toNat : Int)] 5))) rfl (r := [x]) (isBytes_oneC w x) (by simp) (by simp; omega) ?_)
      intro v5 w5 hown hgr hbl
      have HBL := Box.mk (show v5.ownBlock = (Value.slice va n vc).ownBlock ∨ v5.ownBlock = none ∨ ∃ k, v5.ownBlock = some k ∧ w.heap.size ≤ k by
        rcases hbl with h | h
        · exact .inl h
        · exact .inr (.inr ⟨_, h, by have h9 := HT.out.size; (try simp only [World.size_setCell] at h9); (try simp only [World.size_alloc, World.size_setCell]); omega⟩))
      obtain ⟨ln, hln⟩ : ∃ ln : List UInt8, ln = [] ++ [x] := ⟨_, rfl⟩
      have hown : Own B w5 v5 ln := by rw [hln]; simpa using hown
      obtain ⟨na, nc, rfl, hnb⟩ := hown.val
      have hgr := grownBy_afterC (below_oneF w (.cells #[.int .u8 (x.toNat : Int)] 5)) hgr
      have HC5 := Box.mk (HC.out.grownC hgr (fun e => by have := (HO.out.lt e.symm).1; omega))
      have HT5 := Box.mk (HT.out.trans (Touch.ofRow hgr g) (.inl rfl))
      have HO5 := Box.mk (hown.setC (g := g) (i := 3) (u := .slice na ln.length nc) hg)
      have HLN := Box.mk (show ln.length = n + 1 by rw [hln]; rw [HN.out]; rfl)
      have HLE := Box.mk hln
      have hl130 : ln.length ≤ 130 := by have := HLN.out; have := HN.out; omega
      clear hown hgr hbl hnb hln
      have hf5 := HC5.out.frozen (i := 3)
      obtain ⟨hb0, hb1, hb2, hb3⟩ := HC5.out.cells
      have HC6 := Box.mk (HC5.out.setV (u := .slice na ln.length nc))
      obtain ⟨hc0, hc1, hc2, hc3⟩ := HC6.out.cells
      have HT6 := Box.mk (HT5.out.trans (Touch.ofVar (grownBy_setC w5 g 3 (.slice na ln.length nc)) none) (.inr (.inl rfl)))
      by_cases hlong : 128 < ln.length ∧ ¬ x = 13
      · have h128 := hlong.1
        have HP := Box.mk (byteS_long (s := ⟨p, l, t, []⟩) (t := t) hcr hx (by have h8 := hlong.1; rw [HLN.out, HN.out] at h8; exact h8) hlong.2)
        have e13 : ((x.toNat : Int) != 13) = true := by
          rw [bne_iff_ne]; intro e; exact hlong.2 (UInt8.toNat_inj.1 (by rw [show (13 : UInt8).toNat = 13 from rfl]; omega))
        clear hlong hx hcr
        go_wp2_with fail
        go_ret
        exact RetLine.err HP.out rfl (by decide) HT6.out
      · have HP := Box.mk (show byteS ⟨p, l, t, []⟩ t x = (0, ⟨p, l, t, ln⟩) by
          rw [HLE.out]
          exact byteS_more hcr hx (fun h => hlong ⟨by rw [HLN.out, HN.out]; exact h.1, h.2⟩))
        by_cases h128 : 128 < ln.length
        · have e13 : ((x.toNat : Int) != 13) = false := by
            have hx13 : x = 13 := Decidable.byContradiction fun h => hlong ⟨h128, h⟩
            rw [hx13]; rfl
          clear hlong hx hcr
          go_wp2_with fail
          go_ret
          exact RetLine.ok HP.out rfl HC6.out HO5.out HBL.out HT6.out
        · clear hlong hx hcr
          go_wp2_with fail
          go_ret
          exact RetLine.ok HP.out rfl HC6.out HO5.out HBL.out HT6.out
  · have hnl : (m ++ [z]).length = m.length + 1 := by simp
    rw [hnl] at hc ho hl ⊢
    obtain ⟨ad, hva⟩ := isBytes_some hvb
    have hcap := own_cap hvb
    obtain ⟨ha0, ha1, ha2, ha3⟩ := hc.cells
    have HC := Box.mk (show CVar w g p l t (.slice va (m.length + 1) vc) from hc)
    have HO := Box.mk (show Own B w (.slice va (m.length + 1) vc) (m ++ [z]) from ho)
    have HT := Box.mk (show Touch w w g (Value.slice va (m.length + 1) vc).ownBlock from Touch.refl _ _ _)
    have hsz : B ≤ w.heap.size := by exact hB
    obtain ⟨hd0, hd1, hd2, hd3⟩ := HC.out.cells
    have hf3 := HC.out.frozen (i := 3)
    clear hc ho hvb
    have hcell := own_lastC (ad := ad) (z := z) (m := m) (c := vc) (w := w) (by rw [← hva]; have h := HO.out.bytes2 (by simp); exact h)
    by_cases hz : z = 13
    · subst hz
      have hcell : (w).cell? (ad.add m.length) = some (.int .u8 13) := hcell
      subst hva
      by_cases hx : x = 10
      · subst hx
        have HP0 := Box.mk (byteS_line (m := m) (p := p) (l := l) (t0 := t) (t := t))
        have hcv := conv_bytes (isBytes_front (HO.out.bytes2 (by simp)))
        have HY := Box.mk (show (⟨m.toArray⟩ : ByteArray).size ≤ 1000 by show m.toArray.size ≤ 1000; rw [List.size_toArray]; omega)
        generalize (⟨m.toArray⟩ : ByteArray) = y at *
        have HC2 := Box.mk (HC.out.setV (u := .slice none 0 0))
        generalize hR : lineS ⟨p, l, t, []⟩ y = R
        have HR := Box.mk hR
        clear hR
        rw [show (10 : UInt8).toNat = 10 from rfl]
        go_enter Tryd.func25, Tryd.ntmps25
        go_wp2_with fail
        refine (finishLine_any p l t g y _ HC2.out (by rcases HPP.out with h | h; exact .inl h; exact .inr (.inl h)) HY.out).mono ?_
        rintro e w3 ⟨he, h1, h2⟩
        rw [HR.out] at he h1
        subst he
        have H1 := Box.mk h1
        have HT3 := Box.mk ((HT.out.trans (Touch.ofVar (grownBy_setC w g 3 (.slice none 0 0)) none) (.inr (.inl rfl))).trans (Touch.ofVar h2 none) (.inr (.inl rfl)))
        clear h1 h2 hcv
        go_wp2_with fail
        go_ret
        refine ⟨by rw [HP0.out, HR.out]; rfl, fun h0 => ?_, HT3.out⟩
        rw [HP0.out, HR.out] at h0 ⊢
        obtain ⟨h3, h4⟩ := H1.out h0
        exact ⟨.slice none 0 0, h3, by rw [h4]; exact Own.start _ _, .inr (.inl rfl)⟩
      · have HP := Box.mk (byteS_bad (s := ⟨p, l, t, m ++ [13]⟩) (t := t) (by show crB (m ++ [13]) = true; rw [crB_app]; rfl) hx)
        have e10 : ((x.toNat : Int) == 10) = false := by
          rw [beq_eq_false_iff_ne]; intro e; exact hx (UInt8.toNat_inj.1 (by rw [show (10 : UInt8).toNat = 10 from rfl]; omega))
        clear hx
        go_enter Tryd.func25, Tryd.ntmps25
        go_wp2_with fail
        go_ret
        exact RetLine.err HP.out rfl (by decide) HT.out
    · have hcr : crB (m ++ [z]) = false := by rw [crB_app]; simpa using hz
      have ez : ((z.toNat : Int) == 13) = false := by
        rw [beq_eq_false_iff_ne]; intro e; exact hz (UInt8.toNat_inj.1 (by rw [show (13 : UInt8).toNat = 13 from rfl]; omega))
      clear hz
      by_cases hx : x = 10
      · subst hx
        subst hva
        have HP := Box.mk (byteS_ten (s := ⟨p, l, t, m ++ [z]⟩) (t := t) hcr)
        clear hcr
        rw [show (10 : UInt8).toNat = 10 from rfl]
        go_enter Tryd.func25, Tryd.ntmps25
        go_wp2_with fail
        go_ret
        exact RetLine.err HP.out rfl (by decide) HT.out
      · subst hva
        have e10 : ((x.toNat : Int) == 10) = false := by
          rw [beq_eq_false_iff_ne]; intro e; exact hx (UInt8.toNat_inj.1 (by rw [show (10 : UInt8).toNat = 10 from rfl]; omega))
        go_enter Tryd.func25, Tryd.ntmps25
        go_wp2_with (at_builtin; refine wpList_append_ownb _ rfl _ _ rfl rfl (HO.out.keep (below_oneF w (.cells #[.int .u8 (x.toNat : Int)] 5))) rfl (r := [x]) (isBytes_oneC w x) (by simp; omega) (by simp; omega) ?_)
        intro v5 w5 hown hgr hbl
        have HBL := Box.mk (show v5.ownBlock = (Value.slice (some ad) (m.length + 1) vc).ownBlock ∨ v5.ownBlock = none ∨ ∃ k, v5.ownBlock = some k ∧ w.heap.size ≤ k by
          rcases hbl with h | h
          · exact .inl h
          · exact .inr (.inr ⟨_, h, by have h9 := HT.out.size; (try simp only [World.size_setCell] at h9); (try simp only [World.size_alloc, World.size_setCell]); omega⟩))
        obtain ⟨ln, hln⟩ : ∃ ln : List UInt8, ln = (m ++ [z]) ++ [x] := ⟨_, rfl⟩
        have hown : Own B w5 v5 ln := by rw [hln]; simpa using hown
        obtain ⟨na, nc, rfl, hnb⟩ := hown.val
        have hgr := grownBy_afterC (below_oneF w (.cells #[.int .u8 (x.toNat : Int)] 5)) hgr
        have HC5 := Box.mk (HC.out.grownC hgr (fun e => by have := (HO.out.lt e.symm).1; omega))
        have HT5 := Box.mk (HT.out.trans (Touch.ofRow hgr g) (.inl rfl))
        have HO5 := Box.mk (hown.setC (g := g) (i := 3) (u := .slice na ln.length nc) hg)
        have HLN := Box.mk (show ln.length = (m.length + 1) + 1 by rw [hln]; simp)
        have HLE := Box.mk hln
        have hl130 : ln.length ≤ 130 := by have := HLN.out; omega
        clear hown hgr hbl hnb hln
        have hf5 := HC5.out.frozen (i := 3)
        obtain ⟨hb0, hb1, hb2, hb3⟩ := HC5.out.cells
        have HC6 := Box.mk (HC5.out.setV (u := .slice na ln.length nc))
        obtain ⟨hc0, hc1, hc2, hc3⟩ := HC6.out.cells
        have HT6 := Box.mk (HT5.out.trans (Touch.ofVar (grownBy_setC w5 g 3 (.slice na ln.length nc)) none) (.inr (.inl rfl)))
        by_cases hlong : 128 < ln.length ∧ ¬ x = 13
        · have h128 := hlong.1
          have HP := Box.mk (byteS_long (s := ⟨p, l, t, (m ++ [z])⟩) (t := t) hcr hx (by have h8 := hlong.1; rw [HLN.out] at h8; simpa using h8) hlong.2)
          have e13 : ((x.toNat : Int) != 13) = true := by
            rw [bne_iff_ne]; intro e; exact hlong.2 (UInt8.toNat_inj.1 (by rw [show (13 : UInt8).toNat = 13 from rfl]; omega))
          clear hlong hx hcr
          go_wp2_with fail
          go_ret
          exact RetLine.err HP.out rfl (by decide) HT6.out
        · have HP := Box.mk (show byteS ⟨p, l, t, (m ++ [z])⟩ t x = (0, ⟨p, l, t, ln⟩) by
            rw [HLE.out]
            exact byteS_more hcr hx (fun h => hlong ⟨by rw [HLN.out]; simpa using h.1, h.2⟩))
          by_cases h128 : 128 < ln.length
          · have e13 : ((x.toNat : Int) != 13) = false := by
              have hx13 : x = 13 := Decidable.byContradiction fun h => hlong ⟨h128, h⟩
              rw [hx13]; rfl
            clear hlong hx hcr
            go_wp2_with fail
            go_ret
            exact RetLine.ok HP.out rfl HC6.out HO5.out HBL.out HT6.out
          · clear hlong hx hcr
            go_wp2_with fail
            go_ret
            exact RetLine.ok HP.out rfl HC6.out HO5.out HBL.out HT6.out
set_option maxRecDepth 100000 in
set_option maxHeartbeats 4000000 in
theorem readLine_3 (l t : Int) (line : List UInt8) (x : UInt8) (g B : Nat) (v : Value) (w : World) (hc : CVar w g 3 l t v) (ho : Own B w v line) (hB : B ≤ w.heap.size) (hg : g < B) (ht0 : 0 ≤ t) (ht : t + 1 ≤ 1024) (hl : line.length ≤ 129) :
    Calls Tryd.prog 25 #[.pointer (some ⟨g, 0, none⟩), .int .u8 x.toNat] w (RetLine w g B v (byteS ⟨3, l, t, line⟩ (t + 1) x)) := by
  obtain ⟨va, vc, rfl, hvb⟩ := ho.val
  rcases last_cases line with rfl | ⟨m, z, rfl⟩
  · have hcr : crB [] = false := rfl
    obtain ⟨n, hn⟩ : ∃ n : Nat, n = ([] : List UInt8).length := ⟨_, rfl⟩
    rw [← hn] at hc ho ⊢
    have HN := Box.mk (show n = 0 from hn)
    have hni : (n : Int) ≤ 0 := by rw [hn]; decide
    clear hn
    obtain ⟨ha0, ha1, ha2, ha3⟩ := hc.cells
    have hf2 := hc.frozen (i := 2)
    have HC := Box.mk (show CVar (w.setCell ⟨g, 2, none⟩ (.int .i64 (t + 1))) g 3 l (t + 1) (.slice va n vc) from hc.setT)
    have HO := Box.mk (show Own B (w.setCell ⟨g, 2, none⟩ (.int .i64 (t + 1))) (.slice va n vc) [] from ho.setC hg)
    have HT := Box.mk (show Touch w (w.setCell ⟨g, 2, none⟩ (.int .i64 (t + 1))) g (Value.slice va n vc).ownBlock from Touch.ofVar (grownBy_setC _ _ _ _) _)
    have hsz : B ≤ (w.setCell ⟨g, 2, none⟩ (.int .i64 (t + 1))).heap.size := by rw [World.size_setCell]; exact hB
    obtain ⟨hd0, hd1, hd2, hd3⟩ := HC.out.cells
    have hf3 := HC.out.frozen (i := 3)
    clear hc ho hvb
    by_cases hx : x = 10
    · subst hx
      have HP := Box.mk (byteS_ten (s := ⟨3, l, t, []⟩) (t := (t + 1)) hcr)
      clear hcr
      rw [show (10 : UInt8).toNat = 10 from rfl]
      go_enter Tryd.func25, Tryd.ntmps25
      go_wp2_with fail
      go_ret
      exact RetLine.err HP.out rfl (by decide) HT.out
    · have e10 : ((x.toNat : Int) == 10) = false := by
        rw [beq_eq_false_iff_ne]; intro e; exact hx (UInt8.toNat_inj.1 (by rw [show (10 : UInt8).toNat = 10 from rfl]; omega))
      go_enter Tryd.func25, Tryd.ntmps25
      go_wp2_with (at_builtin; refine wpList_append_ownb _ rfl _ _ rfl rfl (HO.out.keep (below_oneF (w.setCell ⟨g, 2, none⟩ (.int .i64 (t + 1))) (.cells #[.int .u8 (x.toNat : Int)] 5))) rfl (r := [x]) (by have h := isBytes_oneC (w.setCell ⟨g, 2, none⟩ (.int .i64 (t + 1))) x; rw [World.size_setCell] at h; exact h) (by simp) (by simp; omega) ?_)
      intro v5 w5 hown hgr hbl
      have HBL := Box.mk (show v5.ownBlock = (Value.slice va n vc).ownBlock ∨ v5.ownBlock = none ∨ ∃ k, v5.ownBlock = some k ∧ w.heap.size ≤ k by
        rcases hbl with h | h
        · exact .inl h
        · exact .inr (.inr ⟨_, h, by have h9 := HT.out.size; (try simp only [World.size_setCell] at h9); (try simp only [World.size_alloc, World.size_setCell]); omega⟩))
      obtain ⟨ln, hln⟩ : ∃ ln : List UInt8, ln = [] ++ [x] := ⟨_, rfl⟩
      have hown : Own B w5 v5 ln := by rw [hln]; simpa using hown
      obtain ⟨na, nc, rfl, hnb⟩ := hown.val
      have hgr := grownBy_afterC (below_oneF (w.setCell ⟨g, 2, none⟩ (.int .i64 (t + 1))) (.cells #[.int .u8 (x.toNat : Int)] 5)) hgr
      have HC5 := Box.mk (HC.out.grownC hgr (fun e => by have := (HO.out.lt e.symm).1; omega))
      have HT5 := Box.mk (HT.out.trans (Touch.ofRow hgr g) (.inl rfl))
      have HO5 := Box.mk (hown.setC (g := g) (i := 3) (u := .slice na ln.length nc) hg)
      have HLN := Box.mk (show ln.length = n + 1 by rw [hln]; rw [HN.out]; rfl)
      have HLE := Box.mk hln
      have hl130 : ln.length ≤ 130 := by have := HLN.out; have := HN.out; omega
      clear hown hgr hbl hnb hln
      have hf5 := HC5.out.frozen (i := 3)
      obtain ⟨hb0, hb1, hb2, hb3⟩ := HC5.out.cells
      have HC6 := Box.mk (HC5.out.setV (u := .slice na ln.length nc))
      obtain ⟨hc0, hc1, hc2, hc3⟩ := HC6.out.cells
      have HT6 := Box.mk (HT5.out.trans (Touch.ofVar (grownBy_setC w5 g 3 (.slice na ln.length nc)) none) (.inr (.inl rfl)))
      by_cases hlong : 128 < ln.length ∧ ¬ x = 13
      · have h128 := hlong.1
        have HP := Box.mk (byteS_long (s := ⟨3, l, t, []⟩) (t := (t + 1)) hcr hx (by have h8 := hlong.1; rw [HLN.out, HN.out] at h8; exact h8) hlong.2)
        have e13 : ((x.toNat : Int) != 13) = true := by
          rw [bne_iff_ne]; intro e; exact hlong.2 (UInt8.toNat_inj.1 (by rw [show (13 : UInt8).toNat = 13 from rfl]; omega))
        clear hlong hx hcr
        go_wp2_with fail
        go_ret
        exact RetLine.err HP.out rfl (by decide) HT6.out
      · have HP := Box.mk (show byteS ⟨3, l, t, []⟩ (t + 1) x = (0, ⟨3, l, (t + 1), ln⟩) by
          rw [HLE.out]
          exact byteS_more hcr hx (fun h => hlong ⟨by rw [HLN.out, HN.out]; exact h.1, h.2⟩))
        by_cases h128 : 128 < ln.length
        · have e13 : ((x.toNat : Int) != 13) = false := by
            have hx13 : x = 13 := Decidable.byContradiction fun h => hlong ⟨h128, h⟩
            rw [hx13]; rfl
          clear hlong hx hcr
          go_wp2_with fail
          go_ret
          exact RetLine.ok HP.out rfl HC6.out HO5.out HBL.out HT6.out
        · clear hlong hx hcr
          go_wp2_with fail
          go_ret
          exact RetLine.ok HP.out rfl HC6.out HO5.out HBL.out HT6.out
  · have hnl : (m ++ [z]).length = m.length + 1 := by simp
    rw [hnl] at hc ho hl ⊢
    obtain ⟨ad, hva⟩ := isBytes_some hvb
    have hcap := own_cap hvb
    obtain ⟨ha0, ha1, ha2, ha3⟩ := hc.cells
    have hf2 := hc.frozen (i := 2)
    have HC := Box.mk (show CVar (w.setCell ⟨g, 2, none⟩ (.int .i64 (t + 1))) g 3 l (t + 1) (.slice va (m.length + 1) vc) from hc.setT)
    have HO := Box.mk (show Own B (w.setCell ⟨g, 2, none⟩ (.int .i64 (t + 1))) (.slice va (m.length + 1) vc) (m ++ [z]) from ho.setC hg)
    have HT := Box.mk (show Touch w (w.setCell ⟨g, 2, none⟩ (.int .i64 (t + 1))) g (Value.slice va (m.length + 1) vc).ownBlock from Touch.ofVar (grownBy_setC _ _ _ _) _)
    have hsz : B ≤ (w.setCell ⟨g, 2, none⟩ (.int .i64 (t + 1))).heap.size := by rw [World.size_setCell]; exact hB
    obtain ⟨hd0, hd1, hd2, hd3⟩ := HC.out.cells
    have hf3 := HC.out.frozen (i := 3)
    clear hc ho hvb
    have hcell := own_lastC (ad := ad) (z := z) (m := m) (c := vc) (w := (w.setCell ⟨g, 2, none⟩ (.int .i64 (t + 1)))) (by rw [← hva]; have h := HO.out.bytes2 (by simp); exact h)
    by_cases hz : z = 13
    · subst hz
      have hcell : ((w.setCell ⟨g, 2, none⟩ (.int .i64 (t + 1)))).cell? (ad.add m.length) = some (.int .u8 13) := hcell
      subst hva
      by_cases hx : x = 10
      · subst hx
        have HP0 := Box.mk (byteS_line (m := m) (p := 3) (l := l) (t0 := t) (t := (t + 1)))
        have hcv := conv_bytes (isBytes_front (HO.out.bytes2 (by simp)))
        have HY := Box.mk (show (⟨m.toArray⟩ : ByteArray).size ≤ 1000 by show m.toArray.size ≤ 1000; rw [List.size_toArray]; omega)
        generalize (⟨m.toArray⟩ : ByteArray) = y at *
        have HC2 := Box.mk (HC.out.setV (u := .slice none 0 0))
        generalize hR : lineS ⟨3, l, (t + 1), []⟩ y = R
        have HR := Box.mk hR
        clear hR
        rw [show (10 : UInt8).toNat = 10 from rfl]
        go_enter Tryd.func25, Tryd.ntmps25
        go_wp2_with fail
        refine (finishLine_any 3 l (t + 1) g y _ HC2.out (.inr (.inr rfl)) HY.out).mono ?_
        rintro e w3 ⟨he, h1, h2⟩
        rw [HR.out] at he h1
        subst he
        have H1 := Box.mk h1
        have HT3 := Box.mk ((HT.out.trans (Touch.ofVar (grownBy_setC (w.setCell ⟨g, 2, none⟩ (.int .i64 (t + 1))) g 3 (.slice none 0 0)) none) (.inr (.inl rfl))).trans (Touch.ofVar h2 none) (.inr (.inl rfl)))
        clear h1 h2 hcv
        go_wp2_with fail
        go_ret
        refine ⟨by rw [HP0.out, HR.out]; rfl, fun h0 => ?_, HT3.out⟩
        rw [HP0.out, HR.out] at h0 ⊢
        obtain ⟨h3, h4⟩ := H1.out h0
        exact ⟨.slice none 0 0, h3, by rw [h4]; exact Own.start _ _, .inr (.inl rfl)⟩
      · have HP := Box.mk (byteS_bad (s := ⟨3, l, t, m ++ [13]⟩) (t := (t + 1)) (by show crB (m ++ [13]) = true; rw [crB_app]; rfl) hx)
        have e10 : ((x.toNat : Int) == 10) = false := by
          rw [beq_eq_false_iff_ne]; intro e; exact hx (UInt8.toNat_inj.1 (by rw [show (10 : UInt8).toNat = 10 from rfl]; omega))
        clear hx
        go_enter Tryd.func25, Tryd.ntmps25
        go_wp2_with fail
        go_ret
        exact RetLine.err HP.out rfl (by decide) HT.out
    · have hcr : crB (m ++ [z]) = false := by rw [crB_app]; simpa using hz
      have ez : ((z.toNat : Int) == 13) = false := by
        rw [beq_eq_false_iff_ne]; intro e; exact hz (UInt8.toNat_inj.1 (by rw [show (13 : UInt8).toNat = 13 from rfl]; omega))
      clear hz
      by_cases hx : x = 10
      · subst hx
        subst hva
        have HP := Box.mk (byteS_ten (s := ⟨3, l, t, m ++ [z]⟩) (t := (t + 1)) hcr)
        clear hcr
        rw [show (10 : UInt8).toNat = 10 from rfl]
        go_enter Tryd.func25, Tryd.ntmps25
        go_wp2_with fail
        go_ret
        exact RetLine.err HP.out rfl (by decide) HT.out
      · subst hva
        have e10 : ((x.toNat : Int) == 10) = false := by
          rw [beq_eq_false_iff_ne]; intro e; exact hx (UInt8.toNat_inj.1 (by rw [show (10 : UInt8).toNat = 10 from rfl]; omega))
        go_enter Tryd.func25, Tryd.ntmps25
        go_wp2_with (at_builtin; refine wpList_append_ownb _ rfl _ _ rfl rfl (HO.out.keep (below_oneF (w.setCell ⟨g, 2, none⟩ (.int .i64 (t + 1))) (.cells #[.int .u8 (x.toNat : Int)] 5))) rfl (r := [x]) (by have h := isBytes_oneC (w.setCell ⟨g, 2, none⟩ (.int .i64 (t + 1))) x; rw [World.size_setCell] at h; exact h) (by simp; omega) (by simp; omega) ?_)
        intro v5 w5 hown hgr hbl
        have HBL := Box.mk (show v5.ownBlock = (Value.slice (some ad) (m.length + 1) vc).ownBlock ∨ v5.ownBlock = none ∨ ∃ k, v5.ownBlock = some k ∧ w.heap.size ≤ k by
          rcases hbl with h | h
          · exact .inl h
          · exact .inr (.inr ⟨_, h, by have h9 := HT.out.size; (try simp only [World.size_setCell] at h9); (try simp only [World.size_alloc, World.size_setCell]); omega⟩))
        obtain ⟨ln, hln⟩ : ∃ ln : List UInt8, ln = (m ++ [z]) ++ [x] := ⟨_, rfl⟩
        have hown : Own B w5 v5 ln := by rw [hln]; simpa using hown
        obtain ⟨na, nc, rfl, hnb⟩ := hown.val
        have hgr := grownBy_afterC (below_oneF (w.setCell ⟨g, 2, none⟩ (.int .i64 (t + 1))) (.cells #[.int .u8 (x.toNat : Int)] 5)) hgr
        have HC5 := Box.mk (HC.out.grownC hgr (fun e => by have := (HO.out.lt e.symm).1; omega))
        have HT5 := Box.mk (HT.out.trans (Touch.ofRow hgr g) (.inl rfl))
        have HO5 := Box.mk (hown.setC (g := g) (i := 3) (u := .slice na ln.length nc) hg)
        have HLN := Box.mk (show ln.length = (m.length + 1) + 1 by rw [hln]; simp)
        have HLE := Box.mk hln
        have hl130 : ln.length ≤ 130 := by have := HLN.out; omega
        clear hown hgr hbl hnb hln
        have hf5 := HC5.out.frozen (i := 3)
        obtain ⟨hb0, hb1, hb2, hb3⟩ := HC5.out.cells
        have HC6 := Box.mk (HC5.out.setV (u := .slice na ln.length nc))
        obtain ⟨hc0, hc1, hc2, hc3⟩ := HC6.out.cells
        have HT6 := Box.mk (HT5.out.trans (Touch.ofVar (grownBy_setC w5 g 3 (.slice na ln.length nc)) none) (.inr (.inl rfl)))
        by_cases hlong : 128 < ln.length ∧ ¬ x = 13
        · have h128 := hlong.1
          have HP := Box.mk (byteS_long (s := ⟨3, l, t, (m ++ [z])⟩) (t := (t + 1)) hcr hx (by have h8 := hlong.1; rw [HLN.out] at h8; simpa using h8) hlong.2)
          have e13 : ((x.toNat : Int) != 13) = true := by
            rw [bne_iff_ne]; intro e; exact hlong.2 (UInt8.toNat_inj.1 (by rw [show (13 : UInt8).toNat = 13 from rfl]; omega))
          clear hlong hx hcr
          go_wp2_with fail
          go_ret
          exact RetLine.err HP.out rfl (by decide) HT6.out
        · have HP := Box.mk (show byteS ⟨3, l, t, (m ++ [z])⟩ (t + 1) x = (0, ⟨3, l, (t + 1), ln⟩) by
            rw [HLE.out]
            exact byteS_more hcr hx (fun h => hlong ⟨by rw [HLN.out]; simpa using h.1, h.2⟩))
          by_cases h128 : 128 < ln.length
          · have e13 : ((x.toNat : Int) != 13) = false := by
              have hx13 : x = 13 := Decidable.byContradiction fun h => hlong ⟨h128, h⟩
              rw [hx13]; rfl
            clear hlong hx hcr
            go_wp2_with fail
            go_ret
            exact RetLine.ok HP.out rfl HC6.out HO5.out HBL.out HT6.out
          · clear hlong hx hcr
            go_wp2_with fail
            go_ret
            exact RetLine.ok HP.out rfl HC6.out HO5.out HBL.out HT6.out
theorem readLine_any (s : Chk) (x : UInt8) (g B : Nat) (v : Value) (w : World) (hc : CVar w g s.ph s.left s.tr v) (ho : Own B w v s.line) (hB : B ≤ w.heap.size) (hg : g < B) (hs : OkC s) (h1 : ¬ s.ph = 1) (h4 : ¬ s.ph = 4) :
    Calls Tryd.prog 25 #[.pointer (some ⟨g, 0, none⟩), .int .u8 x.toNat] w (RetLine w g B v (stepS s x)) := by
  have hl := hs.len
  have hph := hs.ph
  have hlf := hs.left h1
  have htr := hs.tr
  have ht0 := hs.tr0
  obtain ⟨p, l, t, ln⟩ := s
  simp only [] at hl hph hlf htr ht0 h1 h4 hc ho
  by_cases h3 : p = 3
  · subst h3
    by_cases ht : 1024 < t + 1
    · have e : stepS ⟨3, l, t, ln⟩ x = (3, zeroC) := by unfold stepS; simp [ht]
      rw [e]
      refine (readLine_full l t x g v w hc htr ht).mono ?_
      rintro e w' ⟨he, h⟩
      exact RetLine.err rfl he (by decide) h
    · have e : stepS ⟨3, l, t, ln⟩ x = byteS ⟨3, l, t, ln⟩ (t + 1) x := by unfold stepS; simp [ht]
      rw [e]
      exact readLine_3 l t ln x g B v w hc ho hB hg htr.1 (by omega) hl
  · have e : stepS ⟨p, l, t, ln⟩ x = byteS ⟨p, l, t, ln⟩ t x := by unfold stepS; simp [h3]
    rw [e]
    exact readLine_n p l t ln x g B v w hc ho hB hg (by
      have : p = 0 ∨ p = 2 := by omega
      rcases this with h | h
      · exact .inl ⟨h, hlf, ht0 (by omega)⟩
      · exact .inr h) hl
end Go.Proofs.YtbplpfcgmmflnaaDoor
namespace Go.Proofs.YtbplpfcgmmflnaaDoor
open Go.RowKit

theorem Own.grown {B : Nat} {w w' : World} {v : Value} {l : List UInt8} {row : Option Nat} (h : Own B w v l) (hg : w.grownBy w' row) (hne : ∀ k, v.ownBlock = some k → some k ≠ row) : Own B w' v l :=
  h.same fun k hk => hg.block k (h.lt hk).2 (hne k hk)
end Go.Proofs.YtbplpfcgmmflnaaDoor
