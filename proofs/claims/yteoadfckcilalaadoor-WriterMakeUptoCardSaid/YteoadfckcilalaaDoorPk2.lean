/- Contracts of strconv.FormatInt at base 16, and of the functions of package number that write a number. SameReply and SameRequest of the reference, at equal messages; FormatRequest and FormatStatus of package startline. A slice of bytes of the call's own, beside other memory: what an append leaves alone. The reference's ParseRequest. The reference's FormatRequest and FormatReply. The request that the source makes: what is said of it. The request that the source makes. A slice of bytes in a block of the call's own that may bear the mark of a conversion: append in place, one byte stored. Sizes of what the source makes; local laws for wire. FormatStatus of package startline; the law LineStatus. The law LineFormat. Package head: FormatRequest, FormatReply. A region that draws its order, in phases, where an operation may read a slot that a later one writes. Messages that are written and read again: plain mathematics (reasons, the head of a text reply). Chunked bodies: the state of the decoder, one byte, many bytes. The reference's Feed. The reference's Encode. Opening a slice of numbers; the tables out of the listed variables. Writing messages: the table of reasons; Reason, Make and Text of package writer; awake of the laws. Writing messages: a formatted head that the caller may append to; join; Request and Reply of package writer and of the reference. The reader of messages: its state, what Next does. The reference's reader: a chunked body. The project's reader: variables, what a method leaves alone; copies of slices. awake of the laws on framing. The law FramingReply. What the law FramingNoSmuggling wants: fields that no rule on frames names, fields that contradict each other; appends of whole slices. The project's reader: readChunks: errors. Regions of the laws that call Next. -/
import Derived.Test.YteoadfckcilalaaDoorPk1
import Derived.Test.YteoadfckcilalaaDoorRows
import Derived.WalkKit
import Derived.WalkSpells
import Derived.WalkLawsBesides
import Derived.BigQuiet
import Derived.Deep.QuietTactic
import Derived.Lib.Bytealg
import Derived.Lib.IndexLaws
import Derived.Lib.Hide
import Derived.Lib.ItoaMem
import Derived.IntWalk
import Derived.Laws.Concat
import Derived.Laws.IdiomStrings
import Derived.Deep.AppendLies
import Derived.Shelf.Strings.SlTrimAscii
import Derived.Shelf.Strings.SplitShaped
import Derived.Shelf.LaysM
import Derived.Shelf.Strings.BuilderK
import Derived.Shelf.Strconv.Itoa4
import Derived.Shelf.Strings.Prefix
import Derived.Shelf.Bytes.SlIndexWhole
import Derived.Test.YteoadfckcilalaaDoorProg
import Derived.Sort.Grow
import Derived.Lib.SlTrimSet
import Derived.Lib.IndexBytes
import Derived.Lib.Split
import Derived.Lib.SplitLaws
import Derived.WalkSmall
import Derived.ProofKit
import Derived.OpenShut
import Derived.Lib.Strings
import Derived.SliceStrings
import Derived.Deep.Quiet
import Derived.Tactics
import Derived.KernelRfl
import Derived.Below
import Derived.Laws.Bits64
import Derived.Lib.SlBytesConst
import Derived.Maps.AppendAt
import Derived.Laws.AppendOwnNone
import Derived.Great.BuildSlice
import Derived.Laws.Rows
import Derived.Laws.BitsAllLaws
import Derived.Laws.Shifts
import Derived.Maps.OwnOps
import Derived.Maps.OwnSet
import Derived.Deep.SlicePairs
import Derived.Lib.AppendZerosOnto
import Derived.Lib.AppendStr
import Derived.Laws.CopyOwn
import Derived.OwnWalk
import Derived.Laws.Strings3
import Derived.Laws.RangeAny
import Derived.LoopTactic
import Derived.Lib.ConvBytes
import Derived.Lib.LaidTab
import Derived.LaidSub
import Derived.Laws.Bits64b
import Derived.Deep.DeepCutAuto
import Derived.Deep.CutBlock
import Derived.Lib.FrozenHead2
import Derived.Deep.RegionHeld3
import Derived.Deep.Matrix
import Derived.MakeChecks
import Derived.Deep.MidRow
import Derived.Laws.Tables
import Derived.Deep.WholeRow
import Derived.StillTailTactics
import Derived.Lib.LazyBuf
import Derived.ArgAppend
namespace Go.Proofs.YteoadfckcilalaaDoor
open Go.RowKit

/-- What the tables of the library hold, as far as it is read here. -/
def Tabs (w : World) : Prop := Lib.TabIs Tryd.prog w "internal/strconv.uint64pow10" .u64 Lib.pow10Tab ∧ w.cell? ⟨3, 15, none⟩ = some (.int .u8 4) ∧ 1 < w.heap.size

set_option maxHeartbeats 400000 in
theorem tz64_16 (w : World) (h : w.cell? ⟨3, 15, none⟩ = some (.int .u8 4)) :
    Calls Tryd.prog 49 #[.int .u64 16] w fun e w' => e = .returned (.int .i64 4) ∧ w = w' := by
  go_enter Tryd.func49, Tryd.ntmps49
  have b1 : bits BinOp.and IntKind.u64 16 (IntKind.u64.wrap (-16)) = 16 := by kernel_rfl
  have b2 : IntKind.u64.wrap (16 * 285870213051353865) = 4573923408821661840 := by kernel_rfl
  go_wp2
  go_ret
  exact ⟨rfl, rfl⟩

set_option maxHeartbeats 400000 in
theorem tz16_any (w : World) (h : w.cell? ⟨3, 15, none⟩ = some (.int .u8 4)) :
    Calls Tryd.prog 44 #[.int .u64 16] w fun e w' => e = .returned (.int .i64 4) ∧ w = w' := by
  go_enter Tryd.func44, Tryd.ntmps44
  go_wp2_with (go_at_call 49; refine (tz64_16 _ h).mono ?_; rintro e w' ⟨rfl, rfl⟩)
  go_ret
  exact ⟨rfl, rfl⟩

set_option maxHeartbeats 400000 in
theorem pow2_16 (w : World) :
    Calls Tryd.prog 43 #[.int .i64 16] w fun e w' => e = .returned (.bool true) ∧ w = w' := by
  go_enter Tryd.func43, Tryd.ntmps43
  go_wp2
  go_ret
  exact ⟨rfl, rfl⟩

theorem ret_sl_str {a b : ByteArray} {v : Value} (h : a = b) : Ending.returned (.tuple #[v, .string a]) = .returned (.tuple #[v, .string b]) := by rw [h]

def zs65 : Array Value := Array.replicate 65 (.int .u8 0)
theorem zs65_at (j : Nat) (h : j < 65) : zs65[j]? = some (.int .u8 0) := by unfold zs65; rw [Array.getElem?_replicate, if_pos h]
theorem zs65_ne : ¬ zs65 = #[] := by intro h; have := congrArg Array.size h; simp [zs65] at this
theorem zs65_zero (w : World) : (zeroValue 75).run Tryd.prog w = .ok (.agg zs65) w := by kernel_rfl
theorem pow_bd {k n u : Nat} (h : k * 16 ^ n ≤ u) (hu : u < 9223372036854775808) (hk : 1 ≤ k) : n ≤ 15 := by
  rcases Nat.lt_or_ge 15 n with hn | hn
  · have h1 : 16 ^ 16 ≤ 16 ^ n := Nat.pow_le_pow_right (by omega) hn
    have h2 : 16 ^ n ≤ k * 16 ^ n := Nat.le_mul_of_pos_left _ hk
    have h3 : (16 : Nat) ^ 16 = 18446744073709551616 := by decide
    omega
  · exact hn

/-- The block holds 65 bytes, the last of which are t. -/
def Tail (w0 w : World) (i : Nat) (t : List UInt8) : Prop := ∃ l : List UInt8, l.length = 65 ∧ BytesAt w w0.heap.size l ∧ l.drop i = t ∧ Below w0.heap.size w0 w

def dig36 : ByteArray := ⟨#[48, 49, 50, 51, 52, 53, 54, 55, 56, 57, 97, 98, 99, 100, 101, 102, 103, 104, 105, 106, 107, 108, 109, 110, 111, 112, 113, 114, 115, 116, 117, 118, 119, 120, 121, 122]⟩
theorem dig36_fin : ∀ d : Fin 16, dig36.data.toList[d.val]? = some (dgc d.val) := by decide +kernel
theorem dig36_at {d : Nat} (h : d < 16) (hd : d < dig36.size) : dig36[d]'hd = dgc d := by
  have h1 := dig36_fin ⟨d, h⟩
  have h2 : dig36.data.toList[d]? = some (dig36[d]'hd) := by
    have hs : d < dig36.data.toList.length := by simpa using hd
    rw [List.getElem?_eq_getElem hs]; rfl
  rw [h2] at h1; exact Option.some.inj h1
theorem Tail.cell {w0 w : World} {i : Nat} {t : List UInt8} (h : Tail w0 w i t) {j : Nat} (hj : j < 65) : ∃ v, w.cell? ⟨w0.heap.size, j, none⟩ = some v ∧ w.frozen? ⟨w0.heap.size, j, none⟩ = false := by
  obtain ⟨l, h1, h2, _⟩ := h
  obtain ⟨a, b⟩ := h2 j (by omega)
  exact ⟨_, a, b⟩
theorem Tail.put {w0 w : World} {i : Nat} {t : List UInt8} (h : Tail w0 w i t) (hi : 1 ≤ i) (hi2 : i ≤ 65) (c : UInt8) :
    Tail w0 (w.setCell ⟨w0.heap.size, i - 1, none⟩ (.int .u8 (c.toNat : Int))) (i - 1) (c :: t) := by
  obtain ⟨l, h1, h2, h3, h4⟩ := h
  refine ⟨l.set (i - 1) c, by simp [h1], h2.set (by omega) c, ?_, h4.setCell (Nat.le_refl _) _⟩
  rw [List.drop_eq_getElem_cons (by rw [List.length_set]; omega), List.getElem_set_self, show i - 1 + 1 = i by omega, List.drop_set_of_lt (by omega), h3]

theorem Tail.read {w0 w : World} {i : Nat} {t : List UInt8} (h : Tail w0 w i t) {j : Nat} (hj : j < t.length) : w.cell? ⟨w0.heap.size, i + j, none⟩ = some (.int .u8 (t[j].toNat : Int)) := by
  obtain ⟨l, h1, h2, h3, h4⟩ := h
  subst h3
  have hj' : i + j < l.length := by simp at hj; omega
  rw [(h2 (i + j) hj').1, List.getElem_drop]

set_option maxRecDepth 100000 in
set_option maxHeartbeats 1000000 in
theorem formatBits16 (u : Nat) (w : World) (hu : u < 9223372036854775808) (h : w.cell? ⟨3, 15, none⟩ = some (.int .u8 4)) :
    Calls Tryd.prog 35 #[.slice none 0 0, .int .u64 u, .int .i64 16, .bool false, .bool false] w fun e w' => e = .returned (.tuple #[.slice none 0 0, .string (numeral 16 u)]) ∧ Below w.heap.size w w' := by
  have hlt := lt_cell h
  have hz := zs65_zero
  have hne := zs65_ne
  have HT : Hid (Tail w (w.alloc (.cells zs65 75)) 65 []) := by
    refine Lib.hid ⟨List.replicate 65 0, by simp, ?_, by simp, (Below.refl _ _).alloc (Nat.le_refl _) _⟩
    intro j hj
    have hj' : j < 65 := by simpa using hj
    refine ⟨?_, World.frozen?_alloc_new _ _ _ _⟩
    rw [World.cell?_alloc_new, zs65_at j hj', List.getElem_replicate]; rfl
  have hc : (w.alloc (.cells zs65 75)).cell? ⟨3, 15, none⟩ = some (.int .u8 4) := by rw [World.cell?_alloc_past _ _ _ hlt]; exact h
  have HC := Lib.hid hc
  clear hc h
  go_enter Tryd.func35, Tryd.ntmps35
  go_wp2_with (first | (go_at_call 43; refine (pow2_16 _).mono ?_; rintro e w' ⟨rfl, rfl⟩) | (go_at_call 44; refine (tz16_any _ HC.out).mono ?_; rintro e w' ⟨rfl, rfl⟩))
  go_loopw [1, 13] (fun x y wr => ∃ (k i : Nat) (t : List UInt8), x = .int .u64 k ∧ y = .int .i64 i ∧ t.length + i = 65 ∧ k ≤ u ∧ Hid (k * 16 ^ t.length ≤ u ∧ (t = [] ∨ 1 ≤ k) ∧ digs 16 u = digs 16 k ++ t ∧ Tail w wr i t)) (fun x _ _ => (intOf x).toNat)
  case atStart => exact ⟨u, 65, [], rfl, rfl, by simp, Nat.le_refl _, Lib.hid ⟨by simp, .inl rfl, by simp, HT.out⟩⟩
  case round =>
    obtain ⟨k, i, t, rfl, rfl, hi, hk, HH⟩ := hrel
    have h1 := HH.out.1
    have h15 : t.length ≤ 15 := by
      rcases HH.out.2.1 with e | e
      · rw [e]; simp
      · exact pow_bd h1 hu e
    clear h1
    obtain ⟨v, hcell, hfz⟩ := HH.out.2.2.2.cell (j := i - 1) (by omega)
    have hx : ∀ d (hd16 : d < 16) hd, (⟨#[48, 49, 50, 51, 52, 53, 54, 55, 56, 57, 97, 98, 99, 100, 101, 102, 103, 104, 105, 106, 107, 108, 109, 110, 111, 112, 113, 114, 115, 116, 117, 118, 119, 120, 121, 122]⟩ : ByteArray)[d]'hd = dgc d := fun d hd16 hd => dig36_at hd16 hd
    by_cases h16 : 16 ≤ k
    · obtain ⟨d, hd⟩ : ∃ d : Nat, k % 16 = d := ⟨_, rfl⟩
      have hd9 : d < 16 := by omega
      have hb : bits BinOp.and IntKind.u64 (k : Int) 15 = (d : Int) := by
        rw [show (15 : Int) = ((15 : Nat) : Int) from rfl, bits_and_u64_nat _ _ (by omega) (by omega), ← hd]
        congr 1
        exact Nat.and_two_pow_sub_one_eq_mod k 4
      have HD := Lib.hid hd
      have hxd := hx d hd9
      clear hd hx
      go_wp2
      all_goals go_roundw
      case rel =>
        obtain ⟨a1, a2, a3, a4⟩ := HH.out
        have hd := HD.out
        refine ⟨k / 16, i - 1, dgc d :: t, congrArg (Value.int .u64) (by omega), congrArg (Value.int .i64) (by omega), by simp; omega, by omega, Lib.hid ⟨?_, .inr (by omega), ?_, a4.put (by omega) (by omega) _⟩⟩
        · rw [List.length_cons, Nat.pow_succ, ← Nat.mul_assoc, Nat.mul_right_comm]
          exact Nat.le_trans (Nat.mul_le_mul_right _ (by omega)) a1
        · rw [a3, digs_big (by omega) (show ¬ k < 16 by omega), hd]; simp
      case measure => simp [intOf]; omega
    · have hk16 : k < 16 := by omega
      have hxd := hx k hk16
      clear hx
      have hal : Tryd.prog.arrayLen 75 = 65 := by simp [Program.arrayLen, Tryd.underlying75]
      have hsl : ∀ W, (Instr.sliceAt 75 (.pointer (some ⟨w.heap.size, 0, none⟩)) (some (.int .i64 ((i : Int) - 1))) none none).run Tryd.prog W = .ok (.slice (some ⟨w.heap.size, i - 1, none⟩) (t.length + 1) (t.length + 1)) W := fun W => by
        rw [run_sliceAt_array_l W 75 ⟨w.heap.size, 0, none⟩ (by simp [Program.arrayLen, Program.elem, Tryd.underlying75]) .i64 _ (by omega) (by rw [hal]; omega)]
        go_simp
        omega
      have hT := HH.out.2.2.2.put (by omega) (by omega) (dgc k)
      have hcv : (convert 26 9 (.slice (some ⟨w.heap.size, i - 1, none⟩) (t.length + 1) (t.length + 1))).run Tryd.prog (wr.setCell ⟨w.heap.size, i - 1, none⟩ (.int .u8 ((dgc k).toNat : Int))) = .ok (.string ⟨(dgc k :: t).toArray⟩) (wr.setCell ⟨w.heap.size, i - 1, none⟩ (.int .u8 ((dgc k).toNat : Int))) :=
        run_convert_bytes_back (P := Tryd.prog) _ 26 9 5 ⟨w.heap.size, i - 1, none⟩ (t.length + 1) (dgc k :: t) Tryd.underlying26 Tryd.underlying5 Tryd.underlying9 (fun j hj => by rw [Lib.add_plain]; exact hT.read hj)
      have HT := Lib.hid hT
      clear hT hal
      go_wp2
      go_ret2
      obtain ⟨a1, a2, a3, a4⟩ := HH.out
      obtain ⟨_, _, _, _, hb⟩ := HT.out
      refine ⟨ret_sl_str ?_, hb⟩
      unfold numeral
      rw [a3, digs_small hk16]; rfl

theorem grow_below (w : World) (os : Array Obj) : Below w.heap.size w (Sort.grow w os) :=
  ⟨rfl, rfl, rfl, by simp [Sort.grow], fun k hk => by simp [Sort.grow, Array.getElem?_append_left hk]⟩

set_option maxHeartbeats 1000000 in
theorem formatInt16 (u : Nat) (w : World) (hu : u < 9223372036854775808) (h : w.cell? ⟨3, 15, none⟩ = some (.int .u8 4)) :
    Calls Tryd.prog 23 #[.int .i64 u, .int .i64 16] w fun e w' => e = .returned (.string (numeral 16 u)) ∧ Below w.heap.size w w' := by
  have HC := Lib.hid h
  clear h
  have h1 : Calls Tryd.prog 27 #[.int .i64 u, .int .i64 16] w fun e w' => e = .returned (.string (numeral 16 u)) ∧ Below w.heap.size w w' := by
    have hwr : IntKind.u64.wrap (u : Int) = (u : Int) := by rw [IntKind.wrap_u64]; omega
    go_enter Tryd.func27, Tryd.ntmps27
    go_wp2_with (go_at_call 35; refine (formatBits16 u _ hu HC.out).mono ?_; rintro e w' ⟨rfl, hb⟩)
    go_ret
    exact ⟨rfl, hb⟩
  go_enter Tryd.func23, Tryd.ntmps23
  go_wp2_with (go_at_call 27; refine h1.mono ?_; rintro e w' ⟨rfl, hb⟩)
  go_ret
  exact ⟨rfl, hb⟩

theorem formatInt10 (u : Nat) (w : World) (hu : u < 9223372036854775808) (h : Lib.TabIs Tryd.prog w "internal/strconv.uint64pow10" .u64 Lib.pow10Tab) :
    Calls Tryd.prog 23 #[.int .i64 u, .int .i64 10] w fun e w' => e = .returned (.string (numeral 10 u)) ∧ Below w.heap.size w w' := by
  refine (Any.strconv_FormatInt_10 Tryd.laysM173 (u : Int) (by omega) (by omega) w h).mono ?_
  rintro e w' ⟨rfl, k, os, rfl⟩
  refine ⟨ret_str ?_, (below_drewN0 w k).trans (show Below w.heap.size (w.drewN k) _ from grow_below (w.drewN k) os)⟩
  unfold numeral
  rw [digs_dec, Lib.itoa_nonneg]

theorem format_any (n : Int) (b : Int) (w : World) (hb : b = 10 ∨ b = 16) (h0 : -9223372036854775808 ≤ n) (h1 : n ≤ 9223372036854775807) (ht : Tabs w) :
    Calls Tryd.prog 18 #[.int .i64 n, .int .i64 b] w fun e w' => e = .returned (.string (fmtS b.toNat n)) ∧ Below w.heap.size w w' := by
  by_cases hn : n < 0
  · go_enter Tryd.func18, Tryd.ntmps18
    go_wp2
    go_ret
    exact ⟨ret_str (by unfold fmtS; rw [if_pos hn]), Below.refl _ _⟩
  · obtain ⟨u, rfl⟩ : ∃ u : Nat, n = u := ⟨n.toNat, by omega⟩
    obtain ⟨t1, t2, t3⟩ := ht
    have T1 := Lib.hid t1
    have T2 := Lib.hid t2
    clear t1 t2
    rcases hb with rfl | rfl
    · go_enter Tryd.func18, Tryd.ntmps18
      go_wp2_with (go_at_call 23; refine (formatInt10 u _ (by omega) T1.out).mono ?_; rintro e w' ⟨rfl, hb⟩)
      go_ret
      exact ⟨ret_str (by unfold fmtS; rw [if_neg (by omega)]; rfl), hb⟩
    · go_enter Tryd.func18, Tryd.ntmps18
      go_wp2_with (go_at_call 23; refine (formatInt16 u _ (by omega) T2.out).mono ?_; rintro e w' ⟨rfl, hb⟩)
      go_ret
      exact ⟨ret_str (by unfold fmtS; rw [if_neg (by omega)]; rfl), hb⟩

theorem decimal_any (n : Int) (w : World) (h0 : -9223372036854775808 ≤ n) (h1 : n ≤ 9223372036854775807) (ht : Tabs w) :
    Calls Tryd.prog 14 #[.int .i64 n] w fun e w' => e = .returned (.string (fmtS 10 n)) ∧ Below w.heap.size w w' := by
  have HT := Lib.hid ht
  clear ht
  go_enter Tryd.func14, Tryd.ntmps14
  go_wp2_with (go_at_call 18; refine (format_any _ _ _ (.inl rfl) h0 h1 HT.out).mono ?_; rintro e w' ⟨rfl, hb⟩)
  go_ret
  exact ⟨rfl, hb⟩
theorem tabs_below {w w' : World} (h : Tabs w) (hb : Below w.heap.size w w') : Tabs w' := by
  obtain ⟨h1, h2, h3⟩ := h
  refine ⟨?_, below_cell hb h2, Nat.lt_of_lt_of_le h3 hb.size⟩
  have hg : Tryd.prog.globalNamed "internal/strconv.uint64pow10" = some 1 := by kernel_rfl
  unfold Lib.TabIs World.var? at *
  rw [hg] at h1 ⊢
  simp only [Option.bind_some] at h1 ⊢
  rw [hb.block _ h3]; exact h1
end Go.Proofs.YteoadfckcilalaaDoor
namespace Go.Proofs.YteoadfckcilalaaDoor
open Go.RowKit

theorem cellTwo0 (w : World) (cs ds : Array Value) (t s : TypeId) (j : Nat) : ((w.alloc (.cells cs t (0, 0))).alloc (.cells ds s (0, 0))).cell? ⟨w.heap.size, j, none⟩ = cs[j]? := by
  have h1 : (w.alloc (.cells cs t (0, 0))).heap[w.heap.size]? = some (.cells cs t (0, 0)) := heap_alloc_new _ _
  have h2 := (below_oneF (w.alloc (.cells cs t (0, 0))) (.cells ds s (0, 0))).block w.heap.size (by rw [World.size_alloc]; omega)
  exact cell_of_row _ _ _ _ _ _ (h2.trans h1)

set_option maxRecDepth 100000 in
set_option maxHeartbeats 2000000 in
theorem sameRep_any (st z : Int) (r : ByteArray) (x : List Fld) (l : List UInt8) (a b p q : Option Addr) (ca cb cp cq : Nat) (w : World) (h1 : FldsIn w a x) (h2 : FldsIn w b x) (h3 : IsBytes w p l cp) (h4 : IsBytes w q l cq) (hx : x.length ≤ 2000000) :
    Calls Tryd.prog 5 #[.agg #[.int .i64 st, .string r, .int .i64 z, .slice a x.length ca, .slice p l.length cp], .agg #[.int .i64 st, .string r, .int .i64 z, .slice b x.length cb, .slice q l.length cq]] w fun e w' => e = .returned (.bool true) ∧ Below w.heap.size w w' := by
  have HBW := Box.mk (below_twoF (below_oneF w (.cells #[.int .i64 st, .string r, .int .i64 z, .slice a x.length ca, .slice p l.length cp] 28)) (.cells #[.int .i64 st, .string r, .int .i64 z, .slice b x.length cb, .slice q l.length cq] 28))
  have hd4 := cellTwo0 w #[.int .i64 st, .string r, .int .i64 z, .slice a x.length ca, .slice p l.length cp] #[.int .i64 st, .string r, .int .i64 z, .slice b x.length cb, .slice q l.length cq] 28 28 4
  have he4 := new_cellF2 w (.cells #[.int .i64 st, .string r, .int .i64 z, .slice a x.length ca, .slice p l.length cp] 28) #[.int .i64 st, .string r, .int .i64 z, .slice b x.length cb, .slice q l.length cq] 28 4
  have HC := Box.mk (And.intro hd4 he4)
  have H := Box.mk (And.intro (h1.keep HBW.out) (And.intro (h2.keep HBW.out) (And.intro (h3.keep HBW.out) (h4.keep HBW.out))))
  clear h1 h2 h3 h4 hd4 he4
  go_enter Tryd.func5, Tryd.ntmps5
  go_wp2_with fail
  refine (same_true x a b ca cb _ H.out.1 H.out.2.1 hx).mono ?_
  rintro e w1 ⟨rfl, hb1⟩
  have hc4 := below_cell hb1 (show _ = some (Value.slice p l.length cp) from HC.out.1)
  have he4 := below_cell hb1 (show _ = some (Value.slice q l.length cq) from HC.out.2)
  have hcv1 := conv_bytes (H.out.2.2.1.keep hb1)
  have hcv2 := conv_bytes (H.out.2.2.2.keep hb1)
  have HB := Box.mk (below_trans HBW.out hb1)
  clear hb1 H HC HBW
  generalize (⟨l.toArray⟩ : ByteArray) = bs at *
  have hself : (bs.toList == bs.toList) = true := by simp
  go_wp2_with fail
  go_ret
  exact ⟨rfl, HB.out⟩

theorem versionS_dec {z : Int} (h0 : 0 ≤ z) (h1 : z ≤ 1) : ⟨#[32]⟩ ++ versionS z = http1 ++ fmtS 10 z ∧ versionS z = http0 ++ fmtS 10 z := by
  have : z = 0 ∨ z = 1 := by omega
  rcases this with rfl | rfl
  · decide +kernel
  · decide +kernel
theorem versionS_size {z : Int} (h0 : 0 ≤ z) (h1 : z ≤ 1) : (versionS z).size = 8 := by
  have : z = 0 ∨ z = 1 := by omega
  rcases this with rfl | rfl <;> rfl
theorem versionS_no {z : Int} (h : ¬ (0 ≤ z ∧ z ≤ 1)) : versionS z = ⟨#[]⟩ := by
  unfold versionS; rw [if_neg (by omega), if_neg (by omega)]
theorem isEmpty_no {s : ByteArray} (h : 0 < s.size) : s.toList.isEmpty = false := by
  rw [toList_isEmpty]
  cases hq : s.data with
  | mk l => cases l with
    | nil => have : s.size = 0 := by show s.data.size = 0; rw [hq]; rfl
             omega
    | cons _ _ => rfl
end Go.Proofs.YteoadfckcilalaaDoor
namespace Go.Proofs.YteoadfckcilalaaDoor
open Go.RowKit

theorem cell_same {w w' : World} {p : Addr} (h : w'.heap[p.block]? = w.heap[p.block]?) : w'.cell? p = w.cell? p := by
  unfold World.cell?
  rw [h]
theorem add_block (x : Addr) (j : Nat) : (x.add j).block = x.block := by unfold Addr.add; split <;> rfl
theorem IsBytes.same {w w' : World} {a : Option Addr} {l : List UInt8} {c : Nat} (h : IsBytes w a l c) (hs : ∀ x, a = some x → l ≠ [] → w'.heap[x.block]? = w.heap[x.block]?) : IsBytes w' a l c := by
  rcases h with h | ⟨x, h1, h2, h3, h4⟩
  · exact .inl h
  · refine .inr ⟨x, h1, h2, h3, fun j hj => ?_⟩
    have e : w'.heap[(x.add j).block]? = w.heap[(x.add j).block]? := by
      rw [add_block]
      exact hs x h1 (fun e => by rw [e] at hj; exact absurd hj (Nat.not_lt_zero _))
    rw [cell_same e]
    exact h4 j hj
theorem IsBytes.lt {w : World} {x : Addr} {l : List UInt8} {c : Nat} (h : IsBytes w (some x) l c) (hl : l ≠ []) : x.block < w.heap.size := by
  rcases h with ⟨h, _⟩ | ⟨y, h1, h2, h3, h4⟩
  · cases h
  · obtain rfl := Option.some.inj h1
    have h0 : 0 < l.length := List.length_pos_iff.2 hl
    have := h4 0 h0
    have h5 := World.block_lt_of_cell? w _ this
    rw [add_block] at h5; exact h5
section
variable {ops : Array Oper} {rest : List Oper} {o : Oper} {act : Act} {Q : Exit → Act → World → Prop}
end
end Go.Proofs.YteoadfckcilalaaDoor
namespace Go.Proofs.YteoadfckcilalaaDoor
open Go.RowKit

theorem FldsIn.same {w w' : World} {a : Option Addr} {l : List Fld} (h : FldsIn w a l) (hs : ∀ y, a = some y → w'.heap[y.block]? = w.heap[y.block]?) : FldsIn w' a l := fun j hj => by
  obtain ⟨x, e, h1, h2⟩ := h j hj
  have hx := hs x e
  exact ⟨x, e, (cell_same (w := w) (w' := w') (by rw [add_block]; exact hx)).trans h1, (cell_same (w := w) (w' := w') (by rw [add_block]; exact hx)).trans h2⟩
end Go.Proofs.YteoadfckcilalaaDoor
namespace Go.Proofs.YteoadfckcilalaaDoor
open Go.RowKit

/-- The bytes of a head with the start line s and the fields x; none if one of them cannot be written. -/
def headB (s : ByteArray) (x : List Fld) : List UInt8 := if s.size = 0 ∨ allB x = false then [] else s.data.toList ++ [13, 10] ++ linesB x ++ [13, 10]
theorem headB_no {s : ByteArray} {x : List Fld} (h : s.size = 0 ∨ allB x = false) : headB s x = [] := by unfold headB; rw [if_pos h]
theorem headB_yes {s : ByteArray} {x : List Fld} (h : ¬ s.size = 0) (h2 : allB x = true) : headB s x = s.data.toList ++ [13, 10] ++ linesB x ++ [13, 10] := by
  unfold headB
  rw [if_neg (fun e => e.elim h (fun e => by rw [h2] at e; cases e))]
theorem empty_s {y : ByteArray} (h : y.size = 0) : y.toList.isEmpty = true := by
  rw [ByteArray.toList_eq, List.isEmpty_iff, ← List.length_eq_zero_iff, Array.length_toList]; exact h
theorem full_s {y : ByteArray} (h : ¬ y.size = 0) : y.toList.isEmpty = false := by
  rw [← Bool.not_eq_true, ByteArray.toList_eq, List.isEmpty_iff, ← List.length_eq_zero_iff, Array.length_toList]; exact h
end Go.Proofs.YteoadfckcilalaaDoor
namespace Go.Proofs.YteoadfckcilalaaDoor
open Go.RowKit

theorem OwnF.mono {B B' : Nat} {w : World} {v : Value} {l : List Fld} (h : OwnF B w v l) (hb : B' ≤ B) : OwnF B' w v l := by
  obtain ⟨h1, h2⟩ := h
  refine ⟨h1, ?_⟩
  rcases h2 with h2 | ⟨g, cap, cur, hv, hg, hc, r⟩
  · exact .inl h2
  · exact .inr ⟨g, cap, cur, hv, Nat.le_trans hb hg, hc, r⟩
end Go.Proofs.YteoadfckcilalaaDoor
namespace Go.Proofs.YteoadfckcilalaaDoor
open Go.RowKit

def Spec.nope : Spec := ⟨fun _ _ => False, fun _ _ _ h _ => h⟩
section
variable {Q : Exit → Act → World → Prop} {act : Act} {w : World} {o : Oper} {s : Spec} {K : Act → World → Prop}
theorem chain_call {f : FuncId} {args : List Operand} {ts : Array TypeId} {P : Program} (ho : o.op = .call { callee := .value (.func f), args := args.toArray, argTypes := ts })
    (hf : (P.funcs[f]?).map (fun fn => fn.name != "runtime.NumGoroutine" && fn.body.isSome) = some true) (h : Calls P f (args.map act.eval).toArray w fun e w' => ∃ v, e = .returned v ∧ K (act.put o.dst v) w') : o.wp P act w K Q := by
  have hrun : (execOp act.eval o).run P w = .ok (.enter f (args.map act.eval).toArray) w := by
    unfold execOp; rw [ho]
    cases hfn : P.funcs[f]? with
    | none => rw [hfn] at hf; cases hf
    | some fn =>
      rw [hfn] at hf
      simp only [Option.map_some, Option.some.injEq, Bool.and_eq_true, bne_iff_ne, ne_eq] at hf
      have hb : fn.body ≠ none := fun e => by rw [e] at hf; exact absurd hf.2 (by simp)
      simp [resolve, Deferred.ofValue, invoke, callFunc, show act.eval (.func f) = .func (.func f) #[] #[] from rfl, hfn, hf.1, hb]
  unfold Oper.wp
  rw [hrun, Oper.upon_enter]
  refine h.mono ?_
  rintro e w' ⟨v, rfl, hk⟩
  exact hk
end

theorem agg_fields (w : World) : (isAgg 22).run Tryd.prog w = .ok false w := by
  unfold isAgg; rw [Sem.run_bind, run_underlying Tryd.underlying22 w]; rfl
end Go.Proofs.YteoadfckcilalaaDoor
namespace Go.Proofs.YteoadfckcilalaaDoor
open Go.RowKit

/-- The block's frozen stretch lies behind its last cell, or there is none. -/
def NoFz (n : Nat) (fz : Nat × Nat) : Prop := fz.2 = 0 ∨ n ≤ fz.1
theorem noFz_frozen {w : World} {g i : Nat} {cur : Array Value} {t : TypeId} {fz : Nat × Nat} (hg : w.heap[g]? = some (.cells cur t fz)) (hf : NoFz cur.size fz) (hi : i < cur.size) : w.frozen? ⟨g, i, none⟩ = false := by
  obtain ⟨lo, hi'⟩ := fz
  simp only [World.frozen?, hg, Bool.and_eq_false_iff, decide_eq_false_iff_not]
  rcases hf with h | h
  · right; simp only at h; omega
  · left; simp only at h; omega
theorem run_storeCells_atM (P : Program) (g o : Nat) (t : TypeId) (fz : Nat × Nat) : ∀ (vs : List Value) (i : Nat) (cur : Array Value) (w : World), w.heap[g]? = some (.cells cur t fz) → NoFz cur.size fz → o + i + vs.length ≤ cur.size → (∀ v ∈ vs, v.oneCell' = true) →
    (storeCells ⟨g, o, none⟩ vs i).run P w = .ok () (w.setRow g (cur.toList.take (o + i) ++ vs ++ cur.toList.drop (o + i + vs.length)).toArray)
  | [], i, cur, w, hg, _, _, _ => by
    simp only [storeCells, List.append_nil, List.length_nil, Nat.add_zero, List.take_append_drop, Array.toArray_toList]
    rw [setRow_self w g cur t fz hg]
    rfl
  | v :: rest, i, cur, w, hg, hfz, hl, h1 => by
    have hi : o + i < cur.size := by simp at hl; omega
    have hadd : (⟨g, o, none⟩ : Addr).add i = ⟨g, o + i, none⟩ := by unfold Addr.add; split <;> simp_all
    have hcell : w.cell? ⟨g, o + i, none⟩ = some cur[o + i] := by simp [World.cell?, hg, hi]
    have hfro : w.frozen? ⟨g, o + i, none⟩ = false := noFz_frozen hg hfz hi
    have hst : (store ((⟨g, o, none⟩ : Addr).add i) v).run P w = .ok () (w.setRow g (cur.setIfInBounds (o + i) v)) := by
      rw [hadd, run_store P w _ v _ (h1 v (by simp)), hcell]
      simp [hfro, setCell_eq_setRow w g (o + i) cur t fz v hg]
    have ih := run_storeCells_atM P g o t fz rest (i + 1) (cur.setIfInBounds (o + i) v) (w.setRow g (cur.setIfInBounds (o + i) v)) (setRow_heap w g cur _ t _ hg) (by rw [Array.size_setIfInBounds]; exact hfz) (by simp at hl ⊢; omega) (fun x hx => h1 x (by simp [hx]))
    simp only [storeCells, Sem.run_bind, hst, Result.andThen_ok, ih, setRow_setRow]
    congr 3
    have e := list_seg_step cur.toList (o + i) v rest (by simp at hl ⊢; omega)
    simpa [Array.toList_setIfInBounds, Nat.add_assoc] using e
/-- v is a slice with the bytes l in a block of its own, at B or beyond; the block may bear a conversion's mark. -/
def OwnM (B : Nat) (w : World) (v : Value) (l : List UInt8) : Prop :=
  ∃ g cap cur fz, v = .slice (some ⟨g, 0, none⟩) l.length cap ∧ B ≤ g ∧ w.heap[g]? = some (.cells cur 5 fz) ∧ NoFz cur.size fz ∧ l.length ≤ cap ∧ cap ≤ maxLen ∧ cur.size = cap ∧ cur.toList.take l.length = bytesV l
theorem OwnM.lt {B : Nat} {w : World} {v : Value} {l : List UInt8} (h : OwnM B w v l) {k : Nat} (hk : v.ownBlock = some k) : B ≤ k ∧ k < w.heap.size := by
  obtain ⟨g, cap, cur, fz, rfl, hb, hg, _⟩ := h
  obtain rfl : g = k := Option.some.inj hk
  exact ⟨hb, (Array.getElem?_eq_some_iff.1 hg).1⟩
theorem OwnM.same {B : Nat} {w w' : World} {v : Value} {l : List UInt8} (h : OwnM B w v l) (hs : ∀ k, v.ownBlock = some k → w'.heap[k]? = w.heap[k]?) : OwnM B w' v l := by
  obtain ⟨g, cap, cur, fz, hv, hb, hg, r⟩ := h
  exact ⟨g, cap, cur, fz, hv, hb, by rw [hs g (by rw [hv]; rfl)]; exact hg, r⟩
theorem OwnM.keep {B : Nat} {w w' : World} {v : Value} {l : List UInt8} (h : OwnM B w v l) (hb : Below w.heap.size w w') : OwnM B w' v l :=
  h.same fun k hk => hb.block k (h.lt hk).2
theorem OwnM.grown {B : Nat} {w w' : World} {v : Value} {l : List UInt8} {row : Option Nat} (h : OwnM B w v l) (hg : w.grownBy w' row) (hne : ∀ k, v.ownBlock = some k → some k ≠ row) : OwnM B w' v l :=
  h.same fun k hk => hg.block k (h.lt hk).2 (hne k hk)
theorem OwnM.low {B B' : Nat} {w : World} {v : Value} {l : List UInt8} (h : OwnM B w v l) (hB : B' ≤ B) : OwnM B' w v l := by
  obtain ⟨g, cap, cur, fz, hv, hb, r⟩ := h
  exact ⟨g, cap, cur, fz, hv, Nat.le_trans hB hb, r⟩
theorem OwnM.form {B : Nat} {w : World} {v : Value} {l : List UInt8} (h : OwnM B w v l) : ∃ g c, v = .slice (some ⟨g, 0, none⟩) l.length c ∧ l.length ≤ c ∧ IsBytes w (some ⟨g, 0, none⟩) l c := by
  obtain ⟨g, cap, cur, fz, rfl, hb, hg, hf, h1, h2, h3, ht⟩ := h
  refine ⟨g, cap, rfl, h1, .inr ⟨_, rfl, h1, h2, fun j hj => ?_⟩⟩
  have e : cur.toList[j]? = some (Value.int .u8 (l[j].toNat : Int)) := by
    have := congrArg (fun x => x[j]?) ht
    simp only [bytesV] at this
    rw [List.getElem?_take_of_lt hj, List.getElem?_map, List.getElem?_eq_getElem hj] at this
    exact this
  rw [Addr.add_lit]
  simp only [World.cell?, hg, Nat.zero_add]
  simpa using e
theorem OwnM.conv (w : World) (s : ByteArray) (hs : s.size ≤ 4000000000) : OwnM w.heap.size (Lib.bytesWorld w 5 s) (.slice (some ⟨w.heap.size, 0, none⟩) s.size (grownCap w s.size 0 5)) s.data.toList := by
  have hge := grownCap_ge w s.size 0 5
  have hz : (Lib.bytesCells w 5 s).size = grownCap w s.size 0 5 := by
    unfold Lib.bytesCells
    rw [Array.size_append, Array.size_map, Array.size_replicate]
    have : s.data.size = s.size := rfl
    omega
  have el : s.data.toList.length = s.size := by rw [Array.length_toList]; rfl
  refine ⟨w.heap.size, _, _, _, by rw [el], Nat.le_refl _, Lib.bytesWorld_at_new w 5 s, .inr (Nat.le_refl _), by rw [el]; exact hge, grownCap_le_maxLen w s.size 0 5 (by unfold maxLen; omega), hz, ?_⟩
  unfold Lib.bytesCells
  rw [Array.toList_append, el, List.take_left' (by rw [Array.length_toList, Array.size_map]; rfl), Array.toList_map]
  rfl
set_option maxRecDepth 100000 in
theorem ownM_slice (w : World) (ty : TypeId) {B : Nat} {v : Value} {l : List UInt8} (h : OwnM B w v l) {a : Option Addr} {r : List UInt8} {c : Nat} (hr : IsBytes w a r c) (hn : l.length + r.length ≤ 1000000000) (hB : B ≤ w.heap.size) :
    ∃ v' w', (Builtin.append_ #[26, 26] ty #[v, .slice a r.length c]).run Tryd.prog w = .ok v' w' ∧ OwnM B w' v' (l ++ r) ∧ w.grownBy w' v.ownBlock ∧ (v'.ownBlock = v.ownBlock ∨ v'.ownBlock = some w.heap.size) := by
  obtain ⟨i0, hi, hz0, hz1, hz2⟩ := info_parts Tryd.info5
  obtain ⟨g, cap, cur, fz, rfl, hb, hg, hf, h1, h2, h3, ht⟩ := h
  have el : (l ++ r).length = l.length + r.length := List.length_append
  have ev : bytesV (l ++ r) = bytesV l ++ bytesV r := by unfold bytesV; rw [List.map_append]
  rcases hr with ⟨rfl, rfl, rfl⟩ | ⟨ad, rfl, hr1, hr2, hr3⟩
  · refine ⟨.slice (some ⟨g, 0, none⟩) l.length cap, w, ?_, by rw [List.append_nil]; exact ⟨g, cap, cur, fz, rfl, hb, hg, hf, h1, h2, h3, ht⟩, ⟨rfl, rfl, rfl, Nat.le_refl _, fun _ _ _ => rfl⟩, .inl rfl⟩
    simp [Builtin.append_, run_underlying Tryd.underlying26, sizeOf, typeInfo, hi, Builtin.lenOf, Builtin.firstCells, loadCells, h1, storeCells]
  · have hnews : ∀ j u, (bytesV r)[j]? = some u → w.cell? (ad.add j) = some u := by
      intro j u hj
      unfold bytesV at hj
      rw [List.getElem?_map] at hj
      obtain ⟨c', hc', rfl⟩ := Option.map_eq_some_iff.1 hj
      obtain ⟨hlt, rfl⟩ := List.getElem?_eq_some_iff.1 hc'
      exact hr3 j hlt
    have hone : ∀ u ∈ bytesV r, u.oneCell' = true := by
      intro u hu
      unfold bytesV at hu
      obtain ⟨c', _, rfl⟩ := List.mem_map.1 hu
      rfl
    by_cases hroom : l.length + r.length ≤ cap
    · have hf1 := run_firstCells_some (P := Tryd.prog) w i0.size r.length ad r.length c (bytesV r) (by rw [hz1, bytesV_len, Nat.mul_one]) hnews
      have hst := run_storeCells_atM Tryd.prog g l.length 5 fz (bytesV r) 0 cur w hg hf (by rw [bytesV_len]; omega) hone
      simp only [Nat.add_zero, bytesV_len] at hst
      rw [hz1] at hf1
      have hr : (Builtin.append_ #[26, 26] ty #[.slice (some ⟨g, 0, none⟩) l.length cap, .slice (some ad) r.length c]).run Tryd.prog w = .ok (.slice (some ⟨g, 0, none⟩) (l.length + r.length) cap) (w.setRow g (cur.toList.take l.length ++ bytesV r ++ cur.toList.drop (l.length + r.length)).toArray) := by
        simp [Builtin.append_, run_underlying Tryd.underlying26, sizeOf, typeInfo, hi, hz1, Builtin.lenOf, hroom, hf1, Addr.add_lit, hst]
      have hcz : ((cur.toList.take l.length ++ bytesV r ++ cur.toList.drop (l.length + r.length)).toArray).size = cur.size := by
        simp only [List.size_toArray, List.length_append, List.length_take, List.length_drop, Array.length_toList, bytesV_len]
        omega
      refine ⟨_, _, hr, ⟨g, cap, _, fz, by rw [el], hb, setRow_heap w g cur _ _ _ hg, by rw [hcz]; exact hf, by rw [el]; exact hroom, h2, by rw [hcz]; exact h3, ?_⟩, ⟨rfl, rfl, rfl, by simp, fun k _ hk => setRow_other w g k _ (fun e => hk (by simp [Value.ownBlock, e]))⟩, .inl rfl⟩
      rw [ht, ev, el]
      have e9 : l.length + r.length = (bytesV l ++ bytesV r).length := by rw [List.length_append, bytesV_len, bytesV_len]
      rw [e9]
      exact List.take_left
    · have holds : ∀ j u, (bytesV l)[j]? = some u → w.cell? ((⟨g, 0, none⟩ : Addr).add j) = some u := by
        intro j u hu
        rw [Addr.add_lit, Nat.zero_add, cell_of_row w g j cur _ _ hg]
        rw [← ht, List.getElem?_take] at hu
        split at hu
        · simpa using hu
        · cases hu
      have hr := run_append_grow (P := Tryd.prog) w 26 ty 5 i0 (.int .u8 0) Tryd.underlying26 hi hz0 ⟨g, 0, none⟩ l.length cap (bytesV l) (by rw [hz1, bytesV_len, Nat.mul_one]) holds ad r.length c (bytesV r) (by rw [hz1, bytesV_len, Nat.mul_one]) hnews (by omega) (by omega) (by rw [hz2]; exact growslice_fits (by omega) (by omega))
      have hge := grownCap_ge w (l.length + r.length) cap 5
      have hcm : grownCap w (l.length + r.length) cap 5 ≤ maxLen := grownCap_le_maxLen w _ cap _ (by unfold maxLen; omega)
      refine ⟨_, _, hr, ⟨w.heap.size, _, _, (0, 0), by rw [el], hB, heap_alloc_new w.drew _, .inl rfl, by rw [el]; exact hge, hcm, ?_, ?_⟩, ⟨rfl, rfl, rfl, by simp, fun k hk _ => heap_alloc_old w.drew _ hk⟩, .inr rfl⟩
      · have hzz : (Value.int IntKind.u8 0).cells.size = 1 := rfl
        simp only [Array.size_append, List.size_toArray, size_zeroCells, hzz, bytesV_len]
        omega
      · simp only [Array.toList_append, List.append_assoc]
        rw [← List.append_assoc, ev, el]
        have e9 : l.length + r.length = (bytesV l ++ bytesV r).length := by rw [List.length_append, bytesV_len, bytesV_len]
        rw [e9]
        exact List.take_left
section
variable {ops : Array Oper} {rest : List Oper} {o : Oper} {act : Act} {Q : Exit → Act → World → Prop}
theorem wpList_append_mb (w : World) (hgd : o.guard = none) (s x : Operand) (ho : o.op = .call { callee := .builtin .append, args := #[s, x], argTypes := #[26, 26] })
    {B : Nat} {v : Value} {l : List UInt8} (hs : act.eval s = v) (h : OwnM B w v l) {a : Option Addr} {r : List UInt8} {c : Nat} (hx : act.eval x = .slice a r.length c) (hr : IsBytes w a r c) (hn : l.length + r.length ≤ 1000000000) (hB : B ≤ w.heap.size)
    (K : ∀ v' w', OwnM B w' v' (l ++ r) → w.grownBy w' v.ownBlock → (v'.ownBlock = v.ownBlock ∨ v'.ownBlock = some w.heap.size) → wpList Tryd.prog ops Q rest (act.put o.dst v') w') : wpList Tryd.prog ops Q (o :: rest) act w := by
  refine wpList_plain hgd fun K2 hK => ?_
  obtain ⟨v', w', hr', h2, h3, h4⟩ := ownM_slice w o.type h hr hn hB
  unfold Oper.wp execOp
  simp only [ho, resolve, invoke, builtin, Sem.run_bind, Sem.run_pure, Result.andThen_ok, List.map_toArray, List.map_cons, List.map_nil, hs, hx, hr']
  exact hK _ _ (K v' w' h2 h3 h4)
end
end Go.Proofs.YteoadfckcilalaaDoor
namespace Go.Proofs.YteoadfckcilalaaDoor
open Go.RowKit

theorem below_convH (w : World) (e : TypeId) (s : ByteArray) : Below w.heap.size w (Lib.bytesWorld w e s) :=
  ⟨rfl, rfl, rfl, by rw [Lib.bytesWorld_size]; omega, fun k hk => Lib.bytesWorld_at_old w e s k hk⟩
section
variable {Q : Exit → Act → World → Prop} {act : Act} {w : World} {o : Oper} {s : Spec} {K : Act → World → Prop}
end
end Go.Proofs.YteoadfckcilalaaDoor
namespace Go.Proofs.YteoadfckcilalaaDoor
open Go.RowKit

set_option maxRecDepth 100000 in
set_option maxHeartbeats 2000000 in
theorem projFormatRep_any (st : Int) (r : ByteArray) (z : Int) (fa ba : Option Addr) (fn fc bn bc : Nat) (w : World) (hr : r.size ≤ 1000000000) (ht : Tabs w) :
    Calls Tryd.prog 26 #[.agg #[.int .i64 st, .string r, .int .i64 z, .slice fa fn fc, .slice ba bn bc]] w fun e w' => e = .returned (.string (fmtRep st r z)) ∧ Below w.heap.size w w' := by
  have HB0 := Box.mk (below_oneF w (.cells #[.int .i64 st, .string r, .int .i64 z, .slice fa fn fc, .slice ba bn bc] 28))
  have HRow := Box.mk (show (w.alloc (.cells #[.int .i64 st, .string r, .int .i64 z, .slice fa fn fc, .slice ba bn bc] 28)).heap[w.heap.size]? = some (.cells #[.int .i64 st, .string r, .int .i64 z, .slice fa fn fc, .slice ba bn bc] 28 (0, 0)) from heap_alloc_new _ _)
  have HT := Box.mk ht
  clear ht
  by_cases h3 : 0 ≤ z ∧ z ≤ 1
  · have hz8 := versionS_size h3.1 h3.2
    have hne := isEmpty_no (s := versionS z) (by omega)
    by_cases h1 : statB st = true
    · have h100 : 100 ≤ st ∧ st ≤ 599 := by unfold statB at h1; simpa using h1
      by_cases h2 : visS r = true
      · have HR := Box.mk (show fmtRep st r z = versionS z ++ ⟨#[32]⟩ ++ fmtS 10 st ++ ⟨#[32]⟩ ++ r by
          unfold fmtRep; rw [if_pos ⟨h100.1, h100.2, h3.1, h3.2, h2⟩, (versionS_dec h3.1 h3.2).2])
        have HD := Box.mk (fmtS_code (by omega) h100.2)
        have H1 := Box.mk h1
        have H2 := Box.mk h2
        obtain ⟨t0, t1⟩ := h100
        clear h1 h2 h3
        have s1 : (versionS z ++ ⟨#[32]⟩).size = 9 := by rw [ByteArray.size_append, hz8]; rfl
        have s2 : (versionS z ++ ⟨#[32]⟩ ++ fmtS 10 st).size ≤ 1009 := by rw [ByteArray.size_append, s1]; have := HD.out; omega
        have s3 : (versionS z ++ ⟨#[32]⟩ ++ fmtS 10 st ++ ⟨#[32]⟩).size ≤ 1010 := by rw [ByteArray.size_append]; show _ + 1 ≤ _; omega
        generalize hv : versionS z = v at *
        have HV := Box.mk hv
        clear hv
        go_enter Tryd.func26, Tryd.ntmps26
        go_wp2_with fail
        refine (fmtVersion_any z _).mono ?_
        rintro e w1 ⟨he, rfl⟩
        rw [HV.out] at he
        subst he
        go_wp2_with fail
        refine (isStatus_any st _).mono ?_
        rintro e w1 ⟨he, rfl⟩
        rw [H1.out] at he
        subst he
        go_wp2_with fail
        refine (isReason_any r _).mono ?_
        rintro e w2 ⟨he, hb2⟩
        rw [H2.out] at he
        subst he
        have HB2 := Box.mk (below_trans HB0.out hb2)
        have HRW := Box.mk ((hb2.block w.heap.size (by rw [World.size_alloc]; omega)).trans HRow.out)
        clear hb2 HB0 HRow
        go_wp2_with fail
        generalize hg : w.heap.size = g at *
        have HG := Box.mk hg
        clear hg
        rename_i K hK
        refine wp_region_local (S := [.val (.string v), .val (.string (v ++ ⟨#[32]⟩)), .val (.pointer (some ⟨g, 0, none⟩)), .val (.int .i64 st), .val (.string (fmtS 10 st)), .val (.string (v ++ ⟨#[32]⟩ ++ fmtS 10 st)), .val (.string (v ++ ⟨#[32]⟩ ++ fmtS 10 st ++ ⟨#[32]⟩)),
          .val (.pointer (some ⟨g, 1, none⟩)), .val (.string r), .val (.string (v ++ ⟨#[32]⟩ ++ fmtS 10 st ++ ⟨#[32]⟩ ++ r)), .val (.string (v ++ ⟨#[32]⟩ ++ fmtS 10 st ++ ⟨#[32]⟩ ++ r))])
          (by kernel_rfl) (by kernel_rfl) (by kernel_rfl) ?_ ?_
        · have cell : ∀ w' i u, Below w2.heap.size w2 w' → (#[.int .i64 st, .string r, .int .i64 z, .slice fa fn fc, .slice ba bn bc] : Array Value)[i]? = some u → w'.cell? ⟨g, i, none⟩ = some u := fun w' i u hb hu => below_cell hb (by rw [cell_of_row _ _ _ _ _ _ HRW.out]; exact hu)
          refine ⟨?_, ?_, ?_, ?_, ?_, ?_, ?_, ?_, ?_, ?_, ?_, trivial⟩ <;> intro a w3 hb hf hd
          · exact ⟨wanted_none rfl, loc_move rfl (hf.base 3 rfl)⟩
          · exact ⟨wanted_none rfl, loc_addS rfl (hd 0 rfl) rfl (by rw [hz8]; decide) rfl⟩
          · exact ⟨wanted_none rfl, loc_fieldA rfl (hf.base 1 rfl) (by decide) rfl⟩
          · exact ⟨wanted_none rfl, loc_cell rfl (hd 2 rfl) (cell w3 0 _ hb rfl) (agg_int _) rfl⟩
          · refine ⟨wanted_none rfl, loc_call rfl (by kernel_rfl) ?_⟩
            show Calls _ _ #[a.eval (.tmp 24)] w3 _
            rw [show a.eval (.tmp 24) = .int .i64 st from hd 3 rfl]
            have hbw : Below w.heap.size w w3 := by
              have h9 := HB2.out
              rw [← HG.out] at h9
              exact below_trans h9 hb
            refine (decimal_any st w3 (by omega) (by omega) (tabs_below HT.out hbw)).mono ?_
            rintro e w' ⟨rfl, hb'⟩
            exact ⟨_, rfl, hb', rfl⟩
          · exact ⟨wanted_none rfl, loc_addS rfl (hd 1 rfl) (hd 4 rfl) (by rw [s1]; have := HD.out; omega) rfl⟩
          · exact ⟨wanted_none rfl, loc_addS rfl (hd 5 rfl) rfl (by show _ + 1 ≤ _; omega) rfl⟩
          · exact ⟨wanted_none rfl, loc_fieldA rfl (hf.base 1 rfl) (by decide) rfl⟩
          · exact ⟨wanted_none rfl, loc_cell rfl (hd 7 rfl) (cell w3 1 _ hb rfl) (agg_string _) rfl⟩
          · exact ⟨wanted_none rfl, loc_addS rfl (hd 6 rfl) (hd 8 rfl) (by omega) rfl⟩
          · exact ⟨wanted_none rfl, loc_assign rfl (hd 9 rfl)⟩
        · intro a w3 hb hf hh
          refine hK a w3 ?_
          go_wp2_with fail
          exact local_ret rfl hf.defers (show a.eval (.tmp 2) = .string (v ++ ⟨#[32]⟩ ++ fmtS 10 st ++ ⟨#[32]⟩ ++ r) from hh 10 (by decide)) ⟨ret_str HR.out.symm, by have h9 := HB2.out; rw [← HG.out] at h9; exact below_trans h9 hb⟩
      · have HR := Box.mk (show fmtRep st r z = ⟨#[]⟩ by unfold fmtRep; rw [if_neg (fun h => h2 h.2.2.2.2)])
        have H1 := Box.mk h1
        have H2 := Box.mk (show visS r = false by simpa using h2)
        clear h1 h2 h3 h100
        generalize hv : versionS z = v at *
        have HV := Box.mk hv
        clear hv
        go_enter Tryd.func26, Tryd.ntmps26
        go_wp2_with fail
        refine (fmtVersion_any z _).mono ?_
        rintro e w1 ⟨he, rfl⟩
        rw [HV.out] at he
        subst he
        go_wp2_with fail
        refine (isStatus_any st _).mono ?_
        rintro e w1 ⟨he, rfl⟩
        rw [H1.out] at he
        subst he
        go_wp2_with fail
        refine (isReason_any r _).mono ?_
        rintro e w2 ⟨he, hb2⟩
        rw [H2.out] at he
        subst he
        have HB2 := Box.mk (below_trans HB0.out hb2)
        clear hb2 HB0 HRow
        go_wp2_with fail
        go_ret
        exact ⟨ret_str HR.out.symm, HB2.out⟩
    · have HR := Box.mk (show fmtRep st r z = ⟨#[]⟩ by unfold fmtRep; rw [if_neg (fun h => h1 (by unfold statB; simp; exact ⟨h.1, h.2.1⟩))])
      have H1 := Box.mk (show statB st = false by simpa using h1)
      clear h1 h3
      generalize hv : versionS z = v at *
      have HV := Box.mk hv
      clear hv
      go_enter Tryd.func26, Tryd.ntmps26
      go_wp2_with fail
      refine (fmtVersion_any z _).mono ?_
      rintro e w1 ⟨he, rfl⟩
      rw [HV.out] at he
      subst he
      go_wp2_with fail
      refine (isStatus_any st _).mono ?_
      rintro e w1 ⟨he, rfl⟩
      rw [H1.out] at he
      subst he
      go_wp2_with fail
      go_ret
      exact ⟨ret_str HR.out.symm, HB0.out⟩
  · have HR := Box.mk (show fmtRep st r z = ⟨#[]⟩ by unfold fmtRep; rw [if_neg (fun h => h3 ⟨h.2.2.1, h.2.2.2.1⟩)])
    have HV := Box.mk (versionS_no h3)
    clear h3
    go_enter Tryd.func26, Tryd.ntmps26
    go_wp2_with fail
    refine (fmtVersion_any z _).mono ?_
    rintro e w1 ⟨he, rfl⟩
    rw [HV.out] at he
    subst he
    go_wp2_with fail
    go_ret
    exact ⟨ret_str HR.out.symm, HB0.out⟩

end Go.Proofs.YteoadfckcilalaaDoor
namespace Go.Proofs.YteoadfckcilalaaDoor
open Go.RowKit

theorem run_loadRep (w : World) (g : Nat) {u0 u1 u2 u3 u4 : Value} (h : w.heap[g]? = some (.cells #[u0, u1, u2, u3, u4] 28 (0, 0))) :
    (Instr.loadAt 28 (.pointer (some ⟨g, 0, none⟩))).run Tryd.prog w = .ok (.agg #[u0, u1, u2, u3, u4]) w := by
  simp [Instr.loadAt, Instr.sureAddr, run_loadVar_row w g _ 28 _ _ _ h Tryd.underlying28 rfl sizeA]
theorem lt_row {w : World} {g : Nat} {o : Obj} (h : w.heap[g]? = some o) : g < w.heap.size := (Array.getElem?_eq_some_iff.1 h).1

section
variable {act : Act} {w : World} {o : Oper} {K : Act → World → Prop} {Q : Exit → Act → World → Prop}
end

section
variable (m t : ByteArray) (z : Int) (fa ba : Option Addr) (fn fc bn bc : Nat) (fr : Bool) (st : Int) (r : ByteArray) (z2 : Int) (ga ha : Option Addr) (gn gc hn hc : Nat) (b : Option Addr) (n cb : Nat) (raw : Bool) (mm : Int) (w : World)
end
end Go.Proofs.YteoadfckcilalaaDoor
namespace Go.Proofs.YteoadfckcilalaaDoor
open Go.RowKit

theorem fmtF_cases (x : List Fld) : (allB x = true ∧ (fmtF x).data.toList = linesB x ∧ ((fmtF x).size = 0 → x = [])) ∨ (allB x = false ∧ (fmtF x).size = 0 ∧ ¬ x = []) := by
  by_cases h : allB x = true
  · refine .inl ⟨h, by unfold fmtF; rw [if_pos h], fun h0 => ?_⟩
    cases x with
    | nil => rfl
    | cons f r =>
      exfalso
      have h2 : (fmtF (f :: r)).data.toList = linesB (f :: r) := by unfold fmtF; rw [if_pos h]
      have h3 := congrArg List.length h2
      rw [Array.length_toList] at h3
      have h4 : (fmtF (f :: r)).data.size = (fmtF (f :: r)).size := rfl
      rw [h4, h0] at h3
      unfold linesB at h3
      rw [List.flatMap_cons, List.length_append, lineB_len] at h3
      omega
  · refine .inr ⟨by rw [← Bool.not_eq_true]; exact h, by unfold fmtF; rw [if_neg h]; rfl, ?_⟩
    rintro rfl
    exact h rfl
end Go.Proofs.YteoadfckcilalaaDoor
namespace Go.Proofs.YteoadfckcilalaaDoor
open Go.RowKit

/-- Slot k is written by an operation that need not wait for operation i. -/
def isDstI (ops : Array Oper) (i k : Nat) : Bool := (List.range ops.size).any fun j => ((ops[j]?).bind (·.dst) == some k) && (!decide (j = i) && !(match ops[j]? with | some o => waitsFor o i | none => false))
/-- The frame when operation i comes up. -/
structure FrW (ops : Array Oper) (i : Nat) (a0 a : Act) : Prop where
  defers : a.defers = a0.defers
  size : a.tmps.size = a0.tmps.size
  base : ∀ k, isDstI ops i k = false → a.eval (.tmp k) = a0.eval (.tmp k)
/-- The frame after the operations that m marks. -/
structure FrM (ops : Array Oper) (m : Array Bool) (a0 a : Act) : Prop where
  defers : a.defers = a0.defers
  size : a.tmps.size = a0.tmps.size
  base : ∀ k, (∀ j o, ops[j]? = some o → o.dst = some k → m.getD j false = false) → a.eval (.tmp k) = a0.eval (.tmp k)
theorem FrM.plain {ops : Array Oper} {m : Array Bool} {a0 a : Act} (h : FrM ops m a0 a) : Fr ops a0 a := ⟨h.defers, h.size, fun k hk => h.base k fun j o ho hd => by
  have : isDst ops k = true := by
    unfold isDst
    exact List.any_eq_true.2 ⟨o, Array.mem_toList_iff.2 (Array.mem_of_getElem? ho), by rw [hd]; simp⟩
  rw [hk] at this; cases this⟩
theorem FrM.at {ops : Array Oper} {m : Array Bool} {a0 a : Act} {i : Nat} (h : FrM ops m a0 a) (hmi : m.getD i false = false) (hcl : ∀ j o, ops[j]? = some o → m.getD j false = true → ∀ i, waitsFor o i = true → m.getD i false = true) : FrW ops i a0 a :=
  ⟨h.defers, h.size, fun k hk => h.base k fun j o ho hd => by
    by_cases hji : j = i
    · subst hji; exact hmi
    · by_cases hw : waitsFor o i = true
      · cases hm : m.getD j false with
        | false => rfl
        | true => rw [hcl j o ho hm i hw] at hmi; cases hmi
      · exfalso
        have : isDstI ops i k = true := by
          unfold isDstI
          exact List.any_eq_true.2 ⟨j, List.mem_range.2 (Array.getElem?_eq_some_iff.1 ho).1, by simp only [ho, Option.bind_some, hd]; simp [hji, hw]⟩
        rw [hk] at this; cases this⟩
theorem frM_put {ops : Array Oper} {m : Array Bool} {a0 a : Act} {o : Oper} {i : Nat} (ho : ops[i]? = some o) (him : i < m.size) (h : FrM ops m a0 a) (v : Value) : FrM ops (m.setIfInBounds i true) a0 (a.put o.dst v) := by
  refine ⟨?_, ?_, fun k hk => ?_⟩
  · have := h.defers
    cases o.dst <;> simpa [Act.put] using this
  · have := h.size
    cases o.dst <;> simpa [Act.put] using this
  · have hne : o.dst ≠ some k := fun e => by
      have := hk i o ho e
      simp [him] at this
    rw [eval_put_other hne, h.base k fun j oj hoj hd => by
      have h2 := hk j oj hoj hd
      by_cases hji : j = i
      · subst hji
        obtain rfl := Option.some.inj (ho.symm.trans hoj)
        exact absurd hd hne
      · rwa [getD_set_ne false (fun e => hji e.symm)] at h2]
def StepIW (P : Program) (Q : Exit → Act → World → Prop) (ops : Array Oper) (S : List Spec) (Inv : World → Prop) (a0 : Act) (i : Nat) (o : Oper) (s : Spec) : Prop :=
  ∀ a w, Inv w → FrW ops i a0 a → (∀ j, waitsFor o j = true → Holds ops S a w j) →
    Region.wanted o (yielded ops a.tmps) = true ∧ o.wp P a w (fun a' w' => ∃ v, a' = a.put o.dst v ∧ Below w.heap.size w w' ∧ s.p v w') Q
def SidesIW (P : Program) (Q : Exit → Act → World → Prop) (ops : Array Oper) (S : List Spec) (Inv : World → Prop) (a0 : Act) : List Nat → Prop
  | i :: r => (match ops[i]?, S[i]? with | some o, some s => StepIW P Q ops S Inv a0 i o s | _, _ => False) ∧ SidesIW P Q ops S Inv a0 r
  | [] => True
def ChainIW (P : Program) (Q : Exit → Act → World → Prop) (ops : Array Oper) (S S' : List Spec) (Inv Inv' : World → Prop) (a0 : Act) (c : Nat) : Prop :=
  match ops[c]?, S'[c]? with
  | some o, some s => ∀ a w, Inv w → FrW ops c a0 a → (∀ j, waitsFor o j = true → Holds ops S a w j) →
      Region.wanted o (yielded ops a.tmps) = true ∧ o.wp P a w (fun a' w' => ∃ v, a' = a.put o.dst v ∧ Inv' w' ∧ s.p v w' ∧ Over ops a w w' c 0 S S') Q
  | _, _ => False
section
variable {P : Program} {Q : Exit → Act → World → Prop} {ops : Array Oper} {a0 : Act} {w0 : World}
theorem sidesIW_at {S : List Spec} {Inv : World → Prop} : ∀ {l : List Nat}, SidesIW P Q ops S Inv a0 l → ∀ i, i ∈ l → ∀ o, ops[i]? = some o → ∃ s, S[i]? = some s ∧ StepIW P Q ops S Inv a0 i o s
  | k :: r, h, i, hi, o, ho => by
    rcases List.mem_cons.1 hi with rfl | hi
    · have := h.1
      rw [ho] at this
      cases hs : S[i]? with
      | none => rw [hs] at this; exact this.elim
      | some s => rw [hs] at this; exact ⟨s, rfl, this⟩
    · exact sidesIW_at h.2 i hi o ho
theorem wp_region_phasesW {id : Nat} (chain : List Nat) (sides : Nat → List Nat) (S : Nat → List Spec) (Inv : Nat → World → Prop) (hm : P.follows .mixedOrders = true)
    (hB : (List.range ops.size).all (fun i => match ops[i]? with | some x => x.after.all (fun e => !Region.binds .any e || decide (e.on < i)) | none => true) = true)
    (hd : dstsOk ops a0.tmps.size = true) (hc : chainB ops chain = true) (hlt : chain.all (fun c => decide (c < ops.size)) = true) (hsB : (List.range (chain.length + 1)).all (fun p => sidesB ops chain chain.length (sides p) p) = true)
    (hI : ∀ p w w', Inv p w → Below w.heap.size w w' → Inv p w') (h0 : Inv 0 w0) (hS : ∀ p, p ≤ chain.length → SidesIW P Q ops (S p) (Inv p) a0 (sides p))
    (hC : ∀ p (hp : p < chain.length), ChainIW P Q ops (S p) (S (p + 1)) (Inv p) (Inv (p + 1)) a0 chain[p])
    (hQ : ∀ a w, Inv chain.length w → Fr ops a0 a → (∀ j, j < ops.size → Holds ops (S chain.length) a w j) → Q .normal a w) : (Code.region id ops true).wp P Q a0 w0 := by
  have hchain : ∀ p q (hp : p < chain.length) (hq : q < chain.length), p < q → beforeB ops ops.size chain[q] chain[p] = true ∧ chain[p] ≠ chain[q] := fun p q hp hq hpq => by
    have h1 := List.all_eq_true.1 (List.all_eq_true.1 hc p (List.mem_range.2 hp)) q (List.mem_range.2 hq)
    simp only [List.getElem?_eq_getElem hp, List.getElem?_eq_getElem hq, Bool.or_eq_true, Bool.and_eq_true, decide_eq_true_eq] at h1
    rcases h1 with h1 | h1
    · omega
    · exact ⟨h1.1.1.1, h1.1.1.2⟩
  refine wp_region_inv hm (fun m a w => FrM ops m a0 a ∧ (∀ j o, ops[j]? = some o → m.getD j false = true → ∀ i, waitsFor o i = true → m.getD i false = true) ∧
    ∃ p, p ≤ chain.length ∧ (∀ q (hq : q < chain.length), m.getD chain[q] false = decide (q < p)) ∧ Inv p w ∧ ∀ j, m.getD j false = true → Holds ops (S p) a w j) ?_ ?_ ?_
  · rintro m a w hs ⟨hf, hcl, p, hp, hph, hinv, hh⟩ i hi
    obtain ⟨h1, o, ho, hall⟩ := mem_ready.1 hi
    have hil : i < ops.size := (Array.getElem?_eq_some_iff.1 ho).1
    have him : i < m.size := by rw [hs]; exact hil
    have hmi : m.getD i false = false := by simp [him] at h1 ⊢; exact h1
    have hdeps : ∀ j, waitsFor o j = true → m.getD j false = true := fun j hj => by
      obtain ⟨e, he, h2⟩ := List.any_eq_true.1 hj
      simp only [Bool.and_eq_true, beq_iff_eq] at h2
      obtain ⟨h3, rfl⟩ := h2
      exact hall e (Array.mem_toList_iff.1 he) h3
    have hcl' : ∀ j o, ops[j]? = some o → (m.setIfInBounds i true).getD j false = true → ∀ k, waitsFor o k = true → (m.setIfInBounds i true).getD k false = true := fun j oj hoj hj k hk => by
      by_cases hji : j = i
      · subst hji
        obtain rfl : o = oj := Option.some.inj (ho.symm.trans hoj)
        exact getD_set_true (hdeps k hk)
      · rw [getD_set_ne false (fun e => hji e.symm)] at hj
        exact getD_set_true (hcl j oj hoj hj k hk)
    unfold wpOp
    simp only [ho]
    by_cases hic : i ∈ chain
    · obtain ⟨q, hq, rfl⟩ := List.getElem_of_mem hic
      have hqp : p ≤ q := by
        have := hph q hq
        rw [hmi] at this
        have := of_decide_eq_false this.symm
        omega
      have hqe : q = p := by
        rcases Nat.lt_or_ge p q with h2 | h2
        · exfalso
          have h3 := before_ready hcl ho hdeps (hchain p q (by omega) hq h2).1
          rw [hph p (by omega)] at h3
          simp at h3
        · omega
      subst hqe
      have hCp := hC q hq
      unfold ChainIW at hCp
      rw [ho] at hCp
      cases hsc : (S (q + 1))[chain[q]]? with
      | none => rw [hsc] at hCp; exact hCp.elim
      | some s =>
        rw [hsc] at hCp
        simp only at hCp
        obtain ⟨hw, hwp⟩ := hCp a w hinv (hf.at hmi hcl) fun j hj => hh j (hdeps j hj)
        rw [if_pos hw]
        refine .inl (Oper.wp_mono ?_ hwp)
        rintro a' w' ⟨v, rfl, hinv', hsp, hov⟩
        refine ⟨frM_put ho him hf v, hcl', q + 1, hq, fun r hr => ?_, hinv', fun j hj => ?_⟩
        · by_cases hrq : r = q
          · subst hrq
            simp [him]
          · have hne : chain[q] ≠ chain[r] := by
              rcases Nat.lt_or_ge q r with h2 | h2
              · exact (hchain q r hq hr h2).2
              · exact fun e => (hchain r q hr hq (by omega)).2 e.symm
            rw [getD_set_ne false hne, hph r hr]
            by_cases hrl : r < q
            · simp [hrl, show r < q + 1 by omega]
            · simp [hrl, show ¬ r < q + 1 by omega]
        · by_cases hji : j = chain[q]
          · subst hji
            unfold Holds
            simp only [ho, hsc]
            cases hdo : o.dst with
            | none => trivial
            | some d =>
              show s.p ((a.put (some d) v).eval (.tmp d)) w'
              rw [eval_put_same]
              · exact hsp
              · rw [hf.size]; exact (dsts_lt hd ho hdo).1
          · have hj' : m.getD j false = true := by rw [getD_set_ne false (fun e => hji e.symm)] at hj; exact hj
            have h5 := holds_put (a := a) (v := v) hd ho hji (hh j hj')
            unfold Holds at *
            cases hoj : ops[j]? with
            | none => simp
            | some o' =>
              cases hsj : (S (q + 1))[j]? with
              | none => simp
              | some s' =>
                obtain ⟨s0, hs0, himp⟩ := over_at hov j s' hsj (by omega)
                simp only [hoj, hs0] at h5
                simp only
                cases hdo : o'.dst with
                | none => trivial
                | some d =>
                  simp only [hdo] at h5
                  refine himp _ (fun o2 d2 ho2 hd2 => ?_) h5
                  rw [Nat.zero_add, hoj] at ho2
                  obtain rfl := Option.some.inj ho2
                  rw [hdo] at hd2
                  obtain rfl := Option.some.inj hd2
                  exact eval_put_other fun e => (dsts_lt hd ho e).2 j o' hoj hji hdo
    · have hside : i ∈ sides p := by
        have := List.all_eq_true.1 (List.all_eq_true.1 hsB p (List.mem_range.2 (by omega))) i (List.mem_range.2 hil)
        simp only [Bool.or_eq_true, List.contains_iff_mem, List.any_eq_true] at this
        rcases this with (h2 | h2) | ⟨q, hq, h2⟩
        · exact absurd h2 hic
        · exact h2
        · exfalso
          have hql := List.mem_range.1 hq
          rw [List.getElem?_eq_getElem hql] at h2
          simp only at h2
          by_cases hqp : q < p
          · rw [if_pos hqp] at h2
            have h3 := before_marked hcl _ _ _ h2 (by rw [hph q hql]; simp [hqp])
            rw [hmi] at h3; cases h3
          · rw [if_neg hqp] at h2
            have h3 := before_ready hcl ho hdeps h2
            rw [hph q hql] at h3
            simp [hqp] at h3
      obtain ⟨s, hsi, hstep⟩ := sidesIW_at (hS p hp) i hside o ho
      obtain ⟨hw, hwp⟩ := hstep a w hinv (hf.at hmi hcl) fun j hj => hh j (hdeps j hj)
      rw [if_pos hw]
      refine .inl (Oper.wp_mono ?_ hwp)
      rintro a' w' ⟨v, rfl, hb', hsp⟩
      refine ⟨frM_put ho him hf v, hcl', p, hp, fun r hr => ?_, hI p w w' hinv hb', fun j hj => ?_⟩
      · rw [getD_set_ne false (fun e => hic (by rw [e]; exact List.getElem_mem hr)), hph r hr]
      · by_cases hji : j = i
        · subst hji
          unfold Holds
          simp only [ho, hsi]
          cases hdo : o.dst with
          | none => trivial
          | some d =>
            show s.p ((a.put (some d) v).eval (.tmp d)) w'
            rw [eval_put_same]
            · exact hsp
            · rw [hf.size]; exact (dsts_lt hd ho hdo).1
        · have hj' : m.getD j false = true := by rw [getD_set_ne false (fun e => hji e.symm)] at hj; exact hj
          exact holds_put hd ho hji (holds_mono (hh j hj') hb')
  · rintro m a w hs ⟨hf, hcl, p, hp, hph, hinv, hh⟩ hr
    have hmarked : ∀ j, j < ops.size → m.getD j false = true := fun j => by
      induction j using Nat.strongRecOn with
      | _ j ih =>
        intro hj
        cases hmj : m.getD j false with
        | true => rfl
        | false =>
          exfalso
          have hoj : ops[j]? = some ops[j] := Array.getElem?_eq_getElem hj
          have hbk := List.all_eq_true.1 hB j (List.mem_range.2 hj)
          rw [hoj] at hbk
          simp only [Array.all_eq_true_iff_forall_mem, Bool.or_eq_true, Bool.not_eq_true', decide_eq_true_eq] at hbk
          have hlt : ∀ e ∈ ops[j].after, Region.binds .any e = true → e.on < j := fun e he hbd => by
            rcases hbk e he with h | h
            · rw [hbd] at h; cases h
            · exact h
          have : j ∈ Region.ready .any ops m := mem_ready.2 ⟨by
            have hs' : j < m.size := by rw [hs]; exact hj
            simp [hs'] at hmj ⊢; exact hmj, ops[j], hoj, fun e he hbd => ih _ (hlt e he hbd) (by have := hlt e he hbd; omega)⟩
          rw [hr] at this; cases this
    have hpe : p = chain.length := by
      rcases Nat.lt_or_ge p chain.length with h2 | h2
      · exfalso
        have h3 := hph p h2
        have h4 := hmarked chain[p] (of_decide_eq_true (List.all_eq_true.1 hlt _ (List.getElem_mem h2)))
        rw [h4] at h3
        simp at h3
      · omega
    subst hpe
    exact hQ a w hinv hf.plain fun j hj => hh j (hmarked j hj)
  · have hz : ∀ j, (Array.replicate ops.size false).getD j false = false := fun j => by
      simp only [Array.getD_eq_getD_getElem?, Array.getElem?_replicate]; split <;> rfl
    refine ⟨⟨rfl, rfl, fun _ _ => rfl⟩, fun j o _ hj => (by rw [hz] at hj; cases hj), 0, Nat.zero_le _, fun q _ => by rw [hz]; rfl, hI 0 w0 _ h0 (Below.refl _ _).drew, fun j hj => (by rw [hz] at hj; cases hj)⟩

end
end Go.Proofs.YteoadfckcilalaaDoor
namespace Go.Proofs.YteoadfckcilalaaDoor
open Go.RowKit

set_option linter.unusedVariables false
/-- The reasons, by status. -/
def reasL : List (Int × ByteArray) := [(200, ⟨#[79, 75]⟩), (400, ⟨#[66, 97, 100, 32, 82, 101, 113, 117, 101, 115, 116]⟩), (404, ⟨#[78, 111, 116, 32, 70, 111, 117, 110, 100]⟩), (405, ⟨#[77, 101, 116, 104, 111, 100, 32, 78, 111, 116, 32, 65, 108, 108, 111, 119, 101, 100]⟩), (408, ⟨#[82, 101, 113, 117, 101, 115, 116, 32, 84, 105, 109, 101, 111, 117, 116]⟩), (409, ⟨#[67, 111, 110, 102, 108, 105, 99, 116]⟩), (413, ⟨#[67, 111, 110, 116, 101, 110, 116, 32, 84, 111, 111, 32, 76, 97, 114, 103, 101]⟩), (431, ⟨#[82, 101, 113, 117, 101, 115, 116, 32, 72, 101, 97, 100, 101, 114, 32, 70, 105, 101, 108, 100, 115, 32, 84, 111, 111, 32, 76, 97, 114, 103, 101]⟩), (502, ⟨#[66, 97, 100, 32, 71, 97, 116, 101, 119, 97, 121]⟩), (503, ⟨#[83, 101, 114, 118, 105, 99, 101, 32, 85, 110, 97, 118, 97, 105, 108, 97, 98, 108, 101]⟩), (504, ⟨#[71, 97, 116, 101, 119, 97, 121, 32, 84, 105, 109, 101, 111, 117, 116]⟩), (505, ⟨#[72, 84, 84, 80, 32, 86, 101, 114, 115, 105, 111, 110, 32, 78, 111, 116, 32, 83, 117, 112, 112, 111, 114, 116, 101, 100]⟩)]
def errR : ByteArray := ⟨#[69, 114, 114, 111, 114]⟩
def reasG : List (Int × ByteArray) → Int → ByteArray
  | [], _ => errR
  | p :: r, st => if p.1 = st then p.2 else reasG r st
def reasS (st : Int) : ByteArray := reasG reasL st
/-- The two fields that Make writes. -/
def ctWr : ByteArray := ⟨#[67, 111, 110, 116, 101, 110, 116, 45, 84, 121, 112, 101]⟩
def clWr : ByteArray := ⟨#[67, 111, 110, 116, 101, 110, 116, 45, 76, 101, 110, 103, 116, 104]⟩
def txtWr : ByteArray := ⟨#[116, 101, 120, 116, 47, 112, 108, 97, 105, 110]⟩
def makeX (kind : ByteArray) (n : Int) : List Fld := [(ctWr, kind), (clWr, fmtS 10 n)]
end Go.Proofs.YteoadfckcilalaaDoor
namespace Go.Proofs.YteoadfckcilalaaDoor
open Go.RowKit

/-- The state of the decoder: the phase, the bytes left, the size of the trailer section, the line so far. -/
structure Chk where
  ph : Int
  left : Int
  tr : Int
  line : List UInt8
section
variable {ops : Array Oper} {rest : List Oper} {o : Oper} {act : Act} {Q : Exit → Act → World → Prop} {w : World}
end
end Go.Proofs.YteoadfckcilalaaDoor
namespace Go.Proofs.YteoadfckcilalaaDoor
open Go.RowKit

theorem add_blockC (x : Addr) (j : Nat) : (x.add j).block = x.block := by unfold Addr.add; split <;> rfl
section
variable {Q : Exit → Act → World → Prop} {act : Act} {w : World} {o : Oper} {s : Spec} {K : Act → World → Prop}
end
section
variable {Q : Exit → Act → World → Prop} {act : Act} {w : World} {o : Oper} {s : Spec} {K : Act → World → Prop}
end
end Go.Proofs.YteoadfckcilalaaDoor
namespace Go.Proofs.YteoadfckcilalaaDoor
open Go.RowKit

theorem isBytes_bytesWorld (w : World) (s : ByteArray) (hs : s.size ≤ 4000000000) : IsBytes (Lib.bytesWorld w 5 s) (some ⟨w.heap.size, 0, none⟩) s.data.toList (grownCap w s.size 0 5) := by
  refine .inr ⟨_, rfl, ?_, ?_, fun j hj => ?_⟩
  · have := grownCap_ge w s.size 0 5
    simpa using this
  · exact grownCap_le_maxLen w s.size 0 5 (by unfold maxLen; omega)
  · have hj' : j < s.size := by simpa using hj
    rw [Addr.add_lit, Nat.zero_add, Lib.bytesWorld_cell w 5 s j hj']
    simp [List.getD_eq_getElem?_getD, List.getElem?_eq_getElem hj]
theorem agg_slcG (w : World) : (isAgg 26).run Tryd.prog w = .ok false w := by
  unfold isAgg; rw [Sem.run_bind, run_underlying Tryd.underlying26 w]; rfl
section
variable {Q : Exit → Act → World → Prop} {act : Act} {w : World} {o : Oper} {s : Spec}
end
end Go.Proofs.YteoadfckcilalaaDoor
namespace Go.Proofs.YteoadfckcilalaaDoor
open Go.ChangeShapes Go.WideShapes Go.ChangeAt Go.RowKit

def dB64 : List Int := [0, 1, 56, 2, 57, 49, 28, 3, 61, 58, 42, 50, 38, 29, 17, 4, 62, 47, 59, 36, 45, 43, 51, 22, 53, 39, 33, 30, 24, 18, 12, 5, 63, 55, 48, 27, 60, 41, 37, 16, 46, 35, 44, 21, 52, 32, 23, 11, 54, 26, 40, 15, 34, 20, 31, 10, 25, 14, 19, 9, 13, 8, 7, 6]
/-- The tables of the library out of the list of laid variables. -/
theorem tabs_of_laid {W : World} {l : List (String × DataW Unit)} (h : laidMetH Tryd.prog l W)
    (e1 : l.filter (fun x => x.1 == "internal/strconv.uint64pow10") = [("internal/strconv.uint64pow10", Lib.tabData .u64 Lib.pow10Tab)])
    (e2 : l.filter (fun x => x.1 == "math/bits.deBruijn64tab") = [("math/bits.deBruijn64tab", Lib.tabData .u8 dB64)]) : Tabs W := by
  have h1 := h.filter (fun x => x.1 == "internal/strconv.uint64pow10")
  have h2 := h.filter (fun x => x.1 == "math/bits.deBruijn64tab")
  rw [e1] at h1
  rw [e2] at h2
  rw [MakeChecks.laidMetH_plain _ _ _ (by kernel_rfl)] at h1 h2
  have t1 := Lib.tabIs_of_head (g := 1) (t := 73) (e := 56) (n := 20) (by kernel_rfl) (by kernel_rfl) (by kernel_rfl) (by kernel_rfl) (by kernel_rfl) (by kernel_rfl) h1
  have t2 := Lib.tabIs_of_head (g := 3) (t := 85) (e := 5) (n := 64) (by kernel_rfl) (by kernel_rfl) (by kernel_rfl) (by kernel_rfl) (by kernel_rfl) (by kernel_rfl) h2
  refine ⟨t1, t2.cell (by kernel_rfl) 15 (by decide), lt_cell (t1.cell (by kernel_rfl) 0 (by decide))⟩
end Go.Proofs.YteoadfckcilalaaDoor
namespace Go.Proofs.YteoadfckcilalaaDoor
open Go.ChangeShapes Go.WideShapes Go.ChangeAt Go.RowKit

set_option linter.unusedVariables false
def rowC (p : Int × ByteArray) : List Value := [.int .i64 p.1, .string p.2]
def reasV : Array Value := (reasL.flatMap rowC).toArray
/-- The table lies in its variable. -/
def ReasT (w : World) : Prop := ∃ T fz, w.heap[0]? = some (.cells reasV T fz)
theorem ReasT.keep {w w' : World} (h : ReasT w) (hb : Below w.heap.size w w') : ReasT w' := by
  obtain ⟨T, fz, h⟩ := h
  exact ⟨T, fz, (hb.block _ (lt_row h)).trans h⟩
def rowData {H : Type} (zs : List (Int × ByteArray)) : DataW H := .agg (zs.map fun p => .agg [.lit (.int .i64 p.1), .lit (.string p.2.data.toList)])
theorem chunks2 : ∀ (zs : List (Int × ByteArray)) (cs : List Value), cs.length = 2 * zs.length → (∀ (i : Nat) p, zs[i]? = some p → (cs.drop (i * 2)).take 2 = rowC p) → cs = zs.flatMap rowC
  | [], cs, hl, _ => List.eq_nil_of_length_eq_zero hl
  | p :: zs, cs, hl, h => by
    have h0 := h 0 p rfl
    rw [Nat.zero_mul, List.drop_zero] at h0
    have ih := chunks2 zs (cs.drop 2) (by rw [List.length_drop, hl, List.length_cons]; omega) fun i q hq => by
      have := h (i + 1) q hq
      rw [List.drop_drop, show 2 + i * 2 = (i + 1) * 2 by omega]
      exact this
    rw [List.flatMap_cons, ← ih, ← h0, List.take_append_drop]
theorem ba_inj {a b : ByteArray} (h : a.data.toList = b.data.toList) : a = b := by
  cases a; cases b
  simp only at h
  rw [Array.toList_inj.1 h]
theorem cells_of_rows {H : Type} {enc : TypeId × Value → H} {W : World} {base : Nat} {sp : Nat → Bool} {held : Bool} {fuel : Nat} {cs : List Value} {zs : List (Int × ByteArray)} {ps : List MemPlace} (hz : zs.length = 12)
    (h : DataW.trod enc Tryd.prog W base sp held fuel 42 cs = some (rowData zs, ps)) : cs = zs.flatMap rowC := by
  have hct : Tryd.prog.cellsOf 42 = 24 := by kernel_rfl
  have hce : Tryd.prog.cellsOf 41 = 2 := by kernel_rfl
  have hci : Tryd.prog.cellsOf 3 = 1 := by kernel_rfl
  have hcs : Tryd.prog.cellsOf 9 = 1 := by kernel_rfl
  cases fuel with
  | zero => simp [DataW.trod] at h
  | succ fuel =>
    simp only [DataW.trod, Tryd.underlying42, hce, hct] at h
    split at h
    · rename_i hl
      obtain ⟨xs, hm, hx⟩ := Option.map_eq_some_iff.1 h
      have hxs : xs.map (·.1) = zs.map fun p => (DataW.agg [.lit (.int .i64 p.1), .lit (.string p.2.data.toList)] : DataW H) := by
        have := congrArg Prod.fst hx
        simpa [rowData] using this
      have hxl : xs.length = 12 := by simpa using Lib.mapM_length hm
      refine chunks2 zs cs (by rw [hz]; simpa using hl) fun i p hp => ?_
      have hi : i < 12 := by rw [← hz]; exact (List.getElem?_eq_some_iff.1 hp).1
      obtain ⟨b, hb, hf⟩ := Lib.mapM_at hm i i (by simp [hi])
      have h2 : (xs.map (·.1))[i]? = some b.1 := by simp [hb]
      rw [hxs] at h2
      simp only [List.getElem?_map, hp, Option.map_some, Option.some.injEq] at h2
      obtain ⟨y0, y1, n, hdp, _, h0, h1⟩ := trod_struct2 Tryd.underlying41 hf
      obtain ⟨z, ez, fz, _⟩ := DataW.trod_int Tryd.underlying3 h0
      obtain ⟨s, es, fs, _⟩ := DataW.trod_string Tryd.underlying9 h1
      have hd : b.1 = .agg [y0.1, y1.1] := congrArg Prod.fst hdp
      rw [hd, fz, fs] at h2
      simp only [DataW.agg.injEq, List.cons.injEq, DataW.lit.injEq, Lit.int.injEq, Lit.string.injEq, true_and, and_true] at h2
      obtain ⟨e1, e2⟩ := h2
      have e3 := ba_inj e2
      subst e1 e3
      rw [hci] at ez
      rw [hcs] at es
      rw [List.drop_zero] at ez
      generalize (cs.drop (i * 2)).take 2 = l at *
      show l = [.int .i64 p.1, .string p.2]
      have e4 : l = l.take 1 ++ l.drop 1 := (List.take_append_drop 1 l).symm
      have hll : (l.drop 1).length ≤ 1 := by
        have : l.length = 2 := by
          have h9 := Tryd.underlying41
          obtain ⟨_, _, _, _, hq, _⟩ := trod_struct2 h9 hf
          rw [hce] at hq; exact hq
        rw [List.length_drop, this]; omega
      rw [e4, ez, ← List.take_of_length_le hll, es]; rfl
    · cases h
theorem reas_of_laid {W : World} {l : List (String × DataW Unit)} (h : laidMetH Tryd.prog l W)
    (e1 : l.filter (fun x => x.1 == "canary/writer.reasons") = [("canary/writer.reasons", rowData reasL)]) : ReasT W := by
  have h1 := h.filter (fun x => x.1 == "canary/writer.reasons")
  rw [e1] at h1
  rw [MakeChecks.laidMetH_plain _ _ _ (by kernel_rfl)] at h1
  obtain ⟨ps, ⟨g', t', cs, fuel, p, q, hg', ht', hvar, hd, _, _⟩, _⟩ := h1
  have hg : Tryd.prog.globalNamed "canary/writer.reasons" = some 0 := by kernel_rfl
  have hty : (Tryd.prog.globals[0]?).map (·.type) = some 42 := by kernel_rfl
  obtain rfl := Option.some.inj (hg.symm.trans hg')
  obtain rfl := Option.some.inj (hty.symm.trans ht')
  have hc := cells_of_rows (by rfl) hd
  unfold World.var? at hvar
  rw [hg, Option.bind_some] at hvar
  split at hvar
  · rename_i cs2 T fz hrow
    have e := Option.some.inj hvar
    refine ⟨T, fz, ?_⟩
    rw [hrow, e]
    unfold reasV
    rw [← hc]
    try rfl
  · cases hvar
theorem info_row (W : World) : (sizeOf 41).run Tryd.prog W = .ok 2 W := by
  have h : (Tryd.prog.info? 41).map (·.size) = some 2 := by kernel_rfl
  cases hq : Tryd.prog.info? 41 with
  | none => simp [hq] at h
  | some i => simp [hq] at h; simp [sizeOf, typeInfo, hq, h]
theorem agg_row (W : World) : (isAgg 41).run Tryd.prog W = .ok true W := by
  unfold isAgg
  rw [Sem.run_bind, run_underlying Tryd.underlying41 W]; rfl
theorem reasV_at : ∀ k : Fin 12, reasV.extract (k.val * 2) (k.val * 2 + 2) = #[.int .i64 (reasL.getD k.val (0, errR)).1, .string (reasL.getD k.val (0, errR)).2] := by
  intro k
  match k with
  | ⟨0, _⟩ => rfl
  | ⟨1, _⟩ => rfl
  | ⟨2, _⟩ => rfl
  | ⟨3, _⟩ => rfl
  | ⟨4, _⟩ => rfl
  | ⟨5, _⟩ => rfl
  | ⟨6, _⟩ => rfl
  | ⟨7, _⟩ => rfl
  | ⟨8, _⟩ => rfl
  | ⟨9, _⟩ => rfl
  | ⟨10, _⟩ => rfl
  | ⟨11, _⟩ => rfl
theorem run_index_reas (W : World) (k : Nat) (hk : k < 12) : (Instr.index 42 (.agg reasV) (.int .i64 (k : Int))).run Tryd.prog W = .ok (.agg #[.int .i64 (reasL.getD k (0, errR)).1, .string (reasL.getD k (0, errR)).2]) W := by
  have h1 : (0 : Int) ≤ (k : Int) ∧ (k : Int) < ((12 : Nat) : Int) := ⟨by omega, by omega⟩
  simp only [Instr.index, asIntOf, Sem.run_bind, Sem.run_pure, Result.andThen_ok, run_underlying Tryd.underlying42, h1, and_self, if_true, info_row, part, agg_row, Int.toNat_natCast]
  rw [reasV_at ⟨k, hk⟩]
theorem reasG_drop {k : Nat} (hk : k < 12) (st : Int) : reasG (reasL.drop k) st = if (reasL.getD k (0, errR)).1 = st then (reasL.getD k (0, errR)).2 else reasG (reasL.drop (k + 1)) st := by
  have hlt : k < reasL.length := hk
  rw [List.drop_eq_getElem_cons hlt, List.getD_eq_getElem?_getD, List.getElem?_eq_getElem hlt]
  rfl
set_option maxRecDepth 100000 in
set_option maxHeartbeats 2000000 in
theorem projReason_any (st : Int) (w : World) (h : ReasT w) : Calls Tryd.prog 10 #[.int .i64 st] w fun e w' => e = .returned (.string (reasS st)) ∧ Below w.heap.size w w' := by
  obtain ⟨T, fz, hrow⟩ := h
  obtain ⟨cs, hcs⟩ : ∃ cs, cs = reasV := ⟨_, rfl⟩
  have HIX := Box.mk (show ∀ (k : Nat) (W : World), k < 12 → (Instr.index 42 (.agg cs) (.int .i64 (k : Int))).run Tryd.prog W = .ok (.agg #[.int .i64 (reasL.getD k (0, errR)).1, .string (reasL.getD k (0, errR)).2]) W from fun k W hk => by rw [hcs]; exact run_index_reas W k hk)
  have HSZ := Box.mk (show (Tryd.prog.info? 42).map (·.size) = some cs.size by rw [hcs]; kernel_rfl)
  rw [← hcs] at hrow
  have HROW := Box.mk hrow
  clear hrow hcs
  go_enter Tryd.func10, Tryd.ntmps10
  go_wp2_with (refine wpList_load_row rfl 42 _ rfl 0 rfl T cs fz _ HROW.out Tryd.underlying42 rfl HSZ.out ?_)
  go_loopw [6] (fun iv wr => ∃ k : Nat, k ≤ 12 ∧ iv = .int .i64 k ∧ Box (Below w.heap.size w wr ∧ reasG (reasL.drop k) st = reasS st)) (fun iv _ => 12 - (intOf iv).toNat)
  case atStart => exact ⟨0, Nat.zero_le _, rfl, ⟨Below.refl _ _, rfl⟩⟩
  case round =>
    obtain ⟨k, hk, rfl, HM⟩ := hrel
    by_cases hlt : k < 12
    · have hix := fun W => HIX.out k W hlt
      have HD := Box.mk (reasG_drop hlt st)
      generalize (reasL.getD k (0, errR)).1 = n at *
      generalize (reasL.getD k (0, errR)).2 = s at *
      have HB2 := Box.mk (below_trans HM.out.1 (below_oneF wr (.cells #[.int .i64 n, .string s] 41)))
      by_cases hn : n = st
      · have HE := Box.mk (show s = reasS st by have := HD.out; rw [if_pos hn, HM.out.2] at this; exact this.symm)
        subst hn
        go_wp2_with fail
        go_ret
        exact ⟨ret_str HE.out, HB2.out⟩
      · have HE := Box.mk (show reasG (reasL.drop (k + 1)) st = reasS st by have := HD.out; rw [if_neg hn, HM.out.2] at this; exact this.symm)
        have hn2 : (n == st) = false := by rw [beq_eq_false_iff_ne]; exact hn
        clear hn
        go_wp2_with fail
        go_roundw
        case rel => exact ⟨k + 1, by omega, by go_num, ⟨HB2.out, HE.out⟩⟩
        case measure => simp [intOf]; omega
    · have HE := Box.mk (show errR = reasS st by
        have := HM.out.2
        rw [show k = 12 by omega] at this
        exact this)
      go_wp2_with fail
      go_ret
      exact ⟨ret_str HE.out, HM.out.1⟩
end Go.Proofs.YteoadfckcilalaaDoor
namespace Go.Proofs.YteoadfckcilalaaDoor
open Go.RowKit

set_option linter.unusedVariables false
/-- Nothing, or bytes in a block of the call's own. -/
def Hdo (B : Nat) (w : World) (v : Value) (l : List UInt8) : Prop := (l = [] ∧ v = .slice none 0 0) ∨ OwnM B w v l
theorem Hdo.keep {B : Nat} {w w' : World} {v : Value} {l : List UInt8} (h : Hdo B w v l) (hb : Below w.heap.size w w') : Hdo B w' v l := h.imp id fun h => h.keep hb
theorem Hdo.low {B B' : Nat} {w : World} {v : Value} {l : List UInt8} (h : Hdo B w v l) (hB : B' ≤ B) : Hdo B' w v l := h.imp id fun h => h.low hB
theorem Hdo.form {B : Nat} {w : World} {v : Value} {l : List UInt8} (h : Hdo B w v l) : ∃ a c, v = .slice a l.length c ∧ IsBytes w a l c := by
  rcases h with ⟨rfl, rfl⟩ | h
  · exact ⟨none, 0, rfl, .inl ⟨rfl, rfl, rfl⟩⟩
  · obtain ⟨g, c, h1, _, h2⟩ := h.form
    exact ⟨_, c, h1, h2⟩
theorem Hdo.block {B : Nat} {w : World} {v : Value} {l : List UInt8} (h : Hdo B w v l) : ∀ q, v.ownBlock = some q → B ≤ q := fun q e => by
  rcases h with ⟨_, rfl⟩ | h
  · cases e
  · exact (h.lt e).1
theorem Hdo.bytesV {B : Nat} {w : World} {v : Value} {l : List UInt8} (h : Hdo B w v l) : BytesV w v l := h.form
def Spec.hdo (B : Nat) (l : List UInt8) : Spec := ⟨fun v w => Hdo B w v l, fun _ _ _ h hb => h.keep hb⟩
def RetHdO (w : World) (l : List UInt8) (e : Ending) (w' : World) : Prop := ∃ v, e = .returned v ∧ Hdo w.heap.size w' v l ∧ Below w.heap.size w w'
/-- A message: its head and its body, or nothing. -/
def wrB (l d : List UInt8) : List UInt8 := if l.length = 0 then [] else l ++ d
set_option maxRecDepth 100000 in
set_option maxHeartbeats 4000000 in
theorem projFormatO_any (s : ByteArray) (x : List Fld) (fa : Option Addr) (fc : Nat) (w : World) (hx : FldsIn w fa x) (hz : SmallF x) (hl : x.length ≤ 100) (hq : s.size ≤ 3000000000) :
    Calls Tryd.prog 25 #[.string s, .slice fa x.length fc] w (RetHdO w (headB s x)) := by
  have HN := Box.mk (fun h => headB_no (s := s) (x := x) h)
  have HY := Box.mk (fun h h2 => headB_yes (s := s) (x := x) h h2)
  have HFM := Box.mk (fFormat_any x fa fc w hx hz (by omega))
  have HC := Box.mk (fmtF_cases x)
  have HL := Box.mk (show (linesB x).length ≤ 100 * 2097156 by
    have h1 := linesB_len x hz x.length
    rw [List.take_length] at h1
    exact Nat.le_trans h1 (Nat.mul_le_mul_right _ hl))
  generalize headB s x = R at *
  generalize fmtF x = f at *
  clear hx hz
  go_enter Tryd.func25, Tryd.ntmps25
  go_wp2_with fail
  refine HFM.out.mono ?_
  rintro e w1 ⟨rfl, hb1⟩
  have HB1 := Box.mk hb1
  clear hb1 HFM
  by_cases h0 : s.size = 0
  · have he := empty_s h0
    have HP := Box.mk (HN.out (.inl h0))
    clear h0
    go_wp2_with fail
    go_ret
    rw [HP.out]
    exact ⟨_, rfl, .inl ⟨rfl, rfl⟩, HB1.out⟩
  · have he := full_s h0
    have H0 := Box.mk h0
    have hs1 : 0 < s.size := by omega
    clear h0
    rcases HC.out with ⟨hv, hf, hf0⟩ | ⟨hv, hf, hx0⟩
    · have HP := Box.mk (HY.out H0.out hv)
      have HF := Box.mk hf
      have hfz : f.size ≤ 100 * 2097156 := by
        have h2 := congrArg List.length hf
        rw [Array.length_toList] at h2
        have h3 : f.data.size = f.size := rfl
        have := HL.out
        omega
      have hadd1 := fun W => run_string_add_sum (P := Tryd.prog) (w := W) s ⟨#[13, 10]⟩ (by show s.size + 2 ≤ _; omega)
      obtain ⟨s1, hs1⟩ : ∃ s1, s1 = s ++ (⟨#[13, 10]⟩ : ByteArray) := ⟨_, rfl⟩
      rw [← hs1] at hadd1
      have hs1z : s1.size = s.size + 2 := by rw [hs1, ByteArray.size_append]; rfl
      have hadd2 := fun W => run_string_add_sum (P := Tryd.prog) (w := W) s1 f (by omega)
      obtain ⟨s2, hs2⟩ : ∃ s2, s2 = s1 ++ f := ⟨_, rfl⟩
      rw [← hs2] at hadd2
      have hs2z : s2.size = s.size + 2 + f.size := by rw [hs2, ByteArray.size_append, hs1z]
      have hadd3 := fun W => run_string_add_sum (P := Tryd.prog) (w := W) s2 ⟨#[13, 10]⟩ (by show s2.size + 2 ≤ _; omega)
      obtain ⟨s3, hs3⟩ : ∃ s3, s3 = s2 ++ (⟨#[13, 10]⟩ : ByteArray) := ⟨_, rfl⟩
      rw [← hs3] at hadd3
      have HS3 := Box.mk (show s3.data.toList = R by
        rw [HP.out, hs3, hs2, hs1, ← HF.out]
        simp)
      have hs3z : s3.size = s2.size + 2 := by rw [hs3, ByteArray.size_append]; rfl
      have HZ3 := Box.mk (show s3.size ≤ 4000000000 by rw [hs3z, hs2z]; omega)
      have hcvb := fun W => Lib.run_convert_string_bytes (P := Tryd.prog) W 9 26 5 s3 Tryd.underlying9 Tryd.underlying26 Tryd.underlying5
      have HRL := Box.mk (show R.length = s3.size by rw [← HS3.out, Array.length_toList]; rfl)
      have HW := Box.mk (fun W => OwnM.conv W s3 ?hz)
      case hz => exact HZ3.out
      clear hs1 hs2 hs3 hs1z hs2z hv hf HC HN HY HL hs3z
      by_cases hfe : f.size = 0
      · have hfe2 := empty_s hfe
        obtain rfl := hf0 hfe
        clear hf0 hfe
        go_wp2_with fail
        go_ret
        have how := HW.out w1
        rw [HS3.out] at how
        exact ⟨_, rfl, .inr (how.low HB1.out.size), below_trans HB1.out (below_convH _ _ _)⟩
      · have hfe2 := full_s hfe
        clear hf0 hfe
        go_wp2_with fail
        go_ret
        have how := HW.out w1
        rw [HS3.out] at how
        exact ⟨_, rfl, .inr (how.low HB1.out.size), below_trans HB1.out (below_convH _ _ _)⟩
    · have he2 := empty_s hf
      have HP := Box.mk (HN.out (.inr hv))
      have hxl : 0 < x.length := List.length_pos_iff.2 hx0
      clear hv hx0 HN HY HC hf
      go_wp2_with fail
      go_ret
      rw [HP.out]
      exact ⟨_, rfl, .inl ⟨rfl, rfl⟩, HB1.out⟩
set_option maxRecDepth 100000 in
set_option maxHeartbeats 4000000 in
theorem join_any (B : Nat) (v : Value) (l d : List UInt8) (da : Option Addr) (dc : Nat) (w : World) (h : Hdo B w v l) (hd : IsBytes w da d dc) (hl : l.length + d.length ≤ 1000000000) (hB : B ≤ w.heap.size) :
    Calls Tryd.prog 21 #[v, .slice da d.length dc] w fun e w' => ∃ v', e = .returned v' ∧ Hdo B w' v' (wrB l d) ∧ w.grownBy w' v.ownBlock := by
  by_cases h0 : l.length = 0
  · obtain ⟨a, c, rfl, hb⟩ := h.form
    have HW := Box.mk (show wrB l d = [] from if_pos h0)
    rw [h0]
    clear h hb hd hl h0
    go_enter Tryd.func21, Tryd.ntmps21
    go_wp2_with fail
    go_ret
    exact ⟨_, rfl, .inl ⟨HW.out, rfl⟩, ⟨rfl, rfl, rfl, Nat.le_refl _, fun _ _ _ => rfl⟩⟩
  · have ho : OwnM B w v l := by
      rcases h with ⟨rfl, _⟩ | h
      · exact absurd rfl h0
      · exact h
    obtain ⟨g, c, rfl, _, hib⟩ := ho.form
    have HW := Box.mk (show wrB l d = l ++ d from if_neg h0)
    have HO := Box.mk ho
    have HD := Box.mk hd
    have HL := Box.mk hl
    have hz : ((l.length : Int) == 0) = false := by rw [beq_eq_false_iff_ne]; omega
    clear h hd hl h0 ho hib
    go_enter Tryd.func21, Tryd.ntmps21
    go_wp2_with (at_builtin; refine wpList_append_mb _ rfl _ _ rfl rfl HO.out rfl HD.out HL.out hB ?c9)
    case c9 =>
      intro v7 w7 hown7 hg7 hn7
      have HR := Box.mk (And.intro hown7 hg7)
      clear hown7 hg7 hn7
      go_wp2_with fail
      go_ret
      exact ⟨v7, rfl, .inr (by rw [HW.out]; exact HR.out.1), HR.out.2⟩
set_option maxRecDepth 100000 in
set_option maxHeartbeats 4000000 in
theorem projFmtRepO_any (m : Int) (t : ByteArray) (z : Int) (x : List Fld) (fa ba : Option Addr) (fc bn bc : Nat) (w : World) (ht : t.size ≤ 1000000000) (hx : FldsIn w fa x) (hz : SmallF x) (hl : x.length ≤ 100) (hq : (fmtRep m t z).size ≤ 3000000000) (htb : Tabs w) :
    Calls Tryd.prog 22 #[.agg #[.int .i64 m, .string t, .int .i64 z, .slice fa x.length fc, .slice ba bn bc]] w (RetHdO w (headB (fmtRep m t z) x)) := by
  obtain ⟨W0, hW0⟩ : ∃ W0, W0 = w.alloc (.cells #[.int .i64 m, .string t, .int .i64 z, .slice fa x.length fc, .slice ba bn bc] 28) := ⟨_, rfl⟩
  have HB0 := Box.mk (show Below w.heap.size w W0 by rw [hW0]; exact below_oneF w _)
  have HR := Box.mk (show W0.heap[w.heap.size]? = some (.cells #[.int .i64 m, .string t, .int .i64 z, .slice fa x.length fc, .slice ba bn bc] 28 (0, 0)) by rw [hW0]; exact heap_alloc_new _ _)
  have HX := Box.mk (hx.keep HB0.out)
  have HZ := Box.mk hz
  have HTB := Box.mk htb
  have HQ := Box.mk hq
  have HW0 := Box.mk hW0
  have row1 : ∀ w', Below W0.heap.size W0 w' → w'.heap[w.heap.size]? = some (.cells #[.int .i64 m, .string t, .int .i64 z, .slice fa x.length fc, .slice ba bn bc] 28 (0, 0)) := fun w' hb => by rw [hb.block _ (lt_row HR.out)]; exact HR.out
  have ROW1 := Box.mk row1
  clear hx hz hW0 hq row1 htb
  go_enter Tryd.func22, Tryd.ntmps22
  go_wp2_with fail
  rw [← HW0.out]
  clear HW0
  rename_i K hK
  refine wp_region_local (S := [.val (.agg #[.int .i64 m, .string t, .int .i64 z, .slice fa x.length fc, .slice ba bn bc]), .val (.string (fmtRep m t z)), .val (.pointer (some ⟨w.heap.size, 3, none⟩)), .val (.slice fa x.length fc), .hdo w.heap.size (headB (fmtRep m t z) x), .hdo w.heap.size (headB (fmtRep m t z) x)])
    (by kernel_rfl) (by kernel_rfl) (by kernel_rfl) ?_ ?_
  · refine ⟨?_, ?_, ?_, ?_, ?_, ?_, trivial⟩ <;> intro a w3 hb hf hd
    · exact ⟨wanted_none rfl, loc_load rfl (by rw [show a.eval (.tmp 1) = .pointer (some ⟨w.heap.size, 0, none⟩) from hf.base 1 rfl]; exact run_loadRep _ _ (ROW1.out w3 hb)) rfl⟩
    · refine ⟨wanted_none rfl, loc_call rfl (by kernel_rfl) ?_⟩
      show Calls _ _ #[a.eval (.tmp 3)] w3 _
      rw [show a.eval (.tmp 3) = _ from hd 0 rfl]
      refine (projFormatRep_any m t z fa ba x.length fc bn bc w3 ht (tabs_below HTB.out (below_trans HB0.out hb))).mono ?_
      rintro e w' ⟨rfl, hb'⟩
      exact ⟨_, rfl, hb', rfl⟩
    · exact ⟨wanted_none rfl, loc_fieldA rfl (hf.base 1 rfl) (by decide) rfl⟩
    · exact ⟨wanted_none rfl, loc_cell rfl (hd 2 rfl) (by rw [cell_of_row _ _ _ _ _ _ (ROW1.out w3 hb)]; rfl) (agg_fields _) rfl⟩
    · refine ⟨wanted_none rfl, loc_call rfl (by kernel_rfl) ?_⟩
      show Calls _ _ #[a.eval (.tmp 4), a.eval (.tmp 6)] w3 _
      rw [show a.eval (.tmp 4) = _ from hd 1 rfl, show a.eval (.tmp 6) = _ from hd 3 rfl]
      refine (projFormatO_any (fmtRep m t z) x fa fc w3 (HX.out.keep hb) HZ.out hl HQ.out).mono ?_
      rintro e w' ⟨v5, rfl, ho5, hb'⟩
      exact ⟨_, rfl, hb', ho5.low (Nat.le_trans HB0.out.size hb.size)⟩
    · exact ⟨wanted_none rfl, loc_assign rfl (hd 4 rfl)⟩
  · intro a w3 hb hf hh
    refine hK a w3 ?_
    have ho : Hdo w.heap.size w3 (a.eval (.tmp 2)) (headB (fmtRep m t z) x) := hh 5 (by decide)
    go_wp2_with fail
    exact local_ret rfl hf.defers rfl ⟨_, rfl, ho, below_trans HB0.out hb⟩
set_option maxRecDepth 100000 in
set_option maxHeartbeats 4000000 in
theorem projRep_any (m : Int) (t : ByteArray) (z : Int) (x : List Fld) (d : List UInt8) (fa ba : Option Addr) (fc bc : Nat) (mm : Int) (w : World) (ht : t.size ≤ 1000000000) (hx : FldsIn w fa x) (hz : SmallF x) (hl : x.length ≤ 100) (hq : (fmtRep m t z).size ≤ 3000000000) (hd : IsBytes w ba d bc) (hdl : (headB (fmtRep m t z) x).length + d.length ≤ 1000000000) (hk : Tabs w) :
    Calls Tryd.prog 17 #[.agg #[.int .i64 m, .string t, .int .i64 z, .slice fa x.length fc, .slice ba d.length bc]] w (RetHdO w (wrB (headB (fmtRep m t z) x) d)) := by
  obtain ⟨W1, hW1⟩ : ∃ W1, W1 = w.alloc (.cells #[.int .i64 m, .string t, .int .i64 z, .slice fa x.length fc, .slice ba d.length bc] 28) := ⟨_, rfl⟩
  have HB1 := Box.mk (show Below w.heap.size w W1 by rw [hW1]; exact below_oneF _ _)
  have HQ1 := Box.mk (show W1.heap[w.heap.size]? = some (.cells #[.int .i64 m, .string t, .int .i64 z, .slice fa x.length fc, .slice ba d.length bc] 28 (0, 0)) by rw [hW1]; exact heap_alloc_new _ _)
  have HX := Box.mk (hx.keep HB1.out)
  have HD := Box.mk (hd.keep HB1.out)
  have HZ := Box.mk hz
  have HXL := Box.mk hl
  have HDL := Box.mk hdl
  have HH := Box.mk (And.intro ht hq)
  have HK := Box.mk hk
  have HW1 := Box.mk hW1
  have ROW1 := Box.mk (show ∀ w', Below W1.heap.size W1 w' → w'.heap[w.heap.size]? = some (.cells #[.int .i64 m, .string t, .int .i64 z, .slice fa x.length fc, .slice ba d.length bc] 28 (0, 0)) from fun w' hb => (hb.block _ (lt_row HQ1.out)).trans HQ1.out)
  clear hx hd hz hl hdl ht hq hW1 hk
  go_enter Tryd.func17, Tryd.ntmps17
  go_wp2_with fail
  rw [← HW1.out]
  clear HW1
  rename_i K hK
  refine wp_region_phasesW [4] (fun p => match p with | 0 => [0, 1, 2, 3] | _ => [5])
    (fun p => match p with
      | 0 => [.val (.agg #[.int .i64 m, .string t, .int .i64 z, .slice fa x.length fc, .slice ba d.length bc]), .hdo w.heap.size (headB (fmtRep m t z) x), .val (.pointer (some ⟨w.heap.size, 4, none⟩)), .val (.slice ba d.length bc), .nope, .nope]
      | _ => [.any, .any, .any, .any, .hdo w.heap.size (wrB (headB (fmtRep m t z) x) d), .hdo w.heap.size (wrB (headB (fmtRep m t z) x) d)])
    (fun p => match p with
      | 0 => fun wx => Below W1.heap.size W1 wx
      | _ => fun wx => Below w.heap.size w wx)
    (by kernel_rfl) (by kernel_rfl) (by kernel_rfl) (by kernel_rfl) (by kernel_rfl) (by kernel_rfl) ?_ (Below.refl _ _) ?_ ?_ ?_
  · intro ph w1' w2' h hb
    match ph, h with
    | 0, h => exact below_trans h hb
    | (_ + 1), h => exact below_trans h hb
  · intro ph hph
    match ph, hph with
    | 0, _ =>
      refine ⟨?_, ?_, ?_, ?_, trivial⟩ <;> intro a w3 hb hf hd
      · exact ⟨wanted_none rfl, loc_load rfl (by rw [show a.eval (.tmp 1) = .pointer (some ⟨w.heap.size, 0, none⟩) from hf.base 1 rfl]; exact run_loadRep _ _ (ROW1.out w3 hb)) rfl⟩
      · refine ⟨wanted_none rfl, loc_call rfl (by kernel_rfl) ?_⟩
        show Calls _ _ #[a.eval (.tmp 3)] w3 _
        rw [show a.eval (.tmp 3) = _ from hd 0 rfl]
        refine (projFmtRepO_any m t z x fa ba fc d.length bc w3 HH.out.1 (HX.out.keep hb) HZ.out HXL.out HH.out.2 (tabs_below HK.out (below_trans HB1.out hb))).mono ?_
        rintro e w' ⟨v5, rfl, ho5, hb'⟩
        exact ⟨_, rfl, hb', ho5.low (Nat.le_trans HB1.out.size hb.size)⟩
      · exact ⟨wanted_none rfl, loc_fieldA rfl (hf.base 1 rfl) (by decide) rfl⟩
      · exact ⟨wanted_none rfl, loc_cell rfl (hd 2 rfl) (by rw [cell_of_row _ _ _ _ _ _ (ROW1.out w3 hb)]; rfl) (agg_slcG _) rfl⟩
    | 1, _ =>
      refine ⟨?_, trivial⟩
      intro a w3 hb hf hd
      exact ⟨wanted_none rfl, loc_assign rfl (hd 4 rfl)⟩
  · intro ph hph
    match ph, hph with
    | 0, _ =>
      intro a2 w2 hv hf hd
      have ho4 : Hdo w.heap.size w2 (a2.eval (.tmp 4)) (headB (fmtRep m t z) x) := hd 1 rfl
      refine ⟨wanted_none rfl, chain_call rfl (by kernel_rfl) ?_⟩
      show Calls _ _ #[a2.eval (.tmp 4), a2.eval (.tmp 6)] w2 _
      rw [show a2.eval (.tmp 6) = _ from hd 3 rfl]
      have hs2 : w.heap.size ≤ w2.heap.size := Nat.le_trans HB1.out.size hv.size
      refine (join_any w.heap.size (a2.eval (.tmp 4)) (headB (fmtRep m t z) x) d ba bc w2 ho4 (HD.out.keep hv) HDL.out hs2).mono ?_
      rintro e w' ⟨v', rfl, ho, hg⟩
      exact ⟨_, rfl, _, rfl, (below_trans HB1.out hv).grown hg hs2 ho4.block, ho,
        ⟨.inr fun _ _ _ => trivial, .inr fun _ _ _ => trivial, .inr fun _ _ _ => trivial, .inr fun _ _ _ => trivial, .inl rfl, .inr fun _ _ h => h.elim, trivial⟩⟩
  · intro a2 w2 hv hf hh
    have ho : Hdo w.heap.size w2 (a2.eval (.tmp 2)) (wrB (headB (fmtRep m t z) x) d) := hh 5 (by decide)
    have hb : Below w.heap.size w w2 := hv
    clear hh
    refine hK a2 w2 ?_
    go_wp2_with fail
    exact local_ret rfl hf.defers rfl ⟨_, rfl, ho, hb⟩
end Go.Proofs.YteoadfckcilalaaDoor
namespace Go.Proofs.YteoadfckcilalaaDoor
open Go.RowKit

/-- The reader's state. -/
structure RS where
  rep : Bool
  meth : ByteArray
  ph : Int
  m : ByteArray
  t : ByteArray
  z : Int
  xs : List Fld
  fr : Bool
  st : Int
  rs : ByteArray
  z2 : Int
  ys : List Fld
  fk : Int
  fl : Int
  left : Int
  size : Int
  ck : Chk
/-- What Next returns: error, state, kind, bytes of the body, bytes that were consumed. -/
structure NX where
  er : Int
  r : RS
  kind : Int
  data : List UInt8
  n : Nat
end Go.Proofs.YteoadfckcilalaaDoor
namespace Go.Proofs.YteoadfckcilalaaDoor
open Go.RowKit

theorem row_awayR {w : World} {g : Nat} {cs : Array Value} {T : TypeId} {fz : Nat × Nat} (h : w.heap[g]? = some (.cells cs T fz)) (hn : ∀ (i : Nat) (z : Int), cs[i]? ≠ some (.int .u8 z)) {a : Option Addr} {l : List UInt8} {c : Nat} (hb : IsBytes w a l c) : ∀ x, a = some x → l ≠ [] → x.block ≠ g := by
  intro x hx hl hg
  rcases hb with ⟨h1, _⟩ | ⟨y, h1, _, _, h4⟩
  · rw [h1] at hx; cases hx
  · rw [h1] at hx
    obtain rfl := Option.some.inj hx
    have h5 := h4 0 (List.length_pos_iff.2 hl)
    have h6 : w.heap[(y.add 0).block]? = some (.cells cs T fz) := by rw [add_blockC, hg]; exact h
    unfold World.cell? at h5
    rw [h6] at h5
    simp only at h5
    split at h5
    · cases h5
    · exact hn _ _ h5
theorem noU8_22 {cs : Array Value} (h : cs.toList.all (fun v => match v with | .int .u8 _ => false | _ => true) = true) : ∀ (i : Nat) (z : Int), cs[i]? ≠ some (.int .u8 z) := fun i z e => by
  have h1 := List.all_eq_true.1 h (.int .u8 z) (by
    have : cs.toList[i]? = some (.int .u8 z) := by rw [Array.getElem?_toList]; exact e
    exact List.mem_of_getElem? this)
  cases h1
set_option linter.unusedVariables false
section
variable (B : Nat → Prop) (s : RS) (b : List UInt8) (body room : Int) (ba : Option Addr) (bc : Nat) (fa ga la : Option Addr) (fc gc lc : Nat) (w : World)
end
end Go.Proofs.YteoadfckcilalaaDoor
namespace Go.Proofs.YteoadfckcilalaaDoor
open Go.RowKit

/-- No byte lies in this row. -/
def NoU8 (cs : Array Value) : Prop := ∀ (i : Nat) (z : Int), cs[i]? ≠ some (.int .u8 z)
theorem results_r {P : Program} {fn : Func} {p1 : Tmp} {ty1 : TypeId} (h : fn.results = #[.cell p1 ty1]) (tmps : Array Value) (w : World) (g1 : Nat) (t1 : TypeId) (c1 : Array Value) (f1 : Nat × Nat) (d1 : TypeDesc)
    (hp1 : tmps.getD p1 undef = .pointer (some ⟨g1, 0, none⟩)) (hg1 : w.heap[g1]? = some (.cells c1 t1 f1))
    (hu1 : P.underlying ty1 = some d1) (hd1 : (match d1 with | .struct _ | .array _ _ => true | _ => false) = true) (hi1 : (P.info? ty1).map (·.size) = some c1.size) :
    (results fn tmps).run P w = .ok (.agg c1) w := by
  have hp1' : tmps[p1]?.getD undef = .pointer (some ⟨g1, 0, none⟩) := by simpa using hp1
  simp [results, h, hp1', asAddr, run_loadVar_row w g1 t1 ty1 c1 f1 d1 hg1 hu1 hd1 hi1]
end Go.Proofs.YteoadfckcilalaaDoor
namespace Go.Proofs.YteoadfckcilalaaDoor
open Go.RowKit

theorem OwnF.one (w : World) (f : Fld) : OwnF w.heap.size (w.alloc (.cells #[.string f.1, .string f.2] 38)) (.slice (some ⟨w.heap.size, 0, none⟩) 1 1) [f] :=
  ⟨rfl, .inr ⟨_, 1, _, rfl, Nat.le_refl _, heap_alloc_new _ _, Nat.le_refl _, by decide, rfl, rfl⟩⟩
theorem OwnF.in {B : Nat} {w : World} {a : Option Addr} {l : List Fld} {n c : Nat} (h : OwnF B w (.slice a n c) l) : FldsIn w a l := by
  obtain ⟨a', c', e, h1, _⟩ := h.shape
  injection e with e1
  subst e1
  exact h1.1
end Go.Proofs.YteoadfckcilalaaDoor
namespace Go.Proofs.YteoadfckcilalaaDoor
open Go.RowKit

section
variable {Q : Exit → Act → World → Prop} {act : Act} {w : World} {o : Oper} {s : Spec}
end
theorem FldsIn.grown {w w' : World} {a : Option Addr} {l : List Fld} {row : Option Nat} (h : FldsIn w a l) (hg : w.grownBy w' row) (hne : ∀ x, a = some x → some x.block ≠ row) : FldsIn w' a l := fun j hj => by
  obtain ⟨x, e, h1, h2⟩ := h j hj
  refine ⟨x, e, ?_, ?_⟩
  · rw [World.cell?_of_block (hg.block _ (lt_cell h1) (by rw [add_blockF]; exact hne x e))]; exact h1
  · rw [World.cell?_of_block (hg.block _ (lt_cell h2) (by rw [add_blockF]; exact hne x e))]; exact h2
section
variable (b : Option Addr) (nb cb : Nat) (lr : List Fld) (ar : Option Addr) (cr : Nat) (method : ByteArray) (status minor : Int) (wild : Bool) (mm : Int) (w : World)
end
end Go.Proofs.YteoadfckcilalaaDoor
namespace Go.Proofs.YteoadfckcilalaaDoor
open Go.RowKit

section
variable {ops : Array Oper} {rest : List Oper} {o : Oper} {act : Act} {Q : Exit → Act → World → Prop}
/-- APPEND of a slice of fields that is read to an own one: what the append leaves alone. -/
theorem wpList_append_ownfs (w : World) (hgd : o.guard = none) (s x : Operand) (ho : o.op = .call { callee := .builtin .append, args := #[s, x], argTypes := #[22, 22] })
    {B : Nat} {v : Value} {l : List Fld} (hs : act.eval s = v) (h : OwnF B w v l) {a : Option Addr} {r : List Fld} {c : Nat} (hx : act.eval x = .slice a r.length c) (hr : FldsC w a r c)
    (hn : l.length + r.length ≤ 4398046511104) (hB : B ≤ w.heap.size)
    (K : ∀ v' w', OwnF B w' v' (l ++ r) → w.grownBy w' v.ownBlock → wpList Tryd.prog ops Q rest (act.put o.dst v') w') : wpList Tryd.prog ops Q (o :: rest) act w := by
  obtain ⟨i0, hi, hz0, hz1, hz2⟩ := info_parts Tryd.info38
  cases a with
  | none =>
    obtain ⟨rfl, rfl⟩ := hr.2 rfl
    refine wpList_append_own_none hgd s x 22 ho B 38 i0 2 Tryd.underlying22 hi v l.length (cellsF l) hs h hx (K _ _ ?_ ⟨rfl, rfl, rfl, Nat.le_refl _, fun _ _ _ => rfl⟩)
    rw [List.append_nil]; exact h
  | some ad =>
    refine wpList_append_own_at w hgd s x 22 ho B 38 i0 _ 2 32 Tryd.underlying22 hi hz0 hz1 hz2 rfl (by decide) v l.length (cellsF l) hs h ad r.length c (cellsF r) hx (cellsF_len r) (hr.1.cells) (cellsF_one r) (by unfold maxLen; omega) (by omega) hB ?_
    intro v' w' hown hgrow _ _
    refine K v' w' ?_ hgrow
    unfold OwnF
    rw [List.length_append, cellsF_app]; exact hown
end
section
variable {Q : Exit → Act → World → Prop} {act : Act} {w : World} {o : Oper} {s : Spec} {K : Act → World → Prop}
end
end Go.Proofs.YteoadfckcilalaaDoor
namespace Go.Proofs.YteoadfckcilalaaDoor
open Go.RowKit

set_option linter.unusedVariables false
theorem isBytes_rowR {w : World} {g : Nat} {cs : Array Value} {T : TypeId} {fz : Nat × Nat} {ds : Array Value} {a : Option Addr} {l : List UInt8} {c : Nat} (h : w.heap[g]? = some (.cells cs T fz)) (hn : NoU8 cs) (f : IsBytes w a l c) : IsBytes (w.setRow g ds) a l c := f.same fun x e hl => setRow_other _ _ _ _ (row_awayR h hn f x e hl)
section
variable {Q : Exit → Act → World → Prop} {act : Act} {w : World} {o : Oper} {s : Spec}
end
end Go.Proofs.YteoadfckcilalaaDoor
namespace Go.Proofs.YteoadfckcilalaaDoor
open Go.RowKit

set_option linter.unusedVariables false
/-- No name lies in this row: its strings are empty. -/
def NoStr (cs : Array Value) : Prop := ∀ (i : Nat) (b : ByteArray), cs[i]? = some (.string b) → b.size = 0
theorem noStr_of {cs : Array Value} (h : cs.toList.all (fun v => match v with | .string b => b.size == 0 | _ => true) = true) : NoStr cs := fun i b e => by
  have h1 := List.all_eq_true.1 h (.string b) (by
    have : cs.toList[i]? = some (.string b) := by rw [Array.getElem?_toList]; exact e
    exact List.mem_of_getElem? this)
  exact eq_of_beq h1
theorem flds_away {w : World} {g : Nat} {cs : Array Value} {T : TypeId} {fz : Nat × Nat} (h : w.heap[g]? = some (.cells cs T fz)) (hn : NoStr cs) {a : Option Addr} {l : List Fld} (hb : FldsIn w a l) (hl : ∀ f ∈ l, ¬ f.1.size = 0) : ∀ y, a = some y → l ≠ [] → y.block ≠ g := by
  intro y hy hne hg
  have h0 := List.length_pos_iff.2 hne
  obtain ⟨x, hx, h5, _⟩ := hb 0 h0
  rw [hy] at hx
  obtain rfl := Option.some.inj hx
  have h6 : w.heap[(y.add (0 * 2)).block]? = some (.cells cs T fz) := by rw [add_blockC, hg]; exact h
  unfold World.cell? at h5
  rw [h6] at h5
  simp only at h5
  split at h5
  · cases h5
  · exact hl l[0] (List.getElem_mem h0) (hn _ _ h5)
section
variable {L : (Nat → Prop) × (Nat → Prop)} {N q : Nat} {s : RS} {x : NX} {w : World} {v : Value} {cs ds : Array Value} {T : TypeId} {fz : Nat × Nat}
end
section
variable {Q : Exit → Act → World → Prop} {a : Act} {w : World} {o : Oper} {s : Spec}
end
end Go.Proofs.YteoadfckcilalaaDoor
