/- Contracts of the small functions of package ascii and of its reference: one byte, and loops over the bytes of a string. Contracts of Lower and Fold, of package ascii and of its reference. Plain facts on lists of bytes: trimming from both ends. Slices of strings in memory: one that is read, one that the call appends to, one that is kept beside it. The numbers that the shelf's contracts of Go's library (package strings, package strconv) have in this seat's translation: nothing is claimed here by itself. Contracts of Fold, Value, Trim, of package ascii and of its reference. Contracts of Same, Split and List, of package ascii and of its reference. Opening arguments: a byte, a slice of bytes. Slices of bytes in memory: one that the call appends to; slices of numbers that are read. A region that draws its order, whose operations all leave the world in a class, but for the last one, which waits for all of them. A region that draws its order, by what each operation leaves: one fact an operation, whatever the order. Appending a slice of bytes that came in to a slice of the call's own; the law HashWrite at open arguments; what the bound on the arguments gives. More of a region's single operations: comparisons, lengths, slices of slices that are built. A region that draws its order and stores once, by what each operation leaves. SHA-256 in plain words, over words of 32 bits; how the arithmetic of the translated code is spelt at them. Fields: Valid of package field and of its reference; a field's line. Slices of fields in memory: read, appended to, opened among the arguments. Values, Has and Without, in the reference. Values, Without and Has of package field. With: appends of whole slices of fields, slices.Grow and slices.Concat. slices.Concat, With of package field and of its reference, SameFields. Text, by the library's Builder and in the reference. Format, by the library's Builder and in the reference. A region that draws its order, in phases: between its breaking operations the others come in whatever order. The source of numbers of the laws: Within, Next, Of. Fields of the source; fields and name of the laws. The plain mathematics of numerals: digits, their value with a limit, and that a numeral is read as its number. Contracts of the reference's functions that write a number. Split at the question mark, the version of a line, spoil; in the reference and the laws. Words of a line, rune by rune and byte by byte: plain mathematics. strings.Cut at any byte, strings.HasPrefix, strings.CutPrefix; Split and the versions, of package startline. Targets, reasons and versions, of package startline. FormatRequestLine of the reference. FormatStatusLine of the reference. ParseStatusLine of the reference. fields, name and awake of the laws; Short. The law FieldWithout. -/
import Derived.Test.YteoadfckcilalaaDoorRows
import Derived.WalkKit
import Derived.WalkSpells
import Derived.WalkLawsBesides
import Derived.BigQuiet
import Derived.Deep.QuietTactic
import Derived.Lib.Bytealg
import Derived.Lib.IndexLaws
import Derived.Lib.Hide
import Derived.Laws.IdiomStrings
import Derived.Lib.SlTrimSet
import Derived.Lib.IndexBytes
import Derived.Lib.Split
import Derived.Deep.AppendLies
import Derived.Shelf.Strings.SlTrimAscii
import Derived.Shelf.Strings.SplitShaped
import Derived.Shelf.LaysM
import Derived.Shelf.Strings.BuilderK
import Derived.Shelf.Strconv.Itoa4
import Derived.Shelf.Strings.Prefix
import Derived.Shelf.Bytes.SlIndexWhole
import Derived.Test.YteoadfckcilalaaDoorProg
import Derived.Lib.SplitLaws
import Derived.WalkSmall
import Derived.ProofKit
import Derived.OpenShut
import Derived.Lib.Strings
import Derived.Deep.Quiet
import Derived.Tactics
import Derived.KernelRfl
import Derived.Below
import Derived.Laws.Bits64
import Derived.SliceStrings
import Derived.Lib.SlBytesConst
import Derived.Maps.AppendAt
import Derived.Laws.AppendOwnNone
import Derived.Great.BuildSlice
import Derived.Laws.Rows
import Derived.Laws.BitsAllLaws
import Derived.Laws.Shifts
import Derived.Maps.OwnOps
import Derived.Maps.OwnSet
import Derived.Deep.SlicePairs
import Derived.Lib.AppendZerosOnto
import Derived.Lib.AppendStr
import Derived.Laws.CopyOwn
import Derived.OwnWalk
import Derived.Laws.Strings3
import Derived.Laws.Concat
import Derived.Lib.ItoaMem
import Derived.IntWalk
import Derived.Laws.RangeAny
import Derived.LoopTactic
namespace Go.Proofs.YteoadfckcilalaaDoor
open Go.RowKit

theorem ret_bool {a b : Bool} (h : a = b) : Ending.returned (.bool a) = .returned (.bool b) := by rw [h]
theorem ret_int {k : IntKind} {a b : Int} (h : a = b) : Ending.returned (.int k a) = .returned (.int k b) := by rw [h]
theorem ret_str {a b : ByteArray} (h : a = b) : Ending.returned (.string a) = .returned (.string b) := by rw [h]

def upB (c : Int) : Bool := decide (65 ≤ c) && decide (c ≤ 90)
def digB (c : Int) : Bool := decide (48 ≤ c) && decide (c ≤ 57)
def loB (c : Int) : Bool := decide (97 ≤ c) && decide (c ≤ 122)
def marks : ByteArray := ⟨#[33, 35, 36, 37, 38, 39, 42, 43, 45, 46, 94, 95, 96, 124, 126]⟩
def hasS (s : ByteArray) (c : UInt8) : Bool := s.data.toList.contains c
def tokB (c : UInt8) : Bool := upB c.toNat || loB c.toNat || digB c.toNat || hasS marks c
def tokS (s : ByteArray) : Bool := s.data.toList.all tokB && !s.data.toList.isEmpty

theorem take_snoc (s : ByteArray) (k : Nat) (h : k < s.size) : s.data.toList.take (k + 1) = s.data.toList.take k ++ [s[k]] := by
  rw [List.take_succ_eq_append_getElem (by simpa using h)]; rfl
theorem take_all (s : ByteArray) (k : Nat) (h : k ≤ s.size) (h2 : ¬ k < s.size) : s.data.toList.take k = s.data.toList := by
  rw [List.take_of_length_le]; simp; omega
theorem mem_at (s : ByteArray) (k : Nat) (h : k < s.size) : s[k] ∈ s.data.toList := by
  show s.data[k] ∈ s.data.toList
  simp

theorem toList_isEmpty (s : ByteArray) : s.toList.isEmpty = s.data.isEmpty := by
  rw [ByteArray.toList_eq s]; simp

set_option maxRecDepth 100000 in
set_option maxHeartbeats 400000 in
theorem indexByteLite_any (s : ByteArray) (c : UInt8) (w : World) :
    Calls Tryd.prog 57 #[.string s, .int .u8 c.toNat] w fun e w' => e = .returned (.int .i64 (Lib.indexByte s.data.toList c)) ∧ w = w' := by
  go_enter Tryd.func57, Tryd.ntmps57
  go_wp2
  rw [run_callFunc_extern Tryd.func65 (by kernel_rfl) (by kernel_rfl) (by kernel_rfl) (e := Extern.BytealgIndexByte.indexByte) (by kernel_rfl), Lib.run_indexByteString]
  simp only [Result.andThen]
  rw [Oper.upon_value]
  go_wp2
  go_ret
  exact ⟨ret_int (by simp), rfl⟩

set_option maxHeartbeats 400000 in
theorem indexByte_any (s : ByteArray) (c : UInt8) (w : World) :
    Calls Tryd.prog 55 #[.string s, .int .u8 c.toNat] w fun e w' => e = .returned (.int .i64 (Lib.indexByte s.data.toList c)) ∧ w = w' := by
  go_enter Tryd.func55, Tryd.ntmps55
  go_wp2_with (go_at_call 57; refine (indexByteLite_any _ _ _).mono ?_; rintro e w' ⟨rfl, rfl⟩)
  go_ret
  exact ⟨rfl, rfl⟩

theorem indexByte_has (s : ByteArray) (c : UInt8) : decide (0 ≤ Lib.indexByte s.data.toList c) = hasS s c := by
  have hge := Lib.indexByte_ge s.data.toList c
  unfold hasS
  by_cases h : Lib.indexByte s.data.toList c = -1
  · have := Lib.indexByte_none h
    rw [h, Bool.eq_iff_iff]
    simp only [Int.reduceNeg, decide_eq_true_eq, List.contains_iff_mem]
    constructor
    · intro h; omega
    · intro hm; obtain ⟨k, hk⟩ := List.mem_iff_getElem?.1 hm; exact absurd hk (this k)
  · obtain ⟨o, ho⟩ : ∃ o : Nat, Lib.indexByte s.data.toList c = o := ⟨(Lib.indexByte s.data.toList c).toNat, by omega⟩
    have := (Lib.indexByte_some ho).1
    rw [ho, Bool.eq_iff_iff]
    simp only [decide_eq_true_eq, List.contains_iff_mem]
    exact ⟨fun _ => List.mem_of_getElem? this, fun _ => by omega⟩

set_option maxHeartbeats 400000 in
theorem isTokenByte_any (c : UInt8) (w : World) :
    Calls Tryd.prog 50 #[.int .u8 c.toNat] w fun e w' => e = .returned (.bool (tokB c)) ∧ w = w' := by
  have hi := indexByte_has marks c
  have HI := Lib.hid hi
  clear hi
  have b1 : (c.toNat : Int) ≤ 255 := by have := c.toNat_lt; omega
  go_enter Tryd.func50, Tryd.ntmps50
  go_wp2_with (first | (go_at_call 55; refine (indexByte_any marks _ _).mono ?_; rintro e w' ⟨rfl, rfl⟩) | (go_at_call 54; go_in))
  all_goals go_ret
  all_goals exact ⟨ret_bool (by
    unfold tokB
    rw [← HI.out]
    generalize Lib.indexByte marks.data.toList c = n
    rw [Bool.eq_iff_iff]
    simp [upB, loB, digB]
    omega), rfl⟩

theorem tokS_no {s : ByteArray} {k : Nat} (hlt : k < s.size) (hc : tokB s[k] = false) : false = tokS s := by
  unfold tokS
  have : s.data.toList.all tokB = false := by
    rw [Bool.eq_false_iff]; intro h
    have := List.all_eq_true.1 h _ (mem_at s k hlt); rw [hc] at this; cases this
  rw [this]; rfl

set_option maxHeartbeats 400000 in
theorem token_any (s : ByteArray) (w : World) (hs : s.size ≤ maxLen) :
    Calls Tryd.prog 45 #[.string s] w fun e w' => e = .returned (.bool (tokS s)) ∧ w = w' := by
  unfold maxLen at hs
  go_enter Tryd.func45, Tryd.ntmps45
  go_wp2
  go_loop [6] (fun i => ∃ k : Nat, k ≤ s.size ∧ i = .int .i64 k ∧ Hid ((s.data.toList.take k).all tokB = true)) (fun i => s.size - (intOf i).toNat)
  case atStart => exact ⟨0, Nat.zero_le _, rfl, Lib.hid (by simp)⟩
  case round =>
    obtain ⟨k, hk, rfl, HP⟩ := hrel
    by_cases hlt : k < s.size
    · by_cases hc : tokB s[k] = true
      · go_wp2_with (go_at_call 50; refine (isTokenByte_any _ _).mono ?_; rintro e w' ⟨rfl, rfl⟩)
        go_round
        case rel => exact ⟨k + 1, by omega, by go_num, Lib.hid (by rw [take_snoc s k hlt, List.all_append, HP.out]; simpa using hc)⟩
        case measure => simp [intOf]; omega
      · have hc' : tokB s[k] = false := by simpa using hc
        clear hc
        go_wp2_with (go_at_call 50; refine (isTokenByte_any _ _).mono ?_; rintro e w' ⟨rfl, rfl⟩)
        go_ret
        exact ⟨ret_bool (tokS_no hlt hc'), rfl⟩
    · go_wp2
      go_ret
      exact ⟨ret_bool (by have := HP.out; rw [take_all s k hk hlt] at this; unfold tokS; rw [this]; simp [toList_isEmpty]), rfl⟩

end Go.Proofs.YteoadfckcilalaaDoor
namespace Go.Proofs.YteoadfckcilalaaDoor
open Go.RowKit

/-- From block B on, a row of bytes l that may be written. -/
def BytesAt (w : World) (B : Nat) (l : List UInt8) : Prop :=
  ∀ j (hj : j < l.length), w.cell? ⟨B, j, none⟩ = some (.int .u8 (l[j].toNat : Int)) ∧ w.frozen? ⟨B, j, none⟩ = false

theorem BytesAt.set {w : World} {B : Nat} {l : List UInt8} (h : BytesAt w B l) {k : Nat} (hk : k < l.length) (c : UInt8) :
    BytesAt (w.setCell ⟨B, k, none⟩ (.int .u8 (c.toNat : Int))) B (l.set k c) := by
  intro j hj
  have hj' : j < l.length := by simpa using hj
  obtain ⟨h1, h2⟩ := h j hj'
  obtain ⟨k1, _⟩ := h k hk
  constructor
  · by_cases e : k = j
    · subst e
      rw [World.cell?_setCell_same _ _ _ k1]; simp
    · rw [World.cell?_setCell_other _ _ _ _ (by intro hh; apply e; cases hh; rfl)]
      rw [h1, List.getElem_set_ne e]
  · rw [← h2]; exact World.frozen?_setCell ..

end Go.Proofs.YteoadfckcilalaaDoor
namespace Go.Proofs.YteoadfckcilalaaDoor
open Go

/-- The blanks: 32 and 9. -/
def blanks : List UInt8 := [32, 9]
def blankB (c : UInt8) : Bool := blanks.contains c
def rdrop (p : UInt8 → Bool) (l : List UInt8) : List UInt8 := (l.reverse.dropWhile p).reverse

/-- Trim: the blanks of both ends are cut off. -/
def trimL (l : List UInt8) : List UInt8 := (rdrop blankB l).dropWhile blankB
def trimBA (s : ByteArray) : ByteArray := ⟨(trimL s.data.toList).toArray⟩
theorem ba_ext {a b : ByteArray} (h : a.data.toList = b.data.toList) : a = b := by
  cases a; cases b; simp at h; simp [h]
end Go.Proofs.YteoadfckcilalaaDoor
namespace Go.Proofs.YteoadfckcilalaaDoor
open Go.RowKit

theorem lt_cell {w : World} {a : Addr} {v : Value} (h : w.cell? a = some v) : a.block < w.heap.size := by
  rcases Nat.lt_or_ge a.block w.heap.size with h' | h'
  · exact h'
  · simp [World.cell?, Array.getElem?_eq_none h'] at h
theorem below_trans {w w1 w2 : World} (h : Below w.heap.size w w1) (k : Below w1.heap.size w1 w2) : Below w.heap.size w w2 := h.trans (k.mono h.size)
theorem below_cell {w w' : World} (h : Below w.heap.size w w') {a : Addr} {v : Value} (hc : w.cell? a = some v) : w'.cell? a = some v := by
  rw [h.cell (lt_cell hc)]; exact hc

theorem ownsRow_keep {w w' : World} {base : Nat} {e : TypeId} {size n : Nat} {v : Value} {xs : List Value} (h : w.ownsRow base e size v n xs) (hb : Below w.heap.size w w') : w'.ownsRow base e size v n xs := by
  obtain ⟨h1, h2⟩ := h
  refine ⟨h1, ?_⟩
  rcases h2 with h2 | ⟨g, cap, cur, hv, hg, hc, r⟩
  · exact .inl h2
  · have hlt : g < w.heap.size := by
      rcases Nat.lt_or_ge g w.heap.size with h' | h'
      · exact h'
      · rw [Array.getElem?_eq_none h'] at hc; cases hc
    exact .inr ⟨g, cap, cur, hv, hg, by rw [hb.block g hlt]; exact hc, r⟩
section
variable {ops : Array Oper} {rest : List Oper} {o : Oper} {act : Act} {Q : Exit → Act → World → Prop}
end
end Go.Proofs.YteoadfckcilalaaDoor
namespace Go.Proofs
open Go.Shelf
def Tryd.lays160_ren : Go.Shelf.Ren := ⟨fun | 160 => 56 | 232 => 59 | 231 => 58 | 227 => 60 | 234 => 62 | 233 => 61 | 236 => 64 | 235 => 63 | 228 => 66 | 271 => 69 | 151 => 68 | 197 => 67 | 120 => 72 | 152 => 71 | 260 => 70 | 137 => 55 | 119 => 73 | 224 => 74 | 225 => 75 | 217 => 57 | 266 => 65 | n => n, fun | 9 => 9 | 4 => 4 | 3 => 3 | 5 => 5 | 117 => 91 | 116 => 90 | 0 => 0 | 124 => 94 | 21 => 21 | 105 => 95 | 46 => 76 | 119 => 99 | 139 => 102 | 138 => 101 | n => n, fun | 3 => 5 | 4 => 6 | n => n⟩
theorem Tryd.lays160 : Go.Proofs.Lays.n160 Tryd.prog Tryd.lays160_ren := {
  mixed := by kernel_rfl
  f119 := Tryd.func73.trans (congrArg some (by kernel_rfl))
  f120 := Tryd.func72.trans (congrArg some (by kernel_rfl))
  f137 := Tryd.func55.trans (congrArg some (by kernel_rfl))
  f151 := Tryd.func68.trans (congrArg some (by kernel_rfl))
  f152 := Tryd.func71.trans (congrArg some (by kernel_rfl))
  f160 := Tryd.func56.trans (congrArg some (by kernel_rfl))
  f197 := Tryd.func67.trans (congrArg some (by kernel_rfl))
  f217 := Tryd.func57.trans (congrArg some (by kernel_rfl))
  f224 := Tryd.func74.trans (congrArg some (by kernel_rfl))
  f225 := Tryd.func75.trans (congrArg some (by kernel_rfl))
  f227 := Tryd.func60.trans (congrArg some (by kernel_rfl))
  f228 := Tryd.func66.trans (congrArg some (by kernel_rfl))
  f231 := Tryd.func58.trans (congrArg some (by kernel_rfl))
  f232 := Tryd.func59.trans (congrArg some (by kernel_rfl))
  f233 := Tryd.func61.trans (congrArg some (by kernel_rfl))
  f234 := Tryd.func62.trans (congrArg some (by kernel_rfl))
  f235 := Tryd.func63.trans (congrArg some (by kernel_rfl))
  f236 := Tryd.func64.trans (congrArg some (by kernel_rfl))
  f260 := Tryd.func70.trans (congrArg some (by kernel_rfl))
  f266 := Tryd.func65.trans (congrArg some (by kernel_rfl))
  f271 := Tryd.func69.trans (congrArg some (by kernel_rfl))
  t0 := Tryd.underlying0
  a0 := Tryd.isAgg0
  z0 := Tryd.sizeOf0
  v0 := Tryd.zeroValue0
  t3 := Tryd.underlying3
  a3 := Tryd.isAgg3
  z3 := Tryd.sizeOf3
  v3 := Tryd.zeroValue3
  t4 := Tryd.underlying4
  a4 := Tryd.isAgg4
  z4 := Tryd.sizeOf4
  v4 := Tryd.zeroValue4
  t5 := Tryd.underlying5
  a5 := Tryd.isAgg5
  z5 := Tryd.sizeOf5
  v5 := Tryd.zeroValue5
  t9 := Tryd.underlying9
  a9 := Tryd.isAgg9
  z9 := Tryd.sizeOf9
  v9 := Tryd.zeroValue9
  t21 := Tryd.underlying21
  a21 := Tryd.isAgg21
  z21 := Tryd.sizeOf21
  v21 := Tryd.zeroValue21
  t46 := Tryd.underlying76
  a46 := Tryd.isAgg76
  z46 := Tryd.sizeOf76
  v46 := Tryd.zeroValue76
  t105 := Tryd.underlying95
  a105 := Tryd.isAgg95
  z105 := Tryd.sizeOf95
  v105 := Tryd.zeroValue95
  t116 := Tryd.underlying90
  a116 := Tryd.isAgg90
  z116 := Tryd.sizeOf90
  t117 := Tryd.underlying91
  a117 := Tryd.isAgg91
  z117 := Tryd.sizeOf91
  v117 := Tryd.zeroValue91
  t119 := Tryd.underlying99
  a119 := Tryd.isAgg99
  z119 := Tryd.sizeOf99
  t124 := Tryd.underlying94
  a124 := Tryd.isAgg94
  z124 := Tryd.sizeOf94
  v124 := Tryd.zeroValue94
  t138 := Tryd.underlying101
  a138 := Tryd.isAgg101
  z138 := Tryd.sizeOf101
  v138 := Tryd.zeroValue101
  t139 := Tryd.underlying102
  a139 := Tryd.isAgg102
  z139 := Tryd.sizeOf102
  v139 := Tryd.zeroValue102
  g3 := by kernel_rfl
  g4 := by kernel_rfl }
def Tryd.lays169_ren : Go.Shelf.Ren := ⟨fun | 169 => 39 | n => n, fun | 70 => 61 | 9 => 9 | 0 => 0 | 72 => 63 | 37 => 26 | 127 => 78 | 3 => 3 | 5 => 5 | n => n, fun | n => n⟩
theorem Tryd.lays169 : Go.Proofs.Lays.n169 Tryd.prog Tryd.lays169_ren := {
  mixed := by kernel_rfl
  f169 := Tryd.func39.trans (congrArg some (by kernel_rfl))
  t0 := Tryd.underlying0
  a0 := Tryd.isAgg0
  z0 := Tryd.sizeOf0
  v0 := Tryd.zeroValue0
  t3 := Tryd.underlying3
  a3 := Tryd.isAgg3
  z3 := Tryd.sizeOf3
  v3 := Tryd.zeroValue3
  t9 := Tryd.underlying9
  a9 := Tryd.isAgg9
  z9 := Tryd.sizeOf9
  v9 := Tryd.zeroValue9
  t37 := Tryd.underlying26
  a37 := Tryd.isAgg26
  z37 := Tryd.sizeOf26
  v37 := Tryd.zeroValue26
  t70 := Tryd.underlying61
  a70 := Tryd.isAgg61
  z70 := Tryd.sizeOf61
  v70 := Tryd.zeroValue61
  t72 := Tryd.underlying63
  a72 := Tryd.isAgg63
  z72 := Tryd.sizeOf63
  v72 := Tryd.zeroValue63
  t127 := Tryd.underlying78
  a127 := Tryd.isAgg78
  z127 := Tryd.sizeOf78
  v127 := Tryd.zeroValue78 }
def Tryd.laysM173_ren : Go.Shelf.Ren := ⟨fun | 173 => 23 | 246 => 27 | 283 => 32 | 284 => 33 | 285 => 34 | 286 => 35 | 129 => 41 | 317 => 40 | 318 => 42 | 319 => 43 | 320 => 44 | 337 => 48 | 338 => 49 | n => n, fun | 2 => 2 | 3 => 3 | 9 => 9 | 4 => 4 | 171 => 55 | 0 => 0 | 53 => 56 | 37 => 26 | 5 => 5 | 173 => 59 | 212 => 73 | 51 => 74 | 20 => 20 | 213 => 75 | 46 => 76 | 232 => 84 | 233 => 85 | n => n, fun | 17 => 1 | 18 => 2 | 19 => 3 | n => n⟩
theorem Tryd.laysM173 : Go.Proofs.LaysM.n173 Tryd.prog Tryd.laysM173_ren := {
  mixed := by kernel_rfl
  f129 := Tryd.func41.trans (congrArg some (by kernel_rfl))
  f173 := Tryd.func23.trans (congrArg some (by kernel_rfl))
  f246 := Tryd.func27.trans (congrArg some (by kernel_rfl))
  f283 := Tryd.func32.trans (congrArg some (by kernel_rfl))
  f284 := Tryd.func33.trans (congrArg some (by kernel_rfl))
  f285 := Tryd.func34.trans (congrArg some (by kernel_rfl))
  f286 := Tryd.func35.trans (congrArg some (by kernel_rfl))
  f317 := Tryd.func40.trans (congrArg some (by kernel_rfl))
  f318 := Tryd.func42.trans (congrArg some (by kernel_rfl))
  f319 := Tryd.func43.trans (congrArg some (by kernel_rfl))
  f320 := Tryd.func44.trans (congrArg some (by kernel_rfl))
  f337 := Tryd.func48.trans (congrArg some (by kernel_rfl))
  f338 := Tryd.func49.trans (congrArg some (by kernel_rfl))
  t0 := Tryd.underlying0
  a0 := Tryd.isAgg0
  z0 := Tryd.sizeOf0
  v0 := Tryd.zeroValue0
  t2 := Tryd.underlying2
  a2 := Tryd.isAgg2
  z2 := Tryd.sizeOf2
  v2 := Tryd.zeroValue2
  t3 := Tryd.underlying3
  a3 := Tryd.isAgg3
  z3 := Tryd.sizeOf3
  v3 := Tryd.zeroValue3
  t4 := Tryd.underlying4
  a4 := Tryd.isAgg4
  z4 := Tryd.sizeOf4
  v4 := Tryd.zeroValue4
  t5 := Tryd.underlying5
  a5 := Tryd.isAgg5
  z5 := Tryd.sizeOf5
  v5 := Tryd.zeroValue5
  t9 := Tryd.underlying9
  a9 := Tryd.isAgg9
  z9 := Tryd.sizeOf9
  v9 := Tryd.zeroValue9
  t20 := Tryd.underlying20
  a20 := Tryd.isAgg20
  z20 := Tryd.sizeOf20
  v20 := Tryd.zeroValue20
  t37 := Tryd.underlying26
  a37 := Tryd.isAgg26
  z37 := Tryd.sizeOf26
  v37 := Tryd.zeroValue26
  t46 := Tryd.underlying76
  a46 := Tryd.isAgg76
  z46 := Tryd.sizeOf76
  v46 := Tryd.zeroValue76
  t51 := Tryd.underlying74
  a51 := Tryd.isAgg74
  z51 := Tryd.sizeOf74
  v51 := Tryd.zeroValue74
  t53 := Tryd.underlying56
  a53 := Tryd.isAgg56
  z53 := Tryd.sizeOf56
  v53 := Tryd.zeroValue56
  t171 := Tryd.underlying55
  a171 := Tryd.isAgg55
  z171 := Tryd.sizeOf55
  v171 := Tryd.zeroValue55
  t173 := Tryd.underlying59
  a173 := Tryd.isAgg59
  z173 := Tryd.sizeOf59
  v173 := Tryd.zeroValue59
  t212 := Tryd.underlying73
  a212 := Tryd.isAgg73
  z212 := Tryd.sizeOf73
  v212 := Tryd.zeroValue73
  t213 := Tryd.underlying75
  a213 := Tryd.isAgg75
  z213 := Tryd.sizeOf75
  t232 := Tryd.underlying84
  a232 := Tryd.isAgg84
  z232 := Tryd.sizeOf84
  v232 := Tryd.zeroValue84
  t233 := Tryd.underlying85
  a233 := Tryd.isAgg85
  z233 := Tryd.sizeOf85
  v233 := Tryd.zeroValue85
  g17 := by kernel_rfl
  g18 := by kernel_rfl
  g19 := by kernel_rfl
  i0 := by kernel_rfl
  i2 := by kernel_rfl
  i3 := by kernel_rfl
  i4 := by kernel_rfl
  i5 := by kernel_rfl
  i9 := by kernel_rfl
  i20 := by kernel_rfl
  i37 := by kernel_rfl
  i46 := by kernel_rfl
  i51 := by kernel_rfl
  i53 := by kernel_rfl
  i171 := by kernel_rfl
  i173 := by kernel_rfl
  i212 := by kernel_rfl
  i232 := by kernel_rfl
  i233 := by kernel_rfl
  m17 := by kernel_rfl
  m18 := by kernel_rfl
  m19 := by kernel_rfl }
end Go.Proofs
namespace Go.Proofs.YteoadfckcilalaaDoor
open Go.RowKit

theorem trimLib_any (s : ByteArray) (w : World) (hs : s.size ≤ maxLen) :
    Calls Tryd.prog 56 #[.string s, .string ⟨#[32, 9]⟩] w fun e w' => e = .returned (.string (trimBA s)) ∧ Below w.heap.size w w' :=
  (Any.strings_Trim_laid Tryd.lays160 (by kernel_rfl) s ⟨#[32, 9]⟩ w hs (by decide) (ascii_of_all (by decide))).mono fun _ _ ⟨he, hw⟩ => ⟨he, hw⟩

set_option maxHeartbeats 400000 in
theorem trim_any (s : ByteArray) (w : World) (hs : s.size ≤ maxLen) :
    Calls Tryd.prog 52 #[.string s] w fun e w' => e = .returned (.string (trimBA s)) ∧ Below w.heap.size w w' := by
  go_enter Tryd.func52, Tryd.ntmps52
  go_wp2_with fail
  refine (trimLib_any s _ hs).mono ?_
  rintro e w1 ⟨rfl, hb1⟩
  go_wp2_with fail
  go_ret
  exact ⟨rfl, hb1⟩

def valB (c : UInt8) : Bool := decide ((c.toNat : Int) = 9) || (decide (32 ≤ (c.toNat : Int)) && !decide ((c.toNat : Int) = 127))
def visS (s : ByteArray) : Bool := s.data.toList.all valB
def valS (s : ByteArray) : Bool := visS s && ((trimBA s).toList == s.toList)

set_option maxHeartbeats 400000 in
theorem isValueByte_any (c : UInt8) (w : World) :
    Calls Tryd.prog 51 #[.int .u8 c.toNat] w fun e w' => e = .returned (.bool (valB c)) ∧ w = w' := by
  go_enter Tryd.func51, Tryd.ntmps51
  go_wp2
  all_goals go_ret
  all_goals exact ⟨ret_bool (by unfold valB; rw [Bool.eq_iff_iff]; simp; omega), rfl⟩

theorem visS_no {s : ByteArray} {k : Nat} (hlt : k < s.size) (hc : valB s[k] = false) : visS s = false := by
  unfold visS
  rw [Bool.eq_false_iff]; intro h
  have := List.all_eq_true.1 h _ (mem_at s k hlt); rw [hc] at this; cases this
theorem visS_yes {s : ByteArray} {k : Nat} (hk : k ≤ s.size) (hlt : ¬ k < s.size) (h : (s.data.toList.take k).all valB = true) : visS s = true := by
  rw [take_all s k hk hlt] at h; exact h

set_option maxHeartbeats 400000 in
theorem value_any (s : ByteArray) (w : World) (hs0 : s.size ≤ maxLen) :
    Calls Tryd.prog 46 #[.string s] w fun e w' => e = .returned (.bool (valS s)) ∧ Below w.heap.size w w' := by
  have hs := hs0
  unfold maxLen at hs
  have HS0 := Lib.hid hs0
  clear hs0
  go_enter Tryd.func46, Tryd.ntmps46
  go_wp2
  go_loop [6] (fun i => ∃ k : Nat, k ≤ s.size ∧ i = .int .i64 k ∧ Hid ((s.data.toList.take k).all valB = true)) (fun i => s.size - (intOf i).toNat)
  case atStart => exact ⟨0, Nat.zero_le _, rfl, Lib.hid (by simp)⟩
  case round =>
    obtain ⟨k, hk, rfl, HP⟩ := hrel
    by_cases hlt : k < s.size
    · by_cases hc : valB s[k] = true
      · go_wp2_with (go_at_call 51; refine (isValueByte_any _ _).mono ?_; rintro e w' ⟨rfl, rfl⟩)
        go_round
        case rel => exact ⟨k + 1, by omega, by go_num, Lib.hid (by rw [take_snoc s k hlt, List.all_append, HP.out]; simpa using hc)⟩
        case measure => simp [intOf]; omega
      · have hc' : valB s[k] = false := by simpa using hc
        clear hc
        go_wp2_with (go_at_call 51; refine (isValueByte_any _ _).mono ?_; rintro e w' ⟨rfl, rfl⟩)
        go_ret
        exact ⟨ret_bool (by unfold valS; rw [visS_no hlt hc']; rfl), Below.refl _ _⟩
    · go_wp2_with fail
      refine (trim_any s _ HS0.out).mono ?_
      rintro e w1 ⟨rfl, hb1⟩
      go_wp2_with fail
      go_ret
      exact ⟨ret_bool (by unfold valS; rw [visS_yes hk hlt HP.out, Bool.true_and, Bool.beq_comm]), hb1⟩

end Go.Proofs.YteoadfckcilalaaDoor
namespace Go.Proofs.YteoadfckcilalaaDoor
open Go.RowKit

theorem toList_eq {a b : ByteArray} : (a.toList == b.toList) = decide (a = b) := by
  rw [Bool.eq_iff_iff, beq_iff_eq, decide_eq_true_eq, ByteArray.toList_eq, ByteArray.toList_eq]
  exact ⟨ba_ext, fun h => by rw [h]⟩

end Go.Proofs.YteoadfckcilalaaDoor
namespace Go.Proofs.YteoadfckcilalaaDoor
open Go.ChangeShapes Go.WideShapes Go.ChangeAt Go.RowKit

/-- The slice at a reads as the bytes l. -/
def IsBytes (w : World) (a : Option Addr) (l : List UInt8) (cap : Nat) : Prop :=
  (a = none ∧ l = [] ∧ cap = 0) ∨ ∃ x, a = some x ∧ l.length ≤ cap ∧ cap ≤ maxLen ∧ ∀ j (hj : j < l.length), w.cell? (x.add j) = some (.int .u8 (l[j].toNat : Int))

/-- string(b) of a slice of bytes that came in. -/
theorem conv_bytes {W : World} {a : Option Addr} {l : List UInt8} {cap : Nat} (h : IsBytes W a l cap) :
    (convert 26 9 (.slice a l.length cap)).run Tryd.prog W = .ok (.string ⟨l.toArray⟩) W := by
  rcases h with ⟨rfl, rfl, rfl⟩ | ⟨x, rfl, _, _, hc⟩
  · simp [convert, run_underlying Tryd.underlying26, run_underlying Tryd.underlying9, run_underlying Tryd.underlying5, Conv.bytesToString]
    rfl
  · exact run_convert_bytes_back (P := Tryd.prog) W 26 9 5 x cap l Tryd.underlying26 Tryd.underlying5 Tryd.underlying9 hc
end Go.Proofs.YteoadfckcilalaaDoor
namespace Go.Proofs.YteoadfckcilalaaDoor
open Go.RowKit

theorem Tryd.info5 : (Tryd.prog.info? 5).map (fun i => (i.zero, i.size, i.bytes)) = some (some (.int .u8 0), 1, 1) := by kernel_rfl
def bytesV (l : List UInt8) : List Value := l.map fun c => .int .u8 (c.toNat : Int)
theorem bytesV_len (l : List UInt8) : (bytesV l).length = l.length := by simp [bytesV]

section
variable {ops : Array Oper} {rest : List Oper} {o : Oper} {act : Act} {Q : Exit → Act → World → Prop}
end
end Go.Proofs.YteoadfckcilalaaDoor
namespace Go.Proofs.YteoadfckcilalaaDoor

section
variable {P : Program} {md : Region.Mode} {C : World → Prop} {l : List Oper} {o : Oper}

end

section
variable {P : Program} {md : Region.Mode} {ops : Array Oper} {Q : Exit → Act → World → Prop}
theorem count_set : ∀ (l : List Bool) (i : Nat), i < l.length → l.getD i true = false → (l.set i true).countP (!·) + 1 = l.countP (!·)
  | b :: l, 0, _, h => by
    have : b = false := h
    subst this
    simp
  | b :: l, i + 1, hi, h => by
    have := count_set l i (by simpa using hi) (by simpa using h)
    rw [List.set_cons_succ, List.countP_cons, List.countP_cons]
    omega
/-- AN INVARIANT OVER THE MARKS: whatever may come up keeps it; where nothing may come up it gives what is asked. -/
theorem wpAny_inv (J : Array Bool → Act → World → Prop) (hstep : ∀ m a w, m.size = ops.size → J m a w → ∀ i, i ∈ Region.ready md ops m → wpOp P ops Q i (J (m.setIfInBounds i true)) a w)
    (hdone : ∀ m a w, m.size = ops.size → J m a w → Region.ready md ops m = [] → Q .normal a w) :
    ∀ (f : Nat) (m : Array Bool) (a : Act) (w : World), m.size = ops.size → m.toList.countP (!·) ≤ f → J m a w → wpAny P md ops Q f m a w
  | 0, m, a, w, hs, hc, hJ => by
    have hr : Region.ready md ops m = [] := by
      rw [List.eq_nil_iff_forall_not_mem]
      intro i hi
      obtain ⟨h1, x, hx, _⟩ := mem_ready.1 hi
      have hlt : i < m.size := by rw [hs]; exact (Array.getElem?_eq_some_iff.1 hx).1
      have h2 : m.toList.getD i true = false := by simpa [List.getD_eq_getElem?_getD, hlt] using h1
      have := count_set m.toList i (by simpa using hlt) h2
      omega
    exact ⟨hr, hdone m a w hs hJ hr⟩
  | f + 1, m, a, w, hs, hc, hJ => by
    refine ⟨fun hr => hdone m a w hs hJ hr, fun i hi => ?_⟩
    refine wpOp_mono (fun a' w' hJ' => wpAny_inv J hstep hdone f _ a' w' (by simpa using hs) ?_ hJ') (hstep m a w hs hJ i hi)
    obtain ⟨h1, x, hx, _⟩ := mem_ready.1 hi
    have hlt : i < m.size := by rw [hs]; exact (Array.getElem?_eq_some_iff.1 hx).1
    have h2 : m.toList.getD i true = false := by simpa [List.getD_eq_getElem?_getD, hlt] using h1
    have := count_set m.toList i (by simpa using hlt) h2
    rw [Array.toList_setIfInBounds]
    omega
theorem wp_region_inv {id : Nat} {a : Act} {w : World} (hm : P.follows .mixedOrders = true) (J : Array Bool → Act → World → Prop)
    (hstep : ∀ m a w, m.size = ops.size → J m a w → ∀ i, i ∈ Region.ready .any ops m → wpOp P ops Q i (J (m.setIfInBounds i true)) a w)
    (hdone : ∀ m a w, m.size = ops.size → J m a w → Region.ready .any ops m = [] → Q .normal a w) (h0 : J (Array.replicate ops.size false) a { w with drawn := w.drawn + 1 }) : (Code.region id ops true).wp P Q a w := by
  refine wp_region_any hm (wpAny_inv J hstep hdone _ _ _ _ (by simp) ?_ h0)
  have := List.countP_le_length (p := (!·)) (l := (Array.replicate ops.size false).toList)
  simpa using this
end
end Go.Proofs.YteoadfckcilalaaDoor
namespace Go.Proofs.YteoadfckcilalaaDoor
open Go.RowKit

/-- What an operation leaves in its slot; whatever comes later keeps it. -/
structure Spec where
  p : Value → World → Prop
  mono : ∀ v w w', p v w → Below w.heap.size w w' → p v w'
def Spec.val (v : Value) : Spec := ⟨fun x _ => x = v, fun _ _ _ h _ => h⟩
def Spec.any : Spec := ⟨fun _ _ => True, fun _ _ _ h _ => h⟩

def Holds (ops : Array Oper) (S : List Spec) (a : Act) (w : World) (j : Nat) : Prop :=
  match ops[j]?, S[j]? with
  | some o, some s => (match o.dst with | some d => s.p (a.eval (.tmp d)) w | none => True)
  | _, _ => True
def isDst (ops : Array Oper) (k : Nat) : Bool := ops.toList.any fun o => o.dst == some k
def waitsFor (o : Oper) (j : Nat) : Bool := o.after.toList.any fun e => Region.binds .any e && e.on == j
/-- The slots are different ones, and within the frame. -/
def dstsOk (ops : Array Oper) (n : Nat) : Bool :=
  (List.range ops.size).all fun i => match (ops[i]?).bind (·.dst) with
    | some d => decide (d < n) && (List.range ops.size).all fun j => decide (i = j) || !((ops[j]?).bind (·.dst) == some d)
    | none => true
/-- The frame on the way: but for the operations' own slots it is the one before. -/
structure Fr (ops : Array Oper) (a0 a : Act) : Prop where
  defers : a.defers = a0.defers
  size : a.tmps.size = a0.tmps.size
  base : ∀ k, isDst ops k = false → a.eval (.tmp k) = a0.eval (.tmp k)
/-- One operation by itself. -/
def StepOK (P : Program) (Q : Exit → Act → World → Prop) (ops : Array Oper) (S : List Spec) (a0 : Act) (w0 : World) (o : Oper) (s : Spec) : Prop :=
  ∀ a w, Below w0.heap.size w0 w → Fr ops a0 a → (∀ j, waitsFor o j = true → Holds ops S a w j) →
    Region.wanted o (yielded ops a.tmps) = true ∧ o.wp P a w (fun a' w' => ∃ v, a' = a.put o.dst v ∧ Below w.heap.size w w' ∧ s.p v w') Q
def StepsOK (P : Program) (Q : Exit → Act → World → Prop) (ops : Array Oper) (S : List Spec) (a0 : Act) (w0 : World) : List Oper → List Spec → Prop
  | o :: os, s :: ss => StepOK P Q ops S a0 w0 o s ∧ StepsOK P Q ops S a0 w0 os ss
  | [], [] => True
  | _, _ => False

section
variable {P : Program} {Q : Exit → Act → World → Prop} {ops : Array Oper} {S : List Spec} {a0 : Act} {w0 : World}
theorem stepsOK_at : ∀ {os : List Oper} {ss : List Spec}, StepsOK P Q ops S a0 w0 os ss → ∀ (i : Nat) (o : Oper), os[i]? = some o → ∃ s, ss[i]? = some s ∧ StepOK P Q ops S a0 w0 o s
  | o :: os, s :: ss, h, 0, _, rfl => ⟨s, rfl, h.1⟩
  | o :: os, s :: ss, h, i + 1, o', ho => stepsOK_at h.2 i o' ho
  | [], _, _, i, _, ho => by simp at ho
theorem eval_put_same {a : Act} {d : Nat} {v : Value} (h : d < a.tmps.size) : (a.put (some d) v).eval (.tmp d) = v := by
  simp [Act.put, Act.eval, h]
theorem eval_put_other {a : Act} {d : Option Tmp} {k : Nat} {v : Value} (h : d ≠ some k) : (a.put d v).eval (.tmp k) = a.eval (.tmp k) := by
  cases d with
  | none => rfl
  | some d =>
    have hne : d ≠ k := fun e => h (by rw [e])
    simp [Act.put, Act.eval, Array.getElem?_setIfInBounds_ne hne]
theorem dsts_lt {n : Nat} (h : dstsOk ops n = true) {i : Nat} {o : Oper} {d : Nat} (ho : ops[i]? = some o) (hd : o.dst = some d) : d < n ∧ ∀ j o', ops[j]? = some o' → j ≠ i → o'.dst ≠ some d := by
  have hi : i < ops.size := (Array.getElem?_eq_some_iff.1 ho).1
  have h1 := List.all_eq_true.1 h i (List.mem_range.2 hi)
  rw [ho] at h1
  simp only [Option.bind_some, hd, Bool.and_eq_true, decide_eq_true_eq] at h1
  refine ⟨h1.1, fun j o' ho' hji hd' => ?_⟩
  have hj : j < ops.size := (Array.getElem?_eq_some_iff.1 ho').1
  have h2 := List.all_eq_true.1 h1.2 j (List.mem_range.2 hj)
  rw [ho'] at h2
  simp [hd'] at h2
  exact hji h2.symm
theorem holds_mono {a : Act} {w w' : World} {j : Nat} (h : Holds ops S a w j) (hb : Below w.heap.size w w') : Holds ops S a w' j := by
  unfold Holds at *
  split
  · rename_i o s ho hs
    rw [ho, hs] at h
    cases hd : o.dst with
    | none => trivial
    | some d => simp only [hd] at h; exact s.mono _ _ _ h hb
  · trivial
theorem wp_region_local {id : Nat} (S : List Spec) (hm : P.follows .mixedOrders = true) (hB : (List.range ops.size).all (fun i => match ops[i]? with | some x => x.after.all (fun e => decide (e.on < i)) | none => true) = true)
    (hd : dstsOk ops a0.tmps.size = true) (h : StepsOK P Q ops S a0 w0 ops.toList S)
    (hQ : ∀ a w, Below w0.heap.size w0 w → Fr ops a0 a → (∀ j, j < ops.size → Holds ops S a w j) → Q .normal a w) : (Code.region id ops true).wp P Q a0 w0 := by
  refine wp_region_inv hm (fun m a w => Below w0.heap.size w0 w ∧ Fr ops a0 a ∧ ∀ j, m.getD j false = true → Holds ops S a w j) ?_ ?_ ?_
  · rintro m a w hs ⟨hb, hf, hh⟩ i hi
    obtain ⟨h1, o, ho, hall⟩ := mem_ready.1 hi
    have hil : i < ops.size := (Array.getElem?_eq_some_iff.1 ho).1
    obtain ⟨s, hsi, hstep⟩ := stepsOK_at h i o (by simpa using ho)
    obtain ⟨hw, hwp⟩ := hstep a w hb hf fun j hj => by
      obtain ⟨e, he, h2⟩ := List.any_eq_true.1 hj
      simp only [Bool.and_eq_true, beq_iff_eq] at h2
      obtain ⟨h3, rfl⟩ := h2
      exact hh _ (hall e (Array.mem_toList_iff.1 he) h3)
    unfold wpOp
    simp only [ho]
    rw [if_pos hw]
    refine .inl (Oper.wp_mono ?_ hwp)
    rintro a' w' ⟨v, rfl, hb', hsp⟩
    refine ⟨hb.trans (hb'.mono hb.size), ⟨?_, ?_, fun k hk => ?_⟩, fun j hj => ?_⟩
    · have := hf.defers
      cases o.dst <;> simpa [Act.put] using this
    · have := hf.size
      cases o.dst <;> simpa [Act.put] using this
    · rw [eval_put_other, hf.base k hk]
      intro hk2
      have : isDst ops k = true := by
        unfold isDst
        exact List.any_eq_true.2 ⟨o, Array.mem_toList_iff.2 (Array.mem_of_getElem? ho), by rw [hk2]; simp⟩
      rw [hk] at this; cases this
    · by_cases hji : j = i
      · subst hji
        unfold Holds
        simp only [ho, hsi]
        cases hdo : o.dst with
        | none => trivial
        | some d =>
          show s.p ((a.put (some d) v).eval (.tmp d)) w'
          rw [eval_put_same]
          · exact hsp
          · rw [hf.size]; exact (dsts_lt hd ho hdo).1
      · have hj' : m.getD j false = true := by rw [getD_set_ne false (fun e => hji e.symm)] at hj; exact hj
        have h5 := holds_mono (hh j hj') hb'
        unfold Holds at *
        cases hoj : ops[j]? with
        | none => simp
        | some o' =>
          cases hsj : S[j]? with
          | none => simp
          | some s' =>
            simp only [hoj, hsj] at h5 ⊢
            cases hdo : o'.dst with
            | none => trivial
            | some d =>
              simp only [hdo] at h5 ⊢
              show s'.p ((a.put o.dst v).eval (.tmp d)) w'
              rw [eval_put_other]
              · exact h5
              · intro e
                exact (dsts_lt hd ho e).2 j o' hoj hji hdo
  · rintro m a w hs ⟨hb, hf, hh⟩ hr
    refine hQ a w hb hf fun j hj => hh j ?_
    induction j using Nat.strongRecOn with
    | _ j ih =>
      cases hmj : m.getD j false with
      | true => rfl
      | false =>
        exfalso
        have hoj : ops[j]? = some ops[j] := Array.getElem?_eq_getElem hj
        have hbk := List.all_eq_true.1 hB j (List.mem_range.2 hj)
        rw [hoj] at hbk
        simp only [Array.all_eq_true_iff_forall_mem, decide_eq_true_eq] at hbk
        have : j ∈ Region.ready .any ops m := mem_ready.2 ⟨by
          have hs' : j < m.size := by rw [hs]; exact hj
          simp [hs'] at hmj ⊢; exact hmj, ops[j], hoj, fun e he _ => ih _ (hbk e he) (by have := hbk e he; omega)⟩
        rw [hr] at this; cases this
  · refine ⟨(Below.refl _ _).drew, ⟨rfl, rfl, fun _ _ => rfl⟩, fun j hj => ?_⟩
    exfalso
    simp only [Array.getD_eq_getD_getElem?, Array.getElem?_replicate] at hj
    split at hj <;> simp at hj
end

section
variable {P : Program} {Q : Exit → Act → World → Prop} {ops : Array Oper} {S : List Spec} {a : Act} {w : World} {o : Oper} {s : Spec}
theorem wanted_none (h : o.guard = none) : Region.wanted o (yielded ops a.tmps) = true := by unfold Region.wanted; rw [h]
theorem loc_run {v : Value} {w' : World} (h : (execOp a.eval o).run P w = .ok (.value v) w') (hb : Below w.heap.size w w') (hs : s.p v w') : o.wp P a w (fun a' w' => ∃ v, a' = a.put o.dst v ∧ Below w.heap.size w w' ∧ s.p v w') Q := by
  unfold Oper.wp
  rw [h]
  exact ⟨v, rfl, hb, hs⟩
theorem loc_move {x : Operand} (ho : o.op = .move x) (hs : s.p (a.eval x) w) : o.wp P a w (fun a' w' => ∃ v, a' = a.put o.dst v ∧ Below w.heap.size w w' ∧ s.p v w') Q :=
  loc_run (by unfold execOp; rw [ho]; rfl) (Below.refl _ _) hs
theorem loc_assign {x : Operand} (ho : o.op = .assign x) (hs : s.p (a.eval x) w) : o.wp P a w (fun a' w' => ∃ v, a' = a.put o.dst v ∧ Below w.heap.size w w' ∧ s.p v w') Q :=
  loc_run (by unfold execOp; rw [ho]; rfl) (Below.refl _ _) hs
theorem loc_load {x : Operand} {t : TypeId} (ho : o.op = .load t x) {v : Value} (h : (Instr.loadAt t (a.eval x)).run P w = .ok v w) (hs : s.p v w) : o.wp P a w (fun a' w' => ∃ v, a' = a.put o.dst v ∧ Below w.heap.size w w' ∧ s.p v w') Q :=
  loc_run (v := v) (by unfold execOp; rw [ho]; simp only [Sem.run_bind, h, Result.andThen_ok, Sem.run_pure]) (Below.refl _ _) hs
theorem loc_call {f : FuncId} {args : List Operand} {ts : Array TypeId} (ho : o.op = .call { callee := .value (.func f), args := args.toArray, argTypes := ts })
    (hf : (P.funcs[f]?).map (fun fn => fn.name != "runtime.NumGoroutine" && fn.body.isSome) = some true) (h : Calls P f (args.map a.eval).toArray w fun e w' => ∃ v, e = .returned v ∧ Below w.heap.size w w' ∧ s.p v w') : o.wp P a w (fun a' w' => ∃ v, a' = a.put o.dst v ∧ Below w.heap.size w w' ∧ s.p v w') Q := by
  have hrun : (execOp a.eval o).run P w = .ok (.enter f (args.map a.eval).toArray) w := by
    unfold execOp; rw [ho]
    cases hfn : P.funcs[f]? with
    | none => rw [hfn] at hf; cases hf
    | some fn =>
      rw [hfn] at hf
      simp only [Option.map_some, Option.some.injEq, Bool.and_eq_true, bne_iff_ne, ne_eq] at hf
      have hb : fn.body ≠ none := fun e => by rw [e] at hf; exact absurd hf.2 (by simp)
      simp [resolve, Deferred.ofValue, invoke, callFunc, show a.eval (.func f) = .func (.func f) #[] #[] from rfl, hfn, hf.1, hb]
  unfold Oper.wp
  rw [hrun, Oper.upon_enter]
  refine h.mono ?_
  rintro e w' ⟨v, rfl, hb, hs⟩
  exact ⟨v, rfl, hb, hs⟩
end
section
variable {P : Program} {ops : Array Oper} {Q : Exit → Act → World → Prop} {a : Act} {w : World} {rest : List Oper}
theorem local_ret {fn : Func} {R : Ending → World → Prop} {t : Tmp} {v : Value} (h : fn.results = #[.tmp t]) (hd : a.defers = []) (hv : a.eval (.tmp t) = v) (hR : R (.returned v) w) : bodyPost P fn R .ret a w :=
  bodyPost_ret (results_tmp h _ _ _) hd (by rw [show a.tmps.getD t undef = v from hv]; exact hR)
end
end Go.Proofs.YteoadfckcilalaaDoor
namespace Go.Proofs.YteoadfckcilalaaDoor
open Go.ChangeShapes Go.WideShapes Go.ChangeAt Go.RowKit

theorem IsBytes.keep {w w' : World} {a : Option Addr} {l : List UInt8} {cap : Nat} (h : IsBytes w a l cap) (hb : Below w.heap.size w w') : IsBytes w' a l cap := by
  rcases h with h | ⟨x, h1, h2, h3, h4⟩
  · exact .inl h
  · exact .inr ⟨x, h1, h2, h3, fun j hj => below_cell hb (h4 j hj)⟩

section
variable {ops : Array Oper} {rest : List Oper} {o : Oper} {act : Act} {Q : Exit → Act → World → Prop}
end

end Go.Proofs.YteoadfckcilalaaDoor
namespace Go.Proofs.YteoadfckcilalaaDoor
open Go.RowKit

def BytesV (w : World) (v : Value) (l : List UInt8) : Prop := ∃ a c, v = .slice a l.length c ∧ IsBytes w a l c
theorem BytesV.keep {w w' : World} {v : Value} {l : List UInt8} (h : BytesV w v l) (hb : Below w.heap.size w w') : BytesV w' v l := by
  obtain ⟨a, c, h1, h2⟩ := h
  exact ⟨a, c, h1, h2.keep hb⟩
def Spec.bytes (l : List UInt8) : Spec := ⟨fun v w => BytesV w v l, fun _ _ _ h hb => h.keep hb⟩

section
variable {Q : Exit → Act → World → Prop} {a : Act} {w : World} {o : Oper} {s : Spec}
end
end Go.Proofs.YteoadfckcilalaaDoor
namespace Go.Proofs.YteoadfckcilalaaDoor
open Go.RowKit

/-- .. with what stays known of the value alone. -/
structure SpecQ extends Spec where
  q : Value → Prop
  weak : ∀ v w, p v w → q v
def SpecQ.val (v : Value) : SpecQ := ⟨.val v, fun x => x = v, fun _ _ h => h⟩
def SpecQ.of (s : Spec) : SpecQ := ⟨s, fun _ => True, fun _ _ _ => trivial⟩

section
variable {P : Program} {Q : Exit → Act → World → Prop} {ops : Array Oper} {S : List (Option SpecQ)} {a0 : Act} {w0 : World}
theorem holds_put {a : Act} {o : Oper} {i j : Nat} {w : World} {T : List Spec} (hd : dstsOk ops a0.tmps.size = true) (ho : ops[i]? = some o) (hji : j ≠ i) {v : Value} (h : Holds ops T a w j) : Holds ops T (a.put o.dst v) w j := by
  unfold Holds at *
  cases hoj : ops[j]? with
  | none => simp
  | some o' =>
    cases hsj : T[j]? with
    | none => simp
    | some s' =>
      simp only [hoj, hsj] at h ⊢
      cases hdo : o'.dst with
      | none => trivial
      | some d =>
        simp only [hdo] at h ⊢
        show s'.p ((a.put o.dst v).eval (.tmp d)) w
        rw [eval_put_other]
        · exact h
        · intro e
          exact (dsts_lt hd ho e).2 j o' hoj hji hdo
end

section
variable {P : Program} {Q : Exit → Act → World → Prop} {ops : Array Oper} {a : Act} {w : World} {o : Oper} {s : SpecQ}
end
end Go.Proofs.YteoadfckcilalaaDoor
namespace Go.Proofs.YteoadfckcilalaaDoor

/-- A fact that no tactic looks into (Hid is a definition, which some unfold). -/
structure Box (p : Prop) : Prop where
  out : p
/-- A word as an integer: of its bounds nothing is to be seen. -/
def vU (x : UInt32) : Int := (x.toNat : Int)
def vW (x : UInt32) : Value := .int .u32 (vU x)
structure St where
  (a b c d e f g h : UInt32)
def St.cells (s : St) : Array Value := #[vW s.a, vW s.b, vW s.c, vW s.d, vW s.e, vW s.f, vW s.g, vW s.h]
def St.add (s t : St) : St := ⟨s.a + t.a, s.b + t.b, s.c + t.c, s.d + t.d, s.e + t.e, s.f + t.f, s.g + t.g, s.h + t.h⟩

/-- Four bytes as a word, the first one the greatest. -/
def w4 (l : List UInt8) : UInt32 := l.foldl (fun x c => (x <<< 8) ||| c.toUInt32) 0
end Go.Proofs.YteoadfckcilalaaDoor
namespace Go.Proofs.YteoadfckcilalaaDoor
open Go.RowKit

theorem below_oneF (w : World) (o : Obj) : Below w.heap.size w (w.alloc o) := (Below.refl _ _).alloc (Nat.le_refl _) _
/-- Whether a field is valid. -/
def fldB (n v : ByteArray) : Bool := tokS n && valS v
theorem fldB_tok {n v : ByteArray} (h : tokS n = false) : fldB n v = false := by unfold fldB; rw [h]; rfl
theorem fldB_val {n v : ByteArray} (h : tokS n = true) : fldB n v = valS v := by unfold fldB; rw [h]; rfl

set_option maxHeartbeats 1000000 in
theorem hdrValid_any (n v : ByteArray) (w : World) (hn : n.size ≤ maxLen) (hv : v.size ≤ maxLen) :
    Calls Tryd.prog 36 #[.agg #[.string n, .string v]] w fun e w' => e = .returned (.bool (fldB n v)) ∧ Below w.heap.size w w' := by
  go_enter Tryd.func36, Tryd.ntmps36
  by_cases ht : tokS n = true
  · have HT := Box.mk ht
    go_wp2_with fail
    refine (token_any n _ hn).mono ?_
    rintro e w1 ⟨rfl, rfl⟩
    go_wp2_with fail
    refine (value_any v _ hv).mono ?_
    rintro e w1 ⟨rfl, hb⟩
    clear ht
    go_wp2_with fail
    go_ret
    exact ⟨ret_bool (fldB_val HT.out).symm, below_trans (below_oneF _ _) hb⟩
  · have ht' : tokS n = false := by simpa using ht
    have HT := Box.mk ht'
    clear ht
    go_wp2_with fail
    refine (token_any n _ hn).mono ?_
    rintro e w1 ⟨rfl, rfl⟩
    go_wp2_with fail
    go_ret
    exact ⟨ret_bool (fldB_tok HT.out).symm, below_oneF _ _⟩

set_option maxHeartbeats 1000000 in
theorem hdrLine_any (n v : ByteArray) (w : World) (hn : n.size ≤ 1000000000) (hv : v.size ≤ 1000000000) :
    Calls Tryd.prog 38 #[.agg #[.string n, .string v]] w fun e w' => e = .returned (.string (n ++ ⟨#[58, 32]⟩ ++ v ++ ⟨#[13, 10]⟩)) ∧ Below w.heap.size w w' := by
  have h1 : (n ++ ⟨#[58, 32]⟩).size = n.size + 2 := by rw [ByteArray.size_append]; rfl
  have h2 : (n ++ ⟨#[58, 32]⟩ ++ v).size = n.size + 2 + v.size := by rw [ByteArray.size_append, h1]
  go_enter Tryd.func38, Tryd.ntmps38
  go_wp2_with fail
  go_ret
  exact ⟨rfl, below_oneF _ _⟩
end Go.Proofs.YteoadfckcilalaaDoor
namespace Go.Proofs.YteoadfckcilalaaDoor
open Go.ChangeShapes Go.WideShapes Go.ChangeAt Go.RowKit

abbrev Fld := ByteArray × ByteArray
/-- The cells of fields. -/
def cellsF (l : List Fld) : List Value := l.flatMap fun f => [.string f.1, .string f.2]
theorem cellsF_len (l : List Fld) : (cellsF l).length = l.length * 2 := by
  induction l with
  | nil => rfl
  | cons a t ih =>
    have : cellsF (a :: t) = .string a.1 :: .string a.2 :: cellsF t := rfl
    rw [this]; simp only [List.length_cons, ih]; omega
theorem cellsF_app (a b : List Fld) : cellsF (a ++ b) = cellsF a ++ cellsF b := by unfold cellsF; rw [List.flatMap_append]
theorem cellsF_get : ∀ (l : List Fld) (j : Nat) (hj : j < l.length), (cellsF l)[j * 2]? = some (.string l[j].1) ∧ (cellsF l)[j * 2 + 1]? = some (.string l[j].2)
  | a :: t, 0, _ => ⟨rfl, rfl⟩
  | a :: t, j + 1, hj => by
    have ih := cellsF_get t j (by simpa using hj)
    have e : cellsF (a :: t) = .string a.1 :: .string a.2 :: cellsF t := rfl
    rw [e, show (j + 1) * 2 = j * 2 + 1 + 1 by omega, show j * 2 + 1 + 1 + 1 = (j * 2 + 1) + 1 + 1 by omega]
    simpa using ih
theorem cellsF_one (l : List Fld) : ∀ u ∈ cellsF l, u.oneCell' = true := by
  intro u hu
  unfold cellsF at hu
  obtain ⟨f, _, hf⟩ := List.mem_flatMap.1 hu
  simp at hf
  rcases hf with rfl | rfl <;> rfl

theorem cell_next {w : World} {x : Addr} {i : Nat} {v : Value} (h : w.cell? (x.add (i + 1)) = some v) : w.cell? ⟨(x.add i).block, (x.add i).off + 1, none⟩ = some v := by
  rw [← Go.Deep.add_add] at h
  rw [← h]; rfl
/-- The slice at a holds the fields l. -/
def FldsIn (w : World) (a : Option Addr) (l : List Fld) : Prop :=
  ∀ j (hj : j < l.length), ∃ x, a = some x ∧ w.cell? (x.add (j * 2)) = some (.string l[j].1) ∧ w.cell? (x.add (j * 2 + 1)) = some (.string l[j].2)
theorem FldsIn.keep {w w' : World} {a : Option Addr} {l : List Fld} (h : FldsIn w a l) (hb : Below w.heap.size w w') : FldsIn w' a l := fun j hj => by
  obtain ⟨x, e, h1, h2⟩ := h j hj
  exact ⟨x, e, below_cell hb h1, below_cell hb h2⟩
theorem FldsIn.nil (w : World) (a : Option Addr) : FldsIn w a [] := fun _ hj => absurd hj (Nat.not_lt_zero _)
theorem FldsIn.take {w : World} {a : Option Addr} {l : List Fld} (h : FldsIn w a l) (k : Nat) : FldsIn w a (l.take k) := fun j hj => by
  have hj' : j < l.length := by rw [List.length_take] at hj; omega
  obtain ⟨x, e, h1, h2⟩ := h j hj'
  exact ⟨x, e, by rw [List.getElem_take]; exact h1, by rw [List.getElem_take]; exact h2⟩
theorem FldsIn.cells {w : World} {x : Addr} {l : List Fld} (h : FldsIn w (some x) l) : ∀ j u, (cellsF l)[j]? = some u → w.cell? (x.add j) = some u := fun j u hj => by
  have hlt : j < l.length * 2 := by rw [← cellsF_len]; exact (List.getElem?_eq_some_iff.1 hj).1
  have hk : j / 2 < l.length := by omega
  obtain ⟨y, e, h1, h2⟩ := h (j / 2) hk
  obtain rfl := Option.some.inj e
  obtain ⟨g1, g2⟩ := cellsF_get l (j / 2) hk
  rcases Nat.mod_two_eq_zero_or_one j with hm | hm
  · have : j / 2 * 2 = j := by omega
    rw [this] at h1 g1
    rw [hj] at g1; rw [h1, ← g1]
  · have : j / 2 * 2 + 1 = j := by omega
    rw [this] at h2 g2
    rw [hj] at g2; rw [h2, ← g2]
theorem FldsIn.of_cells {w : World} {x : Addr} {l : List Fld} (h : ∀ j u, (cellsF l)[j]? = some u → w.cell? (x.add j) = some u) : FldsIn w (some x) l := fun j hj =>
  ⟨x, rfl, h _ _ (cellsF_get l j hj).1, h _ _ (cellsF_get l j hj).2⟩

theorem run_loadF (w : World) (p : Addr) (n v : ByteArray) (h0 : w.cell? p = some (.string n)) (h1 : w.cell? (p.add 1) = some (.string v)) :
    (Instr.loadAt 38 (.pointer (some p))).run Tryd.prog w = .ok (.agg #[.string n, .string v]) w := by
  have hl : (loadCells p 2).run Tryd.prog w = .ok #[.string n, .string v] w :=
    run_loadCells_list (P := Tryd.prog) w p [.string n, .string v] (fun j u hj => by
      match j, hj with
      | 0, hj => simp at hj; subst hj; rw [show p.add 0 = p by unfold Addr.add; split <;> simp_all]; exact h0
      | 1, hj => simp at hj; subst hj; exact h1
      | j + 2, hj => simp at hj)
  have hagg : (isAgg 38).run Tryd.prog w = .ok true w := by
    unfold isAgg
    rw [Sem.run_bind, run_underlying Tryd.underlying38 w]; rfl
  have hs : ((Tryd.prog.info? 38).map (·.size)) = some 2 := by kernel_rfl
  cases hq : Tryd.prog.info? 38 with
  | none => rw [hq] at hs; cases hs
  | some i =>
    have hs' : i.size = 2 := by rw [hq] at hs; simpa using hs
    simp [Instr.loadAt, Instr.sureAddr, loadVar, Sem.run_bind, hagg, sizeOf, typeInfo, hq, hs', hl]
theorem FldsIn.load {w : World} {x : Addr} {l : List Fld} (h : FldsIn w (some x) l) {j : Nat} (hj : j < l.length) :
    (Instr.loadAt 38 (.pointer (some (x.add (j * 2))))).run Tryd.prog w = .ok (.agg #[.string l[j].1, .string l[j].2]) w := by
  obtain ⟨y, e, h1, h2⟩ := h j hj
  obtain rfl := Option.some.inj e
  exact run_loadF w _ _ _ h1 (by rw [Go.Deep.add_add]; exact h2)

theorem Tryd.info38 : (Tryd.prog.info? 38).map (fun i => (i.zero, i.size, i.bytes)) = some (some (.agg #[.string ⟨#[]⟩, .string ⟨#[]⟩]), 2, 32) := by kernel_rfl
/-- v is a slice of the call's own with the fields l; what was there before the call is as it was. -/
def AccF (w0 w : World) (v : Value) (l : List Fld) : Prop :=
  w.ownsRow w0.heap.size 38 2 v l.length (cellsF l) ∧ Below w0.heap.size w0 w
theorem AccF.start (w : World) : AccF w w (.slice none 0 0) [] := ⟨World.ownsRow_nil _ _ _ _, Below.refl _ _⟩
theorem AccF.size {w0 w : World} {v : Value} {l : List Fld} (h : AccF w0 w v l) : w0.heap.size ≤ w.heap.size := h.2.size
theorem AccF.keep {w0 w w' : World} {v : Value} {l : List Fld} (h : AccF w0 w v l) (hb : Below w.heap.size w w') : AccF w0 w' v l :=
  ⟨ownsRow_keep h.1 hb, h.2.trans (hb.mono h.2.size)⟩
theorem AccF.shape {w0 w : World} {v : Value} {l : List Fld} (h : AccF w0 w v l) : ∃ a cap, v = .slice a l.length cap ∧ FldsIn w a l := by
  obtain ⟨⟨h1, h2⟩, _⟩ := h
  rcases h2 with ⟨rfl, h2⟩ | ⟨g, cap, cur, rfl, hg, hc, hcap, hm, hsz, ht⟩
  · have : l = [] := List.eq_nil_of_length_eq_zero h2
    subst this
    exact ⟨none, 0, rfl, FldsIn.nil _ _⟩
  · refine ⟨_, cap, rfl, FldsIn.of_cells fun j u hj => ?_⟩
    have e := congrArg (fun x => x[j]?) ht
    have hlt : j < l.length * 2 := by rw [← cellsF_len]; exact (List.getElem?_eq_some_iff.1 hj).1
    rw [hj, List.getElem?_take_of_lt hlt] at e
    rw [Addr.add_lit]
    simp only [World.cell?, hc, Nat.zero_add]
    simpa using e

section
variable {ops : Array Oper} {rest : List Oper} {o : Oper} {act : Act} {Q : Exit → Act → World → Prop}
end

/-- Strings that a program may hold. -/
def ShortF (l : List Fld) : Prop := ∀ f ∈ l, f.1.size ≤ maxLen ∧ f.2.size ≤ maxLen
theorem ShortF.take {l : List Fld} (h : ShortF l) (k : Nat) : ShortF (l.take k) := fun f hf => h f (List.mem_of_mem_take hf)
theorem bulk_mem {H : Type} {x : DataW H} : ∀ {l : List (DataW H)}, x ∈ l → Rows.uptoBulk x ≤ Rows.uptoBulkAll l
  | y :: r, h => by
    simp only [Rows.uptoBulkAll]
    rcases List.mem_cons.1 h with rfl | h
    · omega
    · have := bulk_mem h; omega
def strF : Value → ByteArray | .string s => s | _ => ⟨#[]⟩
theorem open_fields {H : Type} {enc : TypeId × Value → H} {W : World} {a : Option Addr} {len cap : Nat} {d : DataW H} {ps : List MemPlace} {base : Nat}
    (h : DataW.Trod enc Tryd.prog W base (fun _ => true) true 22 (.slice a len cap) d ps) :
    ∃ l : List Fld, len = l.length ∧ FldsIn W a l ∧ l.length ≤ cap ∧ cap ≤ maxLen ∧ ShortF l ∧ ∀ f ∈ l, f.1.size ≤ Rows.uptoBulk d ∧ f.2.size ≤ Rows.uptoBulk d := by
  obtain ⟨fuel, hf⟩ := h
  rcases Go.Deep.open_slice_pairs Tryd.underlying22 Tryd.underlying38 (by kernel_rfl) (by kernel_rfl) (by kernel_rfl) (by kernel_rfl) (by kernel_rfl) hf with ⟨hcs, _⟩ | ⟨x, n, c, m, k, V0, V1, D0, D1, P0, P1, hcs, _, hl, hm, hmm, hx, hi⟩
  · simp [Value.cells] at hcs
    obtain ⟨rfl, rfl, rfl⟩ := hcs
    exact ⟨[], rfl, FldsIn.nil _ _, Nat.le_refl _, Nat.zero_le _, (fun f hf => by cases hf), (fun f hf => by cases hf)⟩
  · simp [Value.cells] at hcs
    obtain ⟨rfl, rfl, rfl⟩ := hcs
    have hlm : len ≤ m := by rw [hmm]; split <;> omega
    have each : ∀ i, i < m → ∃ s t : ByteArray, V0 i = .string s ∧ V1 i = .string t ∧ s.size ≤ maxLen ∧ t.size ≤ maxLen ∧ D0 i = .lit (.string s.data.toList) ∧ D1 i = .lit (.string t.data.toList) := fun i him => by
      obtain ⟨_, _, h3, h4⟩ := hi i him
      obtain ⟨s, e1, e2, e3⟩ := DataW.trod_string Tryd.underlying9 h3
      obtain ⟨t, f1, f2, f3⟩ := DataW.trod_string Tryd.underlying9 h4
      injection e1 with e1; injection f1 with f1
      exact ⟨s, t, e1, f1, e3, f3, congrArg Prod.fst e2, congrArg Prod.fst f2⟩
    have hlen : ((List.range len).map fun i => ((strF (V0 i), strF (V1 i)) : Fld)).length = len := by simp
    have hd : d = .slice ((List.range len).map fun i => .agg [D0 i, D1 i]) ((List.range (m - len)).map fun j => .agg [D0 (len + j), D1 (len + j)]) := congrArg Prod.fst hx
    refine ⟨(List.range len).map fun i => (strF (V0 i), strF (V1 i)), hlen.symm, fun j hj => ?_, by rw [hlen]; exact hl, hm, fun f hf => ?_, fun f hf => ?_⟩
    · rw [hlen] at hj
      obtain ⟨h1, h2, _⟩ := hi j (by omega)
      obtain ⟨s, t, e1, e2, _⟩ := each j (by omega)
      refine ⟨x, rfl, ?_, ?_⟩
      · rw [h1, e1]; simp [strF, e1]
      · rw [h2, e2]; simp [strF, e2]
    · obtain ⟨i, hi', rfl⟩ := List.mem_map.1 hf
      obtain ⟨s, t, e1, e2, e3, e4, _⟩ := each i (by have := List.mem_range.1 hi'; omega)
      rw [e1, e2]; exact ⟨e3, e4⟩
    · obtain ⟨i, hi', rfl⟩ := List.mem_map.1 hf
      obtain ⟨s, t, e1, e2, e3, e4, e5, e6⟩ := each i (by have := List.mem_range.1 hi'; omega)
      have hb := bulk_mem (x := (.agg [D0 i, D1 i] : DataW H)) (l := (List.range len).map fun i => .agg [D0 i, D1 i]) (List.mem_map.2 ⟨i, hi', rfl⟩)
      rw [e5, e6] at hb
      simp only [Rows.uptoBulk, Rows.uptoBulkAll] at hb
      have g1 : s.data.toList.length = s.size := by rw [Array.length_toList]; rfl
      have g2 : t.data.toList.length = t.size := by rw [Array.length_toList]; rfl
      rw [e1, e2, hd]
      simp only [strF, Rows.uptoBulk]
      omega
end Go.Proofs.YteoadfckcilalaaDoor
namespace Go.Proofs.YteoadfckcilalaaDoor
open Go.RowKit

/-- The call returns a slice of the fields l; what was there is as it was. -/
def RetFlds (w : World) (l : List Fld) (e : Ending) (w' : World) : Prop :=
  ∃ a cap, e = .returned (.slice a l.length cap) ∧ FldsIn w' a l ∧ Below w.heap.size w w'
end Go.Proofs.YteoadfckcilalaaDoor
namespace Go.Proofs.YteoadfckcilalaaDoor
open Go.RowKit

theorem new_cellF (w : World) (cs : Array Value) (t : TypeId) (j : Nat) : (w.alloc (.cells cs t (0, 0))).cell? ⟨w.heap.size, j, none⟩ = cs[j]? :=
  cell_of_row _ _ _ _ _ _ (heap_alloc_new w (.cells cs t (0, 0)))
theorem below_twoF {w w1 : World} (h : Below w.heap.size w w1) (o : Obj) : Below w.heap.size w (w1.alloc o) := below_trans h (below_oneF w1 o)

section
variable {ops : Array Oper} {rest : List Oper} {o : Oper} {act : Act} {Q : Exit → Act → World → Prop}
end
end Go.Proofs.YteoadfckcilalaaDoor
namespace Go.Proofs.YteoadfckcilalaaDoor
open Go.RowKit

/-- The slice with its capacity: where it is nil, it is nil altogether. -/
def FldsC (w : World) (a : Option Addr) (l : List Fld) (c : Nat) : Prop := FldsIn w a l ∧ (a = none → l = [] ∧ c = 0)
theorem FldsC.keep {w w' : World} {a : Option Addr} {l : List Fld} {c : Nat} (h : FldsC w a l c) (hb : Below w.heap.size w w') : FldsC w' a l c := ⟨h.1.keep hb, h.2⟩
theorem AccF.shapeC {w0 w : World} {v : Value} {l : List Fld} (h : AccF w0 w v l) : ∃ a cap, v = .slice a l.length cap ∧ FldsC w a l cap := by
  obtain ⟨a, cap, e, hs⟩ := h.shape
  refine ⟨a, cap, e, hs, fun ha => ?_⟩
  subst ha
  obtain ⟨⟨h1, h2⟩, _⟩ := h
  rcases h2 with ⟨rfl, h2⟩ | ⟨g, cap', cur, rfl, _⟩
  · injection e with e1 e2 e3
    exact ⟨List.eq_nil_of_length_eq_zero h2, e3.symm⟩
  · injection e with e1; cases e1

section
variable {ops : Array Oper} {rest : List Oper} {o : Oper} {act : Act} {Q : Exit → Act → World → Prop}
/-- APPEND of a slice of fields that is read to a slice of the call's own. -/
theorem wpList_append_accfs (w : World) (hgd : o.guard = none) (s x : Operand) (ho : o.op = .call { callee := .builtin .append, args := #[s, x], argTypes := #[22, 22] })
    {w0 : World} {v : Value} {l : List Fld} (hs : act.eval s = v) (h : AccF w0 w v l) {a : Option Addr} {r : List Fld} {c : Nat} (hx : act.eval x = .slice a r.length c) (hr : FldsC w a r c)
    (hn : l.length + r.length ≤ 4398046511104)
    (K : ∀ v' w', AccF w0 w' v' (l ++ r) → wpList Tryd.prog ops Q rest (act.put o.dst v') w') : wpList Tryd.prog ops Q (o :: rest) act w := by
  obtain ⟨i0, hi, hz0, hz1, hz2⟩ := info_parts Tryd.info38
  cases a with
  | none =>
    obtain ⟨rfl, rfl⟩ := hr.2 rfl
    refine wpList_append_own_none hgd s x 22 ho w0.heap.size 38 i0 2 Tryd.underlying22 hi v l.length (cellsF l) hs h.1 hx (K _ _ ?_)
    rw [List.append_nil]; exact h
  | some ad =>
    refine wpList_append_own_at w hgd s x 22 ho w0.heap.size 38 i0 _ 2 32 Tryd.underlying22 hi hz0 hz1 hz2 rfl (by decide) v l.length (cellsF l) hs h.1 ad r.length c (cellsF r) hx (cellsF_len r) (hr.1.cells) (cellsF_one r) (by unfold maxLen; omega) (by omega) h.2.size ?_
    intro v' w' hown hgrow _ _
    refine K v' w' ⟨?_, h.2.grown hgrow h.2.size fun k hk => (World.ownsRow.lt h.1 k hk).1⟩
    rw [List.length_append, cellsF_app]; exact hown
end

theorem grow_runF (w : World) (n : Nat) (h0 : 0 < n) (hn : n ≤ 4000000) (ty : TypeId) :
    ∃ cap w', (Builtin.append_ #[22, 3] ty #[.slice none 0 0, .int .i64 (n : Int)]).run Tryd.prog w = .ok (.slice (some ⟨w.heap.size, 0, none⟩) n cap) w' ∧ n ≤ cap ∧ cap ≤ maxLen ∧ AccF w w' (.slice (some ⟨w.heap.size, 0, none⟩) 0 cap) [] := by
  obtain ⟨i0, hi, hz0, hz1, hz2⟩ := info_parts Tryd.info38
  have h := Lib.run_append_grow_zeros w 22 3 ty 38 i0 _ .i64 .i64 Tryd.underlying22 Tryd.underlying3 hi hz0 none 0 0 [] (by rw [hz1]; simp [Builtin.firstCells]) n h0 (by rw [hz1]; decide) (by omega) (by omega) (by rw [hz2]; omega) (by rw [hz2]; exact growslice_fits (by omega) (by omega))
  rw [Nat.zero_add] at h
  have hcap := grownCap_ge w n 0 38
  have hmx := grownCap_le_maxLen w n 0 38 (by unfold maxLen; omega)
  refine ⟨_, _, h, hcap, hmx, ⟨rfl, .inr ⟨w.heap.size, _, _, rfl, Nat.le_refl _, (heap_alloc_new w.drew _), Nat.zero_le _, hmx, ?_, rfl⟩⟩, ((Below.refl _ _).drew).alloc (Nat.le_refl _) _⟩
  simp only [Array.size_append, size_zeroCells, List.size_toArray, List.length_nil]
  show 0 + n * 2 + (_ - n) * 2 = _
  omega

set_option maxRecDepth 100000 in
set_option maxHeartbeats 2000000 in
theorem growF_any (n : Nat) (w : World) (hn : n ≤ 4000000) :
    Calls Tryd.prog 24 #[.slice none 0 0, .int .i64 (n : Int)] w fun e w' => ∃ v, e = .returned v ∧ AccF w w' v [] := by
  by_cases h0 : 0 < n
  · obtain ⟨cap, w', hrun, hc1, hc2, hacc⟩ := grow_runF w n h0 hn 22
    have HACC := Box.mk hacc
    clear hacc
    unfold maxLen at hc2
    go_enter Tryd.func24, Tryd.ntmps24
    go_wp2_with (at_builtin; refine Lib.wpList_append_run _ rfl _ _ _ _ rfl _ _ rfl rfl _ _ hrun ?_)
    go_ret
    exact ⟨_, rfl, HACC.out⟩
  · obtain rfl : n = 0 := by omega
    go_enter Tryd.func24, Tryd.ntmps24
    go_wp2_with fail
    go_ret
    exact ⟨_, rfl, AccF.start w⟩
end Go.Proofs.YteoadfckcilalaaDoor
namespace Go.Proofs.YteoadfckcilalaaDoor
open Go.RowKit

/-- The slice at p holds two slices of fields. -/
def TwoF (w : World) (p : Nat) (l r : List Fld) : Prop :=
  ∃ a ca b cb, w.cell? ⟨p, 0, none⟩ = some (.slice a l.length ca) ∧ w.cell? ⟨p, 1, none⟩ = some (.slice b r.length cb) ∧ FldsC w a l ca ∧ FldsC w b r cb
theorem TwoF.keep {w w' : World} {p : Nat} {l r : List Fld} (h : TwoF w p l r) (hb : Below w.heap.size w w') : TwoF w' p l r := by
  obtain ⟨a, ca, b, cb, h1, h2, h3, h4⟩ := h
  exact ⟨a, ca, b, cb, below_cell hb h1, below_cell hb h2, h3.keep hb, h4.keep hb⟩
def nthF (l r : List Fld) (k : Nat) : List Fld := if k = 0 then l else r
def sumF (l r : List Fld) (k : Nat) : Nat := if k = 0 then 0 else if k = 1 then l.length else l.length + r.length
def joinF (l r : List Fld) (k : Nat) : List Fld := if k = 0 then [] else if k = 1 then l else l ++ r
theorem TwoF.at {w : World} {p : Nat} {l r : List Fld} (h : TwoF w p l r) {k : Nat} (hk : k < 2) : ∃ a c, w.cell? ⟨p, k, none⟩ = some (.slice a (nthF l r k).length c) ∧ FldsC w a (nthF l r k) c := by
  obtain ⟨a, ca, b, cb, h1, h2, h3, h4⟩ := h
  match k, hk with
  | 0, _ => exact ⟨a, ca, h1, h3⟩
  | 1, _ => exact ⟨b, cb, h2, h4⟩
theorem sumF_step (l r : List Fld) {k : Nat} (hk : k < 2) : sumF l r (k + 1) = sumF l r k + (nthF l r k).length := by
  match k, hk with
  | 0, _ => simp [sumF, nthF]
  | 1, _ => simp [sumF, nthF]
theorem joinF_step (l r : List Fld) {k : Nat} (hk : k < 2) : joinF l r (k + 1) = joinF l r k ++ nthF l r k := by
  match k, hk with
  | 0, _ => simp [joinF, nthF]
  | 1, _ => simp [joinF, nthF]
theorem joinF_len (l r : List Fld) (k : Nat) : (joinF l r k).length ≤ l.length + r.length := by
  unfold joinF; split
  · simp
  · split <;> simp
theorem sumF_le (l r : List Fld) (k : Nat) : sumF l r k ≤ l.length + r.length := by
  unfold sumF; split
  · omega
  · split <;> omega
theorem nthF_len (l r : List Fld) (k : Nat) : (nthF l r k).length ≤ l.length + r.length := by
  unfold nthF; split <;> omega

set_option maxRecDepth 100000 in
set_option maxHeartbeats 2000000 in
theorem concatF_any (l r : List Fld) (p : Nat) (w : World) (h : TwoF w p l r) (hl : l.length ≤ 1000000) (hr : r.length ≤ 1000000) :
    Calls Tryd.prog 19 #[.slice (some ⟨p, 0, none⟩) 2 2] w fun e w' => RetFlds w (l ++ r) e w' ∧ ∃ a c, e = .returned (.slice a (l ++ r).length c) ∧ FldsC w' a (l ++ r) c := by
  have H0 := Box.mk h
  clear h
  go_enter Tryd.func19, Tryd.ntmps19
  go_wp2_with fail
  go_loop [3, 11] (fun v iv => ∃ k : Nat, k ≤ 2 ∧ iv = .int .i64 k ∧ ∃ q : Nat, v = .int .i64 q ∧ Box (q = sumF l r k) ∧ q ≤ 2000000) (fun _ iv => 2 - (intOf iv).toNat)
  case atStart => exact ⟨0, Nat.zero_le _, rfl, 0, rfl, ⟨rfl⟩, by omega⟩
  case round =>
    obtain ⟨k, hk, rfl, q, rfl, HQ, hq⟩ := hrel
    by_cases hlt : k < 2
    · obtain ⟨a, c, hc, _⟩ := H0.out.at hlt
      have HS := Box.mk (sumF_step l r hlt)
      have h1 := sumF_le l r (k + 1)
      have h2 := nthF_len l r k
      have h3 : q + (nthF l r k).length ≤ 2000000 := by have := HS.out; have := HQ.out; omega
      go_wp2_with fail
      go_round
      case rel => exact ⟨k + 1, by omega, by go_num, q + (nthF l r k).length, by go_num, ⟨by rw [HS.out, HQ.out]⟩, by omega⟩
      case measure => simp [intOf]; omega
    · obtain rfl : k = 2 := by omega
      have h0 : q ≤ 4000000 := by omega
      go_wp2_with fail
      refine (growF_any q _ h0).mono ?_
      rintro e w1 ⟨v, rfl, hacc⟩
      have HA := Box.mk hacc
      clear hacc HQ
      go_wp2_with fail
      go_loopw [6, 27] (fun v iv wr => ∃ k : Nat, k ≤ 2 ∧ iv = .int .i64 k ∧ Box (AccF w wr v (joinF l r k))) (fun _ iv _ => 2 - (intOf iv).toNat)
      case atStart => exact ⟨0, Nat.zero_le _, rfl, ⟨HA.out⟩⟩
      case round =>
        clear HA
        obtain ⟨k, hk, rfl, HM⟩ := hrel
        by_cases hlt : k < 2
        · obtain ⟨a, c, hc, hf⟩ := (H0.out.keep HM.out.2).at hlt
          have HF := Box.mk hf
          have HJ := Box.mk (joinF_step l r hlt)
          have h1 := joinF_len l r k
          have h2 := nthF_len l r k
          clear hf
          go_wp2_with (at_builtin; refine wpList_append_accfs _ rfl _ _ rfl rfl HM.out rfl HF.out (by omega) ?c1)
          case c1 =>
            intro v' w' hacc
            have HACC := Box.mk (show AccF w w' v' (joinF l r (k + 1)) by rw [HJ.out]; exact hacc)
            clear hacc HM HF HJ
            go_wp2_with fail
            go_roundw
            case rel => exact ⟨k + 1, by omega, by go_num, HACC⟩
            case measure => simp [intOf]; omega
        · obtain rfl : k = 2 := by omega
          have HE := Box.mk (show AccF w wr _ (l ++ r) from HM.out)
          clear HM
          go_wp2_with fail
          obtain ⟨a', cap', rfl, hs⟩ := HE.out.shapeC
          go_ret
          exact ⟨⟨a', cap', rfl, hs.1, HE.out.2⟩, a', cap', rfl, hs⟩

theorem twoF_new (w : World) (l r : List Fld) (a b : Option Addr) (ca cb : Nat) (t : TypeId) (h : FldsC w a l ca) (k : FldsC w b r cb) : TwoF (w.alloc (.cells #[.slice a l.length ca, .slice b r.length cb] t)) w.heap.size l r :=
  ⟨a, ca, b, cb, by rw [new_cellF]; rfl, by rw [new_cellF]; rfl, h.keep (below_oneF _ _), k.keep (below_oneF _ _)⟩

set_option maxHeartbeats 1000000 in
theorem fWith_any (l r : List Fld) (a b : Option Addr) (ca cb : Nat) (w : World) (h : FldsC w a l ca) (k : FldsC w b r cb) (hl : l.length ≤ 1000000) (hr : r.length ≤ 1000000) :
    Calls Tryd.prog 15 #[.slice a l.length ca, .slice b r.length cb] w (RetFlds w (l ++ r)) := by
  have H0 := Box.mk (twoF_new w l r a b ca cb 22 h k)
  have HB := Box.mk (below_oneF w (.cells #[.slice a l.length ca, .slice b r.length cb] 22))
  clear h k
  go_enter Tryd.func15, Tryd.ntmps15
  go_wp2_with fail
  refine (concatF_any l r _ _ H0.out hl hr).mono ?_
  rintro e w1 ⟨⟨a', c', rfl, hs, hb⟩, _⟩
  have HB1 := Box.mk (below_trans HB.out hb)
  have HS := Box.mk hs
  clear hs hb
  go_wp2_with fail
  go_ret
  exact ⟨a', c', by simp, HS.out, HB1.out⟩

def sameF (x y : List Fld) : Bool := decide (x = y)
theorem sameF_len {x y : List Fld} (h : ¬ x.length = y.length) : sameF x y = false := by
  unfold sameF; rw [decide_eq_false_iff_not]; intro e; exact h (by rw [e])
theorem sameF_no {x y : List Fld} {k : Nat} (h1 : k < x.length) (h2 : k < y.length) (h : ¬ x[k] = y[k]) : sameF x y = false := by
  unfold sameF; rw [decide_eq_false_iff_not]; intro e; subst e; exact h rfl
theorem sameF_yes {x y : List Fld} (hl : x.length = y.length) (h : ∀ j (h1 : j < x.length) (h2 : j < y.length), x[j] = y[j]) : sameF x y = true := by
  unfold sameF; rw [decide_eq_true_eq]; exact List.ext_getElem hl h
theorem sameF_self (x : List Fld) : sameF x x = true := by unfold sameF; simp

set_option maxRecDepth 100000 in
set_option maxHeartbeats 2000000 in
theorem sameFields_any (x y : List Fld) (a b : Option Addr) (ca cb : Nat) (w : World) (hx : FldsIn w a x) (hy : FldsIn w b y) (_hxl : x.length ≤ 2000000) (_hyl : y.length ≤ 2000000) :
    Calls Tryd.prog 13 #[.slice a x.length ca, .slice b y.length cb] w fun e w' => e = .returned (.bool (sameF x y)) ∧ Below w.heap.size w w' := by
  have HX := Box.mk hx
  have HY := Box.mk hy
  clear hx hy
  go_enter Tryd.func13, Tryd.ntmps13
  by_cases hl : x.length = y.length
  · have HL := Box.mk hl
    have hl1 : ((x.length : Int) != (y.length : Int)) = false := by simp [hl]
    have hl2 : x.length ≤ y.length := by omega
    clear hl
    go_wp2
    go_loopw [5] (fun i wr => ∃ k : Nat, k ≤ x.length ∧ i = .int .i64 k ∧ Box (∀ j (h1 : j < x.length) (h2 : j < y.length), j < k → x[j] = y[j]) ∧ Box (Below w.heap.size w wr)) (fun i _ => x.length - (intOf i).toNat)
    case atStart => exact ⟨0, Nat.zero_le _, rfl, ⟨by intro j _ _ h; omega⟩, ⟨Below.refl _ _⟩⟩
    case round =>
      obtain ⟨k, hk, rfl, HP, HB⟩ := hrel
      by_cases hlt : k < x.length
      · have hlt2 : k < y.length := by omega
        obtain ⟨x1, rfl, c1, c2⟩ := (HX.out.keep HB.out) k hlt
        obtain ⟨y1, rfl, d1, d2⟩ := (HY.out.keep HB.out) k hlt2
        have c2 := cell_next c2
        have d2 := cell_next d2
        by_cases he : x[k] = y[k]
        · have HE := Box.mk (show ∀ j (h1 : j < x.length) (h2 : j < y.length), j < k + 1 → x[j] = y[j] from fun j h1 h2 hj => by
            by_cases e : j = k
            · subst e; exact he
            · exact HP.out j h1 h2 (by omega))
          have e1 : (x[k].1.toList == y[k].1.toList) = true := by rw [he]; simp
          have e2 : (x[k].2.toList == y[k].2.toList) = true := by rw [he]; simp
          clear he
          generalize x[k] = f at *
          generalize y[k] = g at *
          go_wp2_with fail
          go_quiet (fail)
          go_wp2
          go_roundw
          case rel => exact ⟨k + 1, by omega, by go_num, HE, ⟨below_drewN HB.out _⟩⟩
          case measure => simp [intOf]; omega
        · have HN := Box.mk (sameF_no hlt hlt2 he)
          by_cases e1 : (x[k].1.toList == y[k].1.toList) = true
          · have e2 : (x[k].2.toList == y[k].2.toList) = false := by
              rw [toList_eq]; simp only [decide_eq_false_iff_not]
              intro h2
              rw [toList_eq] at e1
              exact he (Prod.ext (of_decide_eq_true e1) h2)
            clear he
            generalize x[k] = f at *
            generalize y[k] = g at *
            go_wp2_with fail
            go_quiet (fail)
            go_wp2
            go_ret
            exact ⟨ret_bool HN.out.symm, below_drewN HB.out _⟩
          · have e1' : (x[k].1.toList == y[k].1.toList) = false := by simpa using e1
            clear he e1
            generalize x[k] = f at *
            generalize y[k] = g at *
            go_wp2_with fail
            go_quiet (fail)
            go_wp2
            go_ret
            exact ⟨ret_bool HN.out.symm, below_drewN HB.out _⟩
      · go_wp2
        go_ret
        exact ⟨ret_bool (sameF_yes HL.out fun j h1 h2 => HP.out j h1 h2 (by omega)).symm, HB.out⟩
  · have hl1 : ((x.length : Int) != (y.length : Int)) = true := by rw [bne_iff_ne]; omega
    have HL := Box.mk hl
    clear hl
    go_wp2
    go_ret
    exact ⟨ret_bool (sameF_len HL.out).symm, Below.refl _ _⟩
end Go.Proofs.YteoadfckcilalaaDoor
namespace Go.Proofs.YteoadfckcilalaaDoor
open Go.RowKit

/-- A Builder of the call's own, in block b, that holds the bytes l. -/
def Bld (w0 w : World) (b : Nat) (l : List UInt8) : Prop := Lib.IsBuilder 63 5 w0.heap.size b (bytesV l) w ∧ Below w0.heap.size w0 w

theorem bld_info : (Tryd.prog.info? 63).isSome = true := by kernel_rfl
theorem bld_conv (w : World) (b : Nat) (hsh : w.shape? b = some (63, 2)) :
    (convert 61 82 (.pointer (some ⟨b, 0, none⟩))).run Tryd.prog w = .ok (.pointer (some ⟨b, 0, none⟩)) w := by
  obtain ⟨j, hj⟩ := Option.isSome_iff_exists.1 bld_info
  refine Lib.run_to_unsafe w ⟨b, 0, none⟩ Tryd.underlying61 Tryd.underlying82 hj ?_ hsh (show 0 < 2 by decide)
  have : (Tryd.prog.info? 63).map (·.size) = some 2 := by kernel_rfl
  rw [hj] at this; simp at this; omega
theorem bld_back (w : World) (b : Nat) (hsh : w.shape? b = some (63, 2)) :
    (convert 82 61 (.pointer (some ⟨b, 0, none⟩))).run Tryd.prog w = .ok (.pointer (some ⟨b, 0, none⟩)) w := by
  obtain ⟨j, hj⟩ := Option.isSome_iff_exists.1 bld_info
  exact Lib.run_from_unsafe w ⟨b, 0, none⟩ Tryd.underlying82 Tryd.underlying61 hj hsh (by kernel_rfl)
theorem bld_same (w : World) (b : Nat) : (binOp .neq 61 (.pointer (some ⟨b, 0, none⟩)) (.pointer (some ⟨b, 0, none⟩))).run Tryd.prog w = .ok (.bool false) w := by
  obtain ⟨j, hj⟩ := Option.isSome_iff_exists.1 bld_info
  exact Lib.run_neq_ptr_same w ⟨b, 0, none⟩ Tryd.underlying61 hj

set_option maxRecDepth 100000 in
set_option maxHeartbeats 1000000 in
theorem copyCheck_any (w0 w : World) (b : Nat) (l : List UInt8) (h : Bld w0 w b l) :
    Calls Tryd.prog 47 #[.pointer (some ⟨b, 0, none⟩)] w fun e w' => e = .returned (.tuple #[]) ∧ Lib.BuilderAt 63 5 w0.heap.size b (.pointer (some ⟨b, 0, none⟩)) (bytesV l) w' ∧ Below w0.heap.size w0 w' := by
  obtain ⟨h1, hB⟩ := h
  rcases h1 with h1 | h1
  · have hc := h1.cell0
    have hf := h1.frozen0
    have HU := Box.mk (h1.used (.pointer (some ⟨b, 0, none⟩)))
    have HB := Box.mk (hB.setCell (p := ⟨b, 0, none⟩) h1.1 (.pointer (some ⟨b, 0, none⟩)))
    have hsh := h1.shape
    clear h1 hB
    go_enter Tryd.func47, Tryd.ntmps47
    have hcv := bld_conv w b hsh
    have hbk := bld_back w b hsh
    have hsm := fun W => bld_same W b
    go_wp2_with fail
    rw [run_callFunc_extern Tryd.func53 (by kernel_rfl) (by kernel_rfl) (by kernel_rfl) (e := Extern.AbiNoEscape.same) (by kernel_rfl), Lib.run_noEscape]
    simp only [Result.andThen]
    rw [Oper.upon_value]
    go_wp2_with fail
    go_end0
    exact ⟨rfl, HU.out, HB.out⟩
  · have hc := h1.cell0
    have hsm := fun W => bld_same W b
    have HU := Box.mk h1
    have HB := Box.mk hB
    clear h1 hB
    go_enter Tryd.func47, Tryd.ntmps47
    go_wp2_with fail
    go_end0
    exact ⟨rfl, HU.out, HB.out⟩

section
variable {ops : Array Oper} {rest : List Oper} {o : Oper} {act : Act} {Q : Exit → Act → World → Prop}
end

theorem bldX : Builder.Extra Tryd.prog Tryd.lays169_ren where -- 39
  sizeBuilder := by kernel_rfl
  liesBuilder := by kernel_rfl
  t5 := Tryd.underlying5
  a5 := Tryd.isAgg5
  z5 := Tryd.sizeOf5
  v5 := Tryd.zeroValue5
  infoByte := Tryd.info5
  cellsByte := by kernel_rfl
  sizeByte := by kernel_rfl
  neB5 := by decide
theorem bld_string (w0 w : World) (b : Nat) (l : List UInt8) (h : Bld w0 w b l) :
    Calls Tryd.prog 39 #[.pointer (some ⟨b, 0, none⟩)] w fun e w' => e = .returned (.string ⟨l.toArray⟩) ∧ Below w0.heap.size w0 w' := by
  refine (Any.Builder_String_any_k Tryd.lays169 bldX w0.heap.size b l w (Lib.IsBuilderF.of h.1) h.2.size).mono ?_
  rintro e w' ⟨he, _, hb, _⟩
  exact ⟨he, h.2.trans hb⟩

end Go.Proofs.YteoadfckcilalaaDoor
namespace Go.Proofs.YteoadfckcilalaaDoor
open Go.RowKit

theorem strCells_bytes (s : ByteArray) : Lib.strCells s = bytesV s.data.toList := by
  unfold Lib.strCells bytesV; rfl
set_option maxHeartbeats 1000000 in
theorem writeString_any (w0 w : World) (b : Nat) (l : List UInt8) (s : ByteArray) (h : Bld w0 w b l) (hl : l.length + s.size ≤ 140737488355328) :
    Calls Tryd.prog 37 #[.pointer (some ⟨b, 0, none⟩), .string s] w fun e w' => e = .returned (.tuple #[.int .i64 s.size, .nilIface]) ∧ Bld w0 w' b (l ++ s.data.toList) := by
  have H0 := Box.mk h
  clear h
  obtain ⟨i0, hi, hz0, hz1, hz2⟩ := info_parts Tryd.info5
  have HI := Box.mk (And.intro hi (And.intro hz0 (And.intro hz1 hz2)))
  clear hi hz0 hz1 hz2
  go_enter Tryd.func37, Tryd.ntmps37
  go_wp2_with fail
  refine (copyCheck_any w0 w b l H0.out).mono ?_
  rintro e w1 ⟨rfl, ⟨hb0, v, hbk, hown, hne⟩, hB⟩
  have hc1 : w1.cell? ⟨b, 1, none⟩ = some v := by rw [cell_of_row _ _ _ _ _ _ hbk]; rfl
  have hsz : b < w1.heap.size := (Array.getElem?_eq_some_iff.1 hbk).1
  have HOWN := Box.mk hown
  have HK := Box.mk (And.intro hb0 (And.intro hbk (And.intro hne hsz)))
  have HB := Box.mk hB
  have hbl := bytesV_len l
  clear hb0 hbk hown hne hB hsz
  go_wp2_with (at_builtin; refine Lib.wpList_append_own_string _ rfl _ _ 26 9 rfl w0.heap.size 5 i0 Tryd.underlying26 Tryd.underlying9 HI.out.1 HI.out.2.1 HI.out.2.2.1 HI.out.2.2.2 _ _ _ rfl HOWN.out s rfl ?c3 ?c4 ?c5 ?c1)
  case c3 => unfold maxLen; omega
  case c4 => omega
  case c5 => have := HB.out.size; omega
  case c1 =>
    intro v2 w2 hown2 hgrow _
    have hown3 : w2.ownsRow w0.heap.size 5 1 v2 (bytesV (l ++ s.data.toList)).length (bytesV (l ++ s.data.toList)) := by
      have e1 : bytesV (l ++ s.data.toList) = bytesV l ++ Lib.strCells s := by rw [strCells_bytes]; unfold bytesV; rw [List.map_append]
      have e2 : (bytesV l ++ Lib.strCells s).length = (bytesV l).length + s.size := by rw [List.length_append, Lib.strCells_length]
      rw [e1, e2, hbl]; exact hown2
    have HOWN3 := Box.mk hown3
    obtain ⟨a2, n2, cp2, rfl⟩ : ∃ a2 n2 cp2, v2 = .slice a2 n2 cp2 := by
      rcases hown2.2 with ⟨hv, _⟩ | ⟨g, cap, cur, hv, _⟩
      · exact ⟨_, _, _, hv⟩
      · exact ⟨_, _, _, hv⟩
    have hbk2 := (hgrow.block b HK.out.2.2.2 (fun e => HK.out.2.2.1 e.symm)).trans HK.out.2.1
    have hc2 : w2.cell? ⟨b, 1, none⟩ = some v := by rw [cell_of_row _ _ _ _ _ _ hbk2]; rfl
    have hf2 := frozen_of_row w2 b 1 _ _ hbk2
    have HP := Box.mk (Lib.BuilderAt.put HK.out.1 hbk2 (v' := .slice a2 n2 cp2) HOWN3.out (by decide))
    have HB2 := Box.mk ((HB.out.grown hgrow HB.out.size fun k hk => (World.ownsRow.lt HOWN.out k hk).1).setCell (p := ⟨b, 1, none⟩) HK.out.1 (.slice a2 n2 cp2))
    clear hown2 hown3 hgrow hbk2 HK HB HOWN HOWN3
    go_wp2_with fail
    go_ret2
    exact ⟨rfl, .inr HP.out, HB2.out⟩

theorem bld_newF (w : World) : Bld w (w.alloc (.cells #[.pointer none, .slice none 0 0] 63)) w.heap.size [] :=
  ⟨.inl ⟨Nat.le_refl _, .slice none 0 0, heap_alloc_new _ _, World.ownsRow_nil _ _ _ _, by simp [Value.ownBlock]⟩, (Below.refl _ _).alloc (Nat.le_refl _) _⟩
/-- The builder where the call goes on in a world that has more in it. -/
theorem Bld.keep {w0 w w' : World} {b : Nat} {l : List UInt8} (h : Bld w0 w b l) (hb : Below w.heap.size w w') : Bld w0 w' b l := by
  obtain ⟨h1, h2⟩ := h
  refine ⟨?_, h2.trans (hb.mono h2.size)⟩
  rcases h1 with ⟨hb0, v, hbk, hown, hne⟩ | ⟨hb0, v, hbk, hown, hne⟩
  · have hlt : b < w.heap.size := (Array.getElem?_eq_some_iff.1 hbk).1
    exact .inl ⟨hb0, v, by rw [hb.block b hlt]; exact hbk, ownsRow_keep hown hb, hne⟩
  · have hlt : b < w.heap.size := (Array.getElem?_eq_some_iff.1 hbk).1
    exact .inr ⟨hb0, v, by rw [hb.block b hlt]; exact hbk, ownsRow_keep hown hb, hne⟩

theorem new_cellF2 (w : World) (o : Obj) (cs : Array Value) (t : TypeId) (j : Nat) : ((w.alloc o).alloc (.cells cs t (0, 0))).cell? ⟨w.heap.size + 1, j, none⟩ = cs[j]? := by
  have h := new_cellF (w.alloc o) cs t j
  rw [show (w.alloc o).heap.size = w.heap.size + 1 by simp] at h
  exact h
/-- The lines of fields. -/
def lineB (f : Fld) : List UInt8 := f.1.data.toList ++ [58, 32] ++ f.2.data.toList ++ [13, 10]
def linesB (l : List Fld) : List UInt8 := l.flatMap lineB
def allB (l : List Fld) : Bool := l.all fun f => fldB f.1 f.2
def fmtF (l : List Fld) : ByteArray := if allB l then ⟨(linesB l).toArray⟩ else ⟨#[]⟩
theorem lineB_eq (f : Fld) : (f.1 ++ ⟨#[58, 32]⟩ ++ f.2 ++ ⟨#[13, 10]⟩ : ByteArray).data.toList = lineB f := by
  unfold lineB
  simp only [ByteArray.data_append, Array.toList_append]
theorem linesB_step (l : List Fld) (k : Nat) (h : k < l.length) : linesB (l.take (k + 1)) = linesB (l.take k) ++ lineB l[k] := by
  unfold linesB
  rw [List.take_succ_eq_append_getElem h, List.flatMap_append]; simp
theorem lineB_len (f : Fld) : (lineB f).length = f.1.size + f.2.size + 4 := by
  unfold lineB
  simp only [List.length_append, List.length_cons, List.length_nil, Array.length_toList]
  generalize e1 : f.1.data.size = n1
  generalize e2 : f.2.data.size = n2
  have g1 : f.1.size = n1 := e1
  have g2 : f.2.size = n2 := e2
  rw [g1, g2]; omega
/-- Strings that are small enough to be joined. -/
def SmallF (l : List Fld) : Prop := ∀ f ∈ l, f.1.size ≤ 1048576 ∧ f.2.size ≤ 1048576
theorem linesB_len (l : List Fld) (h : SmallF l) (k : Nat) : (linesB (l.take k)).length ≤ k * 2097156 := by
  induction k with
  | zero => simp [linesB]
  | succ k ih =>
    by_cases hk : k < l.length
    · rw [linesB_step l k hk, List.length_append, lineB_len]
      have := h _ (List.getElem_mem hk)
      omega
    · rw [List.take_of_length_le (by omega)]
      rw [List.take_of_length_le (by omega)] at ih
      exact Nat.le_trans ih (Nat.mul_le_mul_right _ (Nat.le_succ k))
theorem fmtF_no {l : List Fld} {k : Nat} (hk : k < l.length) (h : fldB l[k].1 l[k].2 = false) : fmtF l = ⟨#[]⟩ := by
  unfold fmtF
  rw [if_neg]
  intro ha
  have := List.all_eq_true.1 ha _ (List.getElem_mem hk)
  rw [h] at this; cases this
theorem fmtF_yes {l : List Fld} {k : Nat} (hk : k ≤ l.length) (hk2 : ¬ k < l.length) (h : ∀ f ∈ l.take k, fldB f.1 f.2 = true) : fmtF l = ⟨(linesB l).toArray⟩ := by
  unfold fmtF
  rw [List.take_of_length_le (by omega)] at h
  have : allB l = true := List.all_eq_true.2 h
  rw [if_pos this]
theorem all_stepF {l : List Fld} {k : Nat} (hk : k < l.length) (h : ∀ f ∈ l.take k, fldB f.1 f.2 = true) (hf : fldB l[k].1 l[k].2 = true) : ∀ f ∈ l.take (k + 1), fldB f.1 f.2 = true := by
  rw [List.take_succ_eq_append_getElem hk]
  intro y hy
  rcases List.mem_append.1 hy with h1 | h1
  · exact h y h1
  · simp at h1; rw [h1]; exact hf
theorem le_maxLen {n : Nat} (h : n ≤ 1048576) : n ≤ maxLen := by unfold maxLen; omega

set_option maxRecDepth 100000 in
set_option maxHeartbeats 2000000 in
theorem fFormat_any (l : List Fld) (a : Option Addr) (cap : Nat) (w : World) (h : FldsIn w a l) (hz : SmallF l) (hl : l.length ≤ 1000000) :
    Calls Tryd.prog 28 #[.slice a l.length cap] w fun e w' => e = .returned (.string (fmtF l)) ∧ Below w.heap.size w w' := by
  have H0 := Box.mk h
  have HZ := Box.mk hz
  clear h hz
  go_enter Tryd.func28, Tryd.ntmps28
  go_wp2_with fail
  obtain ⟨W, hW⟩ : ∃ W, W = w.alloc (.cells #[.pointer none, .slice none 0 0] 63) := ⟨_, rfl⟩
  have HB0 := Box.mk (bld_newF w)
  rw [← hW] at HB0 ⊢
  clear hW
  generalize hb : w.heap.size = b at *
  have HBS := Box.mk hb
  clear hb
  go_loopw [9] (fun iv wr => ∃ k : Nat, k ≤ l.length ∧ iv = .int .i64 k ∧ Box (Bld w wr b (linesB (l.take k)) ∧ ∀ f ∈ l.take k, fldB f.1 f.2 = true)) (fun iv _ => l.length - (intOf iv).toNat)
  case atStart => exact ⟨0, Nat.zero_le _, rfl, ⟨HB0.out, by simp⟩⟩
  case round =>
    clear HB0
    obtain ⟨k, hk, rfl, HM⟩ := hrel
    by_cases hlt : k < l.length
    · obtain ⟨x, rfl, hx1, hx2⟩ := (H0.out.keep HM.out.1.2) k hlt
      have hx2 := cell_next hx2
      have HSZ := Box.mk (HZ.out _ (List.getElem_mem hlt))
      have hLB := linesB_len l HZ.out k
      have HST := Box.mk (linesB_step l k hlt)
      by_cases hv : fldB l[k].1 l[k].2 = true
      · have HALL := Box.mk (all_stepF hlt HM.out.2 hv)
        have HV := Box.mk hv
        clear hv
        generalize l[k] = f at *
        have HLL := Box.mk (lineB_len f)
        go_wp2_with fail
        refine (hdrValid_any f.1 f.2 _ (le_maxLen HSZ.out.1) (le_maxLen HSZ.out.2)).mono ?_
        rintro e w1 ⟨he, hb1⟩
        rw [HV.out] at he
        subst he
        have HB1 := Box.mk (below_trans (below_oneF wr (.cells #[.string f.1, .string f.2] 38)) (below_trans (below_oneF _ (.cells #[.string f.1, .string f.2] 65)) hb1))
        have hc1 : w1.cell? ⟨wr.heap.size + 1, 0, none⟩ = some (.string f.1) := below_cell hb1 (by rw [new_cellF2]; rfl)
        have hc2 : w1.cell? ⟨wr.heap.size + 1, 1, none⟩ = some (.string f.2) := below_cell hb1 (by rw [new_cellF2]; rfl)
        have HM1 := Box.mk (HM.out.1.keep HB1.out)
        clear hb1 hx1 hx2
        go_wp2_with fail
        refine (hdrLine_any f.1 f.2 _ (by have := HSZ.out.1; omega) (by have := HSZ.out.2; omega)).mono ?_
        rintro e w2 ⟨rfl, hb2⟩
        have HM2 := Box.mk (HM1.out.keep hb2)
        have HLE := Box.mk (lineB_eq f)
        have HS := Box.mk (show (f.1 ++ ⟨#[58, 32]⟩ ++ f.2 ++ ⟨#[13, 10]⟩ : ByteArray).size = f.1.size + f.2.size + 4 by
          rw [← HLL.out, ← HLE.out, Array.length_toList]; rfl)
        clear hb2 hc1 hc2 HM1
        generalize (f.1 ++ ⟨#[58, 32]⟩ ++ f.2 ++ ⟨#[13, 10]⟩ : ByteArray) = L at *
        go_wp2_with fail
        refine (writeString_any w w2 b _ L HM2.out (by have := HS.out; have := HSZ.out; omega)).mono ?_
        rintro e w3 ⟨rfl, h3⟩
        have HM3 := Box.mk (show Bld w w3 b (linesB (l.take (k + 1))) ∧ ∀ f ∈ l.take (k + 1), fldB f.1 f.2 = true from ⟨by rw [HST.out, ← HLE.out]; exact h3, HALL.out⟩)
        clear h3 HM2 HLE HST HALL
        go_wp2_with fail
        go_roundw
        case rel => exact ⟨k + 1, by omega, by go_num, HM3⟩
        case measure => simp [intOf]; omega
      · have HV := Box.mk (show fldB l[k].1 l[k].2 = false by simpa using hv)
        have HE := Box.mk (fmtF_no hlt HV.out)
        clear hv
        generalize l[k] = f at *
        go_wp2_with fail
        refine (hdrValid_any f.1 f.2 _ (le_maxLen HSZ.out.1) (le_maxLen HSZ.out.2)).mono ?_
        rintro e w1 ⟨he, hb1⟩
        rw [HV.out] at he
        subst he
        have HB1 := Box.mk (HM.out.1.2.trans ((below_trans (below_oneF wr (.cells #[.string f.1, .string f.2] 38)) (below_trans (below_oneF _ (.cells #[.string f.1, .string f.2] 65)) hb1)).mono HM.out.1.2.size))
        clear hb1
        go_wp2_with fail
        go_ret
        exact ⟨ret_str HE.out.symm, HB1.out⟩
    · have HE := Box.mk (fmtF_yes hk hlt HM.out.2)
      have HM1 := Box.mk (show Bld w wr b (linesB l) by have := HM.out.1; rw [List.take_of_length_le (by omega)] at this; exact this)
      clear HM
      go_wp2_with fail
      refine (bld_string w wr b _ HM1.out).mono ?_
      rintro e w2 ⟨rfl, hb⟩
      have HB := Box.mk hb
      clear hb
      go_wp2_with fail
      go_ret
      exact ⟨ret_str HE.out.symm, HB.out⟩

end Go.Proofs.YteoadfckcilalaaDoor
namespace Go.Proofs.YteoadfckcilalaaDoor
open Go.RowKit

/-- c waits for i, by others too. -/
def beforeB (ops : Array Oper) : Nat → Nat → Nat → Bool
  | 0, _, _ => false
  | f + 1, c, i => match ops[c]? with
    | some o => waitsFor o i || (List.range c).any fun k => waitsFor o k && beforeB ops f k i
    | none => false
/-- What is known in one phase stays known in the next. -/
def Over (ops : Array Oper) (a : Act) (w w' : World) (c : Nat) : Nat → List Spec → List Spec → Prop
  | k, s :: ss, t :: ts => (k = c ∨ ∀ v, (∀ o d, ops[k]? = some o → o.dst = some d → v = a.eval (.tmp d)) → s.p v w → t.p v w') ∧ Over ops a w w' c (k + 1) ss ts
  | _, [], [] => True
  | _, _, _ => False
/-- The operations outside the chain that may come up in phase p are those listed. -/
def sidesB (ops : Array Oper) (chain : List Nat) (M : Nat) (sides : List Nat) (p : Nat) : Bool :=
  (List.range ops.size).all fun i => chain.contains i || sides.contains i || (List.range M).any fun q => match chain[q]? with
    | some c => if q < p then beforeB ops ops.size c i else beforeB ops ops.size i c
    | none => false
def chainB (ops : Array Oper) (chain : List Nat) : Bool :=
  (List.range chain.length).all fun p => (List.range chain.length).all fun q => decide (q ≤ p) || (match chain[p]?, chain[q]? with | some c, some d => beforeB ops ops.size d c && decide (c ≠ d) && decide (d < ops.size) && decide (c < ops.size) | _, _ => false)

section
variable {P : Program} {Q : Exit → Act → World → Prop} {ops : Array Oper} {a0 : Act} {w0 : World}
theorem over_at {a : Act} {w w' : World} {c : Nat} : ∀ {ss ts : List Spec} {k : Nat}, Over ops a w w' c k ss ts → ∀ j t, ts[j]? = some t → k + j ≠ c → ∃ s, ss[j]? = some s ∧ ∀ v, (∀ o d, ops[k + j]? = some o → o.dst = some d → v = a.eval (.tmp d)) → s.p v w → t.p v w'
  | s :: ss, t :: ts, k, h, 0, t', ht, hne => by
    simp at ht; subst ht
    rcases h.1 with h1 | h1
    · exact absurd h1 (by simpa using hne)
    · exact ⟨s, rfl, h1⟩
  | s :: ss, t :: ts, k, h, j + 1, t', ht, hne => by
    have e : k + 1 + j = k + (j + 1) := by omega
    have := over_at (k := k + 1) h.2 j t' (by simpa using ht) (by omega)
    rw [e] at this; exact this
  | [], [], _, _, j, t', ht, _ => by simp at ht
  | s :: ss, [], _, h, j, t', ht, _ => by simp at ht
  | [], t :: ts, _, h, j, t', ht, _ => h.elim
theorem before_marked {m : Array Bool} (hcl : ∀ j o, ops[j]? = some o → m.getD j false = true → ∀ i, waitsFor o i = true → m.getD i false = true) :
    ∀ (f c i : Nat), beforeB ops f c i = true → m.getD c false = true → m.getD i false = true
  | 0, _, _, h, _ => by simp [beforeB] at h
  | f + 1, c, i, h, hc => by
    unfold beforeB at h
    cases ho : ops[c]? with
    | none => rw [ho] at h; cases h
    | some o =>
      rw [ho] at h
      simp only [Bool.or_eq_true, List.any_eq_true, Bool.and_eq_true] at h
      rcases h with h | ⟨k, _, h1, h2⟩
      · exact hcl c o ho hc i h
      · exact before_marked hcl f k i h2 (hcl c o ho hc k h1)
/-- What is ready waits for marked ones alone. -/
theorem before_ready {m : Array Bool} (hcl : ∀ j o, ops[j]? = some o → m.getD j false = true → ∀ i, waitsFor o i = true → m.getD i false = true) {c i : Nat} {o : Oper} (ho : ops[c]? = some o)
    (hd : ∀ j, waitsFor o j = true → m.getD j false = true) {f : Nat} (h : beforeB ops f c i = true) : m.getD i false = true := by
  cases f with
  | zero => simp [beforeB] at h
  | succ f =>
    unfold beforeB at h
    rw [ho] at h
    simp only [Bool.or_eq_true, List.any_eq_true, Bool.and_eq_true] at h
    rcases h with h | ⟨k, _, h1, h2⟩
    · exact hd i h
    · exact before_marked hcl f k i h2 (hd k h1)

end
end Go.Proofs.YteoadfckcilalaaDoor
namespace Go.Proofs.YteoadfckcilalaaDoor
open Go.RowKit

theorem add_blockF (x : Addr) (j : Nat) : (x.add j).block = x.block := by unfold Addr.add; split <;> rfl
def withI (z : Int) (n : Nat) : Int := (wrap64 (z.tmod n + n)).tmod n
theorem withI_range (z : Int) (n : Nat) (h0 : 0 < n) (hn : n ≤ 1000000000) : ∃ k : Nat, k < n ∧ withI z n = (k : Int) := by
  have h1 : z.tmod n < n := Int.tmod_lt_of_pos z (by omega)
  have h2 : -(n : Int) < z.tmod n := Int.lt_tmod_of_pos z (by omega)
  unfold withI
  generalize z.tmod n = y at *
  have e : wrap64 (y + n) = y + n := by simp only [wrap64]; omega
  rw [e, Int.tmod_eq_emod_of_nonneg (by omega)]
  exact ⟨((y + n) % n).toNat, by have := Int.emod_lt_of_pos (y + n) (show (0 : Int) < n by omega); have := Int.emod_nonneg (y + n) (show (n : Int) ≠ 0 by omega); omega, by have := Int.emod_nonneg (y + n) (show (n : Int) ≠ 0 by omega); omega⟩
theorem withinF (z : Int) (n : Nat) (w : World) (h0 : 0 < n) (hn : n ≤ 1000000000) :
    Calls Tryd.prog 4 #[.int .i64 z, .int .i64 n] w fun e w' => e = .returned (.int .i64 (withI z n)) ∧ w' = w := by
  go_enter Tryd.func4, Tryd.ntmps4
  go_wp2
  go_ret
  exact ⟨rfl, rfl⟩

end Go.Proofs.YteoadfckcilalaaDoor
namespace Go.Proofs.YteoadfckcilalaaDoor
open Go.RowKit

/-- v is a slice with the fields l in a block of its own, at B or beyond. -/
def OwnF (B : Nat) (w : World) (v : Value) (l : List Fld) : Prop := w.ownsRow B 38 2 v l.length (cellsF l)
theorem OwnF.start (B : Nat) (w : World) : OwnF B w (.slice none 0 0) [] := World.ownsRow_nil _ _ _ _
theorem OwnF.lt {B : Nat} {w : World} {v : Value} {l : List Fld} (h : OwnF B w v l) {k : Nat} (hk : v.ownBlock = some k) : B ≤ k ∧ k < w.heap.size := World.ownsRow.lt h k hk
theorem OwnF.same {B : Nat} {w w' : World} {v : Value} {l : List Fld} (h : OwnF B w v l) (hs : ∀ k, v.ownBlock = some k → w'.heap[k]? = w.heap[k]?) : OwnF B w' v l := by
  obtain ⟨h1, h2⟩ := h
  refine ⟨h1, ?_⟩
  rcases h2 with h2 | ⟨g, cap, cur, hv, hg, hc, r⟩
  · exact .inl h2
  · exact .inr ⟨g, cap, cur, hv, hg, by rw [hs g (by rw [hv]; rfl)]; exact hc, r⟩
theorem OwnF.keep {B : Nat} {w w' : World} {v : Value} {l : List Fld} (h : OwnF B w v l) (hb : Below w.heap.size w w') : OwnF B w' v l :=
  h.same fun k hk => hb.block k (h.lt hk).2
theorem OwnF.grown {B : Nat} {w w' : World} {v : Value} {l : List Fld} {row : Option Nat} (h : OwnF B w v l) (hg : w.grownBy w' row) (hne : ∀ k, v.ownBlock = some k → some k ≠ row) : OwnF B w' v l :=
  h.same fun k hk => hg.block k (h.lt hk).2 (hne k hk)
theorem OwnF.shape {B : Nat} {w : World} {v : Value} {l : List Fld} (h : OwnF B w v l) : ∃ a cap, v = .slice a l.length cap ∧ FldsC w a l cap ∧ l.length ≤ cap := by
  obtain ⟨h1, h2⟩ := h
  rcases h2 with ⟨rfl, h2⟩ | ⟨g, cap, cur, rfl, hg, hc, hcap, hm, hsz, ht⟩
  · have : l = [] := List.eq_nil_of_length_eq_zero h2
    subst this
    exact ⟨none, 0, rfl, ⟨FldsIn.nil _ _, fun _ => ⟨rfl, rfl⟩⟩, Nat.le_refl _⟩
  · refine ⟨_, cap, rfl, ⟨FldsIn.of_cells fun j u hj => ?_, fun e => by cases e⟩, hcap⟩
    have e := congrArg (fun x => x[j]?) ht
    have hlt : j < l.length * 2 := by rw [← cellsF_len]; exact (List.getElem?_eq_some_iff.1 hj).1
    rw [hj, List.getElem?_take_of_lt hlt] at e
    rw [Addr.add_lit]
    simp only [World.cell?, hc, Nat.zero_add]
    simpa using e
section
variable {ops : Array Oper} {rest : List Oper} {o : Oper} {act : Act} {Q : Exit → Act → World → Prop}
end

end Go.Proofs.YteoadfckcilalaaDoor
namespace Go.Proofs.YteoadfckcilalaaDoor
open Go.RowKit

/-- The byte of a digit. -/
def dgc (d : Nat) : UInt8 := if d < 10 then UInt8.ofNat (48 + d) else UInt8.ofNat (87 + d)
/-- The digits of n to base b (the step: f is fuel that is never used up). -/
def digsF (b : Nat) : Nat → Nat → List UInt8
  | 0, n => [dgc (n % b)]
  | f + 1, n => if n < b then [dgc n] else digsF b f (n / b) ++ [dgc (n % b)]
def digs (b n : Nat) : List UInt8 := digsF b n n
theorem digsF_fuel (b : Nat) (hb : 2 ≤ b) : ∀ (f n : Nat), n ≤ f → digsF b f n = digsF b n n
  | 0, n, h => by obtain rfl : n = 0 := by omega
                  rfl
  | f + 1, n, h => by
    match n with
    | 0 => simp [digsF, show 0 < b by omega]
    | n + 1 =>
      have hd : (n + 1) / b ≤ n := by
        have : (n + 1) / b < n + 1 := Nat.div_lt_self (by omega) (by omega)
        omega
      simp only [digsF]
      rw [digsF_fuel b hb f _ (by omega), digsF_fuel b hb n _ hd]
theorem digs_small {b n : Nat} (h : n < b) : digs b n = [dgc n] := by
  unfold digs
  match n with
  | 0 => rw [digsF, Nat.zero_mod]
  | n + 1 => rw [digsF, if_pos h]
theorem digs_big {b n : Nat} (hb : 2 ≤ b) (h : ¬ n < b) : digs b n = digs b (n / b) ++ [dgc (n % b)] := by
  unfold digs
  match n with
  | 0 => omega
  | n + 1 =>
    have hd : (n + 1) / b ≤ n := by
      have : (n + 1) / b < n + 1 := Nat.div_lt_self (by omega) (by omega)
      omega
    rw [digsF, if_neg h, digsF_fuel b hb n _ hd]
theorem digs_dec (n : Nat) : digs 10 n = Lib.decDigits n := by
  induction n using Nat.strongRecOn with
  | _ n ih =>
    by_cases h : n < 10
    · rw [digs_small h, Lib.decDigits, dif_pos h]; unfold dgc; rw [if_pos h]
    · rw [digs_big (by omega) h, Lib.decDigits, dif_neg h, ih _ (by omega)]
      congr 1; unfold dgc; rw [if_pos (by omega)]
def numeral (b n : Nat) : ByteArray := ⟨(digs b n).toArray⟩
end Go.Proofs.YteoadfckcilalaaDoor
namespace Go.Proofs.YteoadfckcilalaaDoor
open Go.RowKit

def hexS : ByteArray := ⟨#[48, 49, 50, 51, 52, 53, 54, 55, 56, 57, 97, 98, 99, 100, 101, 102]⟩
theorem hexS_piece_fin : ∀ d : Fin 16, (hexS.extract d.val (d.val + 1)).data.toList = [dgc d.val] := by decide +kernel
theorem hexS_piece {d : Nat} (h : d < 16) : (⟨#[48, 49, 50, 51, 52, 53, 54, 55, 56, 57, 97, 98, 99, 100, 101, 102]⟩ : ByteArray).extract d (d + 1) = ⟨#[dgc d]⟩ := by
  have := hexS_piece_fin ⟨d, h⟩
  apply ByteArray.ext
  apply Array.toList_inj.1
  exact this
theorem one_cat (c : UInt8) (t : List UInt8) : (⟨#[c]⟩ : ByteArray) ++ ⟨t.toArray⟩ = ⟨(c :: t).toArray⟩ := by
  apply ByteArray.ext; simp

set_option maxHeartbeats 1000000 in
theorem refBase10 (n : Nat) (w : World) (hn : (n : Int) ≤ 9223372036854775807) :
    Calls Tryd.prog 20 #[.int .i64 n, .int .i64 10] w fun e w' => e = .returned (.string (numeral 10 n)) ∧ ∃ j, w' = w.drewN j := by
  go_enter Tryd.func20, Tryd.ntmps20
  go_wp2
  go_loopw [5, 0] (fun s m wr => ∃ (k : Nat) (t : List UInt8) (j : Nat), (t.length : Int) + k ≤ n ∧ (t = [] ∨ 0 < k) ∧ m = .int .i64 k ∧ s = .string ⟨t.toArray⟩ ∧ wr = w.drewN j ∧ Hid (digs 10 n = digs 10 k ++ t)) (fun _ m _ => (intOf m).toNat)
  case atStart => exact ⟨n, [], 0, by simp, .inl rfl, rfl, rfl, by simp [World.drewN_zero], Lib.hid (by simp)⟩
  case round =>
    obtain ⟨k, t, j, hk, hne, rfl, rfl, rfl, HD⟩ := hrel
    have HNE := Lib.hid hne
    have hlen : t.length + 1 ≤ 9223372036854775807 := by
      rcases hne with rfl | h
      · simp
      · omega
    clear hne
    obtain ⟨d, hd⟩ : ∃ d : Nat, k % 10 = d := ⟨_, rfl⟩
    have hd9 : d < 10 := by omega
    have HDD := Lib.hid hd
    have hr : ((k : Int).tmod 10) = (d : Int) := by rw [Int.tmod_eq_emod_of_nonneg (by omega)]; omega
    clear hd
    have hw1 : IntKind.i64.wrap (d : Int) = (d : Int) := IntWalk.i64_in _ (by omega)
    have hw2 : IntKind.i64.wrap ((d : Int) + 1) = (d : Int) + 1 := IntWalk.i64_in _ (by omega)
    have hn1 : ((d : Int) + 1).toNat = d + 1 := by omega
    have hi1 : (0 : Int) ≤ d := by omega
    have hi2 : (0 : Int) ≤ d + 1 := by omega
    have hi3 : (d : Int) + 1 ≤ 16 := by omega
    have hi4 : d + 1 ≤ 16 := by omega
    have hi5 : (d : Int) ≤ d + 1 := by omega
    have hp := hexS_piece (d := d) (by omega)
    have hadd : ∀ W, (Op.stringOp .add ⟨#[dgc d]⟩ ⟨t.toArray⟩).run Tryd.prog W = .ok (.string ⟨(dgc d :: t).toArray⟩) W := fun W => by
      have h := run_string_add_sum (P := Tryd.prog) (w := W) ⟨#[dgc d]⟩ ⟨t.toArray⟩ (by show 1 + (t.toArray).size ≤ _; simp; omega)
      rw [one_cat] at h; exact h
    go_wp2_with fail
    go_quiet (fail)
    clear hr hw1 hw2 hn1 hp hadd hi4
    have hq : (k : Int) / 10 = ((k / 10 : Nat) : Int) := by omega
    by_cases hz : k / 10 = 0
    · have hz1 : (k : Int) / 10 = 0 := by omega
      have HZ := Lib.hid hz
      clear hz hq
      go_wp2
      go_ret
      refine ⟨ret_str ?_, _, rfl⟩
      have hs : k < 10 := by have := HZ.out; omega
      unfold numeral
      rw [HD.out, digs_small hs]
      have : k % 10 = k := Nat.mod_eq_of_lt hs
      rw [← HDD.out, this]; rfl
    · have HZ := Lib.hid hz
      have hz2 : ¬ (k : Int) / 10 = 0 := by omega
      clear hz hq
      go_wp2
      go_roundw
      case rel =>
        have hz := HZ.out
        refine ⟨k / 10, dgc d :: t, _, by simp; omega, .inr (by omega), by first | rfl | simp, rfl, rfl, Lib.hid ?_⟩
        rw [HD.out, digs_big (by omega) (show ¬ k < 10 by omega), ← HDD.out]; simp
      case measure => have hz := HZ.out; simp [intOf]; omega

def fmtS (b : Nat) (n : Int) : ByteArray := if n < 0 then ⟨#[]⟩ else numeral b n.toNat
theorem below_drewN0 (w : World) (j : Nat) : Below w.heap.size w (w.drewN j) := ⟨rfl, rfl, rfl, Nat.le_refl _, fun _ _ => rfl⟩
theorem refBase_neg (n b : Int) (w : World) (hn : n < 0) :
    Calls Tryd.prog 20 #[.int .i64 n, .int .i64 b] w fun e w' => e = .returned (.string ⟨#[]⟩) ∧ w = w' := by
  go_enter Tryd.func20, Tryd.ntmps20
  go_wp2
  go_ret
  exact ⟨rfl, rfl⟩

theorem refDecimal_any (n : Int) (w : World) (h0 : -9223372036854775808 ≤ n) (h1 : n ≤ 9223372036854775807) :
    Calls Tryd.prog 16 #[.int .i64 n] w fun e w' => e = .returned (.string (fmtS 10 n)) ∧ Below w.heap.size w w' := by
  by_cases hn : n < 0
  · go_enter Tryd.func16, Tryd.ntmps16
    go_wp2_with (go_at_call 20; refine (refBase_neg _ _ _ hn).mono ?_; rintro e w' ⟨rfl, rfl⟩)
    go_ret
    exact ⟨ret_str (by unfold fmtS; rw [if_pos hn]), Below.refl _ _⟩
  · obtain ⟨k, rfl⟩ : ∃ k : Nat, n = k := ⟨n.toNat, by omega⟩
    go_enter Tryd.func16, Tryd.ntmps16
    go_wp2_with (go_at_call 20; refine (refBase10 _ _ (by omega)).mono ?_; rintro e w' ⟨rfl, j, rfl⟩)
    go_ret
    exact ⟨ret_str (by unfold fmtS; rw [if_neg (by omega)]; rfl), below_drewN0 _ _⟩
end Go.Proofs.YteoadfckcilalaaDoor
namespace Go.Proofs.YteoadfckcilalaaDoor
open Go.RowKit

def v10 : ByteArray := ⟨#[72, 84, 84, 80, 47, 49, 46, 48]⟩
def v11 : ByteArray := ⟨#[72, 84, 84, 80, 47, 49, 46, 49]⟩
end Go.Proofs.YteoadfckcilalaaDoor
namespace Go.Proofs.YteoadfckcilalaaDoor
open Go.RowKit

/-- Bytes that a rune of more than one byte, or a byte that is none, takes: all are at 128 or beyond. -/
theorem decode_skip (s : ByteArray) (pos : Nat) (h : pos < s.size) (ha : 128 ≤ (s[pos]'h).toNat) : pos + (Utf8.decode s pos).2 ≤ s.size ∧ ∀ k, k < (Utf8.decode s pos).2 → ∀ hk : pos + k < s.size, 128 ≤ (s[pos + k]'hk).toNat := by
  have hn : ¬ (s[pos]'h).toNat < 128 := by omega
  have hcont : ∀ k, (decide (pos + k < s.size) && ((s.get! (pos + k)).toNat / 64 == 2)) = true → ∃ hk : pos + k < s.size, 128 ≤ (s[pos + k]'hk).toNat := fun k hk => by
    simp only [Bool.and_eq_true, decide_eq_true_eq, beq_iff_eq] at hk
    obtain ⟨h1, h2⟩ := hk
    refine ⟨h1, ?_⟩
    have e : s.get! (pos + k) = s[pos + k]'h1 := by
      have := get_at s (pos + k) h1
      simpa using this
    rw [e] at h2; omega
  have one : pos + 1 ≤ s.size ∧ ∀ k, k < 1 → ∀ hk : pos + k < s.size, 128 ≤ (s[pos + k]'hk).toNat := ⟨by omega, fun k hk hk2 => by
    obtain rfl : k = 0 := by omega
    exact ha⟩
  simp only [Utf8.decode, get_at s pos h, hn, if_false]
  split
  · rename_i h1
    have h1' := (Bool.and_eq_true _ _ ▸ h1 : _ ∧ _).2
    obtain ⟨k1, g1⟩ := hcont 1 h1'
    split
    · refine ⟨by show pos + 2 ≤ _; omega, fun k hk hk2 => ?_⟩
      have hk' : k < 2 := hk
      match k, hk' with
      | 0, _ => exact ha
      | 1, _ => exact g1
    · exact one
  · split
    · rename_i h1
      simp only [Bool.and_eq_true] at h1
      obtain ⟨k1, g1⟩ := hcont 1 (by simpa using h1.1.2)
      obtain ⟨k2, g2⟩ := hcont 2 (by simpa using h1.2)
      split
      · refine ⟨by show pos + 3 ≤ _; omega, fun k hk hk2 => ?_⟩
        have hk' : k < 3 := hk
        match k, hk' with
        | 0, _ => exact ha
        | 1, _ => exact g1
        | 2, _ => exact g2
      · exact one
    · split
      · rename_i h1
        simp only [Bool.and_eq_true] at h1
        obtain ⟨k1, g1⟩ := hcont 1 (by simpa using h1.1.1.2)
        obtain ⟨k2, g2⟩ := hcont 2 (by simpa using h1.1.2)
        obtain ⟨k3, g3⟩ := hcont 3 (by simpa using h1.2)
        split
        · refine ⟨by show pos + 4 ≤ _; omega, fun k hk hk2 => ?_⟩
          have hk' : k < 4 := hk
          match k, hk' with
          | 0, _ => exact ha
          | 1, _ => exact g1
          | 2, _ => exact g2
          | 3, _ => exact g3
        · exact one
      · exact one

end Go.Proofs.YteoadfckcilalaaDoor
namespace Go.Proofs.YteoadfckcilalaaDoor
open Go.RowKit

def versionS (z : Int) : ByteArray := if z = 0 then v10 else if z = 1 then v11 else ⟨#[]⟩
theorem fmtVersion_any (z : Int) (w : World) :
    Calls Tryd.prog 29 #[.int .i64 z] w fun e w' => e = .returned (.string (versionS z)) ∧ w = w' := by
  have hcase : z = 0 ∨ z = 1 ∨ (¬ z = 0 ∧ ¬ z = 1) := by omega
  rcases hcase with rfl | rfl | ⟨h0, h1⟩
  · go_enter Tryd.func29, Tryd.ntmps29
    go_wp2
    go_ret
    exact ⟨rfl, rfl⟩
  · go_enter Tryd.func29, Tryd.ntmps29
    go_wp2
    go_ret
    exact ⟨rfl, rfl⟩
  · have HR := Box.mk (show versionS z = ⟨#[]⟩ by unfold versionS; rw [if_neg h0, if_neg h1])
    have e0 : (z == 0) = false := by rw [beq_eq_false_iff_ne]; exact h0
    have e1 : (z == 1) = false := by rw [beq_eq_false_iff_ne]; exact h1
    clear h0 h1
    go_enter Tryd.func29, Tryd.ntmps29
    go_wp2
    go_ret
    exact ⟨ret_str HR.out.symm, rfl⟩

def statB (n : Int) : Bool := decide (100 ≤ n) && decide (n ≤ 599)
theorem isStatus_any (n : Int) (w : World) :
    Calls Tryd.prog 30 #[.int .i64 n] w fun e w' => e = .returned (.bool (statB n)) ∧ w = w' := by
  go_enter Tryd.func30, Tryd.ntmps30
  go_wp2
  all_goals go_ret
  all_goals exact ⟨ret_bool (by unfold statB; rw [Bool.eq_iff_iff]; simp; omega), rfl⟩
end Go.Proofs.YteoadfckcilalaaDoor
namespace Go.Proofs.YteoadfckcilalaaDoor
open Go.RowKit

theorem take_more (P : UInt8 → Bool) (s : ByteArray) (pos : Nat) (h : (s.data.toList.take pos).all P = true) : ∀ n, pos + n ≤ s.size → (∀ k, k < n → ∀ hk : pos + k < s.size, P (s[pos + k]'hk) = true) → (s.data.toList.take (pos + n)).all P = true
  | 0, _, _ => h
  | n + 1, hle, hk => by
    have ih := take_more P s pos h n (by omega) (fun k hk1 hk2 => hk k (by omega) hk2)
    rw [← Nat.add_assoc, take_snoc s (pos + n) (by omega), List.all_append, ih]
    simpa using hk n (by omega) (by omega)
theorem valB_high {c : UInt8} (h : 128 ≤ c.toNat) : valB c = true := by
  unfold valB; simp; right; omega

set_option maxRecDepth 100000 in
set_option maxHeartbeats 2000000 in
theorem isReason_any (s : ByteArray) (w : World) :
    Calls Tryd.prog 31 #[.string s] w fun e w' => e = .returned (.bool (visS s)) ∧ Below w.heap.size w w' := by
  go_enter Tryd.func31, Tryd.ntmps31
  go_wp2_with fail
  go_loopw [] (fun w' => ∃ pos : Nat, w' = w.iter s pos ∧ pos ≤ s.size ∧ Box ((s.data.toList.take pos).all valB = true)) (fun w' => s.size - w'.iterPos w.heap.size)
  case atStart => exact ⟨0, rfl, Nat.zero_le _, ⟨by simp⟩⟩
  case round =>
    obtain ⟨pos, rfl, hk, HP⟩ := hrel
    by_cases hp : pos < s.size
    · by_cases ha : s[pos].toNat < 128
      · have hnx : ∀ ty, (Instr.next (.pointer (some ⟨w.heap.size, 0, none⟩)) true ty).run Tryd.prog (w.iter s pos) = _ := fun ty => run_next_ascii w s pos ty hp ha
        have hcase : Box (valB s[pos] = true) ∧ ((s[pos].toNat : Int) != 9) = false ∧ ((s[pos].toNat : Int) == 127) = false ∨ Box (valB s[pos] = true) ∧ ((s[pos].toNat : Int) != 9) = true ∧ 32 ≤ (s[pos].toNat : Int) ∧ ((s[pos].toNat : Int) == 127) = false
            ∨ Box (valB s[pos] = false) ∧ ((s[pos].toNat : Int) != 9) = true ∧ (s[pos].toNat : Int) < 32 ∨ Box (valB s[pos] = false) ∧ ((s[pos].toNat : Int) != 9) = true ∧ 32 ≤ (s[pos].toNat : Int) ∧ ((s[pos].toNat : Int) == 127) = true := by
          by_cases h9 : (s[pos].toNat : Int) = 9
          · exact .inl ⟨⟨by simp [valB, h9]⟩, by simp [h9], by simp [h9]⟩
          · have e9 : ((s[pos].toNat : Int) != 9) = true := by rw [bne_iff_ne]; exact h9
            by_cases h32 : 32 ≤ (s[pos].toNat : Int)
            · by_cases h127 : (s[pos].toNat : Int) = 127
              · exact .inr (.inr (.inr ⟨⟨by simp [valB, h127]⟩, e9, h32, by simp [h127]⟩))
              · exact .inr (.inl ⟨⟨by simp [valB, h127, h32]⟩, e9, h32, by rw [beq_eq_false_iff_ne]; exact h127⟩)
            · exact .inr (.inr (.inl ⟨⟨by simp [valB, h9, h32]⟩, e9, by omega⟩))
        rcases hcase with ⟨HC, h1, h2⟩ | ⟨HC, h1, h2, h3⟩ | ⟨HC, h1, h2⟩ | ⟨HC, h1, h2, h3⟩
        · go_wp2_with fail
          go_roundw
          case rel => exact ⟨pos + 1, rfl, by omega, ⟨by rw [take_snoc s pos hp, List.all_append, HP.out]; simpa using HC.out⟩⟩
          case measure => simp; omega
        · go_wp2_with fail
          go_roundw
          case rel => exact ⟨pos + 1, rfl, by omega, ⟨by rw [take_snoc s pos hp, List.all_append, HP.out]; simpa using HC.out⟩⟩
          case measure => simp; omega
        all_goals
          go_wp2_with fail
          go_ret
          exact ⟨ret_bool (visS_no hp HC.out).symm, below_oneF w _⟩
      · obtain ⟨hd, hwd⟩ := decode_high s pos hp (by omega)
        obtain ⟨hsk, hby⟩ := decode_skip s pos hp (by omega)
        have hnx : ∀ ty, (Instr.next (.pointer (some ⟨w.heap.size, 0, none⟩)) true ty).run Tryd.prog (w.iter s pos) = _ := fun ty => run_next_any w s pos ty hp
        have HN := Box.mk (take_more valB s pos HP.out _ hsk (fun k h1 h2 => valB_high (hby k h1 h2)))
        clear hby
        generalize (Utf8.decode s pos).1 = r at *
        generalize (Utf8.decode s pos).2 = wd at *
        clear ha
        have h1 : ((r : Int) != 9) = true := by rw [bne_iff_ne]; omega
        have h2 : 32 ≤ (r : Int) := by omega
        have h3 : ((r : Int) == 127) = false := by rw [beq_eq_false_iff_ne]; omega
        go_wp2_with fail
        go_roundw
        case rel => exact ⟨pos + wd, rfl, hsk, HN⟩
        case measure => simp; omega
    · have hnx : ∀ ty, (Instr.next (.pointer (some ⟨w.heap.size, 0, none⟩)) true ty).run Tryd.prog (w.iter s pos) = _ := fun ty => run_next_end w s pos ty hp
      have HE := Box.mk (visS_yes hk hp HP.out)
      go_wp2_with fail
      go_ret
      exact ⟨ret_bool HE.out.symm, below_oneF w _⟩
end Go.Proofs.YteoadfckcilalaaDoor
namespace Go.Proofs.YteoadfckcilalaaDoor
open Go.RowKit

section
variable {Q : Exit → Act → World → Prop} {a : Act} {w : World} {o : Oper} {s : Spec}
theorem loc_addS {x y : Operand} {t : TypeId} (ho : o.op = .binOp .add 9 x y t) {b c : ByteArray} (hx : a.eval x = .string b) (hy : a.eval y = .string c) (hn : b.size + c.size ≤ 4000000000) (hs : s.p (.string (b ++ c)) w) :
    o.wp Tryd.prog a w (fun a' w' => ∃ v, a' = a.put o.dst v ∧ Below w.heap.size w w' ∧ s.p v w') Q :=
  loc_run (v := .string (b ++ c)) (by
    have h := run_string_add_sum (P := Tryd.prog) (w := w) b c (by omega)
    unfold execOp
    simp [ho, hx, hy, eqGuard, binOp, h, Result.andThen]) (Below.refl _ _) hs
theorem loc_cell {x : Operand} {t : TypeId} (ho : o.op = .load t x) {p : Addr} (hx : a.eval x = .pointer (some p)) {v : Value} (hc : w.cell? p = some v) (ht : (isAgg t).run Tryd.prog w = .ok false w) (hs : s.p v w) :
    o.wp Tryd.prog a w (fun a' w' => ∃ v, a' = a.put o.dst v ∧ Below w.heap.size w w' ∧ s.p v w') Q :=
  loc_load ho (v := v) (by
    rw [hx]
    simp [Instr.loadAt, Instr.sureAddr, loadVar, hc, ht]) hs
theorem agg_string (w : World) : (isAgg 9).run Tryd.prog w = .ok false w := by
  unfold isAgg; rw [Sem.run_bind, run_underlying Tryd.underlying9 w]; rfl
theorem agg_int (w : World) : (isAgg 3).run Tryd.prog w = .ok false w := by
  unfold isAgg; rw [Sem.run_bind, run_underlying Tryd.underlying3 w]; rfl
end

def http1 : ByteArray := ⟨#[32, 72, 84, 84, 80, 47, 49, 46]⟩
end Go.Proofs.YteoadfckcilalaaDoor
namespace Go.Proofs.YteoadfckcilalaaDoor
open Go.RowKit

section
variable {Q : Exit → Act → World → Prop} {a : Act} {w : World} {o : Oper} {s : Spec}
theorem run_fieldA (W : World) (g i : Nat) (h : i < 5) : (Instr.fieldAt 28 (.pointer (some ⟨g, 0, none⟩)) i).run Tryd.prog W = .ok (.pointer (some ⟨g, i, none⟩)) W := by
  match i, h with
  | 0, _ => simp [Instr.fieldAt, run_underlying Tryd.underlying28, Instr.sureAddr, fieldPlace, Addr.add]
  | 1, _ => simp [Instr.fieldAt, run_underlying Tryd.underlying28, Instr.sureAddr, fieldPlace, Addr.add]
  | 2, _ => simp [Instr.fieldAt, run_underlying Tryd.underlying28, Instr.sureAddr, fieldPlace, Addr.add]
  | 3, _ => simp [Instr.fieldAt, run_underlying Tryd.underlying28, Instr.sureAddr, fieldPlace, Addr.add]
  | 4, _ => simp [Instr.fieldAt, run_underlying Tryd.underlying28, Instr.sureAddr, fieldPlace, Addr.add]
theorem loc_fieldA {x : Operand} {i : Nat} (ho : o.op = .fieldAddr 28 x i) {g : Nat} (hx : a.eval x = .pointer (some ⟨g, 0, none⟩)) (hi : i < 5) (hs : s.p (.pointer (some ⟨g, i, none⟩)) w) :
    o.wp Tryd.prog a w (fun a' w' => ∃ v, a' = a.put o.dst v ∧ Below w.heap.size w w' ∧ s.p v w') Q :=
  loc_run (v := .pointer (some ⟨g, i, none⟩)) (by unfold execOp; rw [ho]; simp only [hx, Sem.run_bind, run_fieldA _ _ _ hi, Result.andThen_ok, Sem.run_pure]) (Below.refl _ _) hs
end

def http0 : ByteArray := ⟨#[72, 84, 84, 80, 47, 49, 46]⟩
def fmtRep (st : Int) (r : ByteArray) (z : Int) : ByteArray :=
  if 100 ≤ st ∧ st ≤ 599 ∧ 0 ≤ z ∧ z ≤ 1 ∧ visS r = true then http0 ++ fmtS 10 z ++ ⟨#[32]⟩ ++ fmtS 10 st ++ ⟨#[32]⟩ ++ r else ⟨#[]⟩
theorem fmtS_code {z : Int} (h0 : 0 ≤ z) (h1 : z ≤ 599) : (fmtS 10 z).size ≤ 1000 := by
  obtain ⟨k, rfl⟩ : ∃ k : Nat, z = k := ⟨z.toNat, by omega⟩
  have hk : k < 600 := by omega
  have h : ∀ m : Fin 600, (fmtS 10 (m.val : Int)).size ≤ 1000 := by decide +kernel
  exact h ⟨k, hk⟩

end Go.Proofs.YteoadfckcilalaaDoor
namespace Go.Proofs.YteoadfckcilalaaDoor
open Go.RowKit

theorem sizeA : (Tryd.prog.info? 28).map (·.size) = some 5 := by kernel_rfl
end Go.Proofs.YteoadfckcilalaaDoor
namespace Go.Proofs.YteoadfckcilalaaDoor
open Go.RowKit

theorem fldsIn_one (w : World) (n v : ByteArray) : FldsIn (w.alloc (.cells #[.string n, .string v] 38)) (some ⟨w.heap.size, 0, none⟩) [(n, v)] := fun j hj => by
  obtain rfl : j = 0 := by simpa using hj
  exact ⟨_, rfl, by rw [Addr.add_lit, new_cellF]; rfl, by rw [Addr.add_lit, new_cellF]; rfl⟩

end Go.Proofs.YteoadfckcilalaaDoor
namespace Go.Proofs.YteoadfckcilalaaDoor
open Go.RowKit

theorem same_true (x : List Fld) (a b : Option Addr) (ca cb : Nat) (w : World) (hx : FldsIn w a x) (hy : FldsIn w b x) (h : x.length ≤ 2000000) :
    Calls Tryd.prog 13 #[.slice a x.length ca, .slice b x.length cb] w fun e w' => e = .returned (.bool true) ∧ Below w.heap.size w w' := by
  refine (sameFields_any x x a b ca cb w hx hy h h).mono ?_
  rintro e w' ⟨rfl, hb⟩
  exact ⟨by rw [sameF_self], hb⟩

end Go.Proofs.YteoadfckcilalaaDoor
