/- Contracts of the small functions of package ascii and of its reference: one byte, and loops over the bytes of a string. Contracts of Lower and Fold, of package ascii and of its reference. Plain facts on lists of bytes: trimming from both ends. Slices of strings in memory: one that is read, one that the call appends to, one that is kept beside it. The numbers that the shelf's contracts of Go's library (package strings, package strconv) have in this seat's translation: nothing is claimed here by itself. Plain facts on lists of bytes: cutting at a byte, and the elements of comma-separated lists. Opening arguments: a byte, a slice of bytes. Opening an argument that is a slice of strings. Slices of bytes in memory: one that the call appends to; slices of numbers that are read. A region that draws its order, by what each operation leaves: one fact an operation, whatever the order. FNV-1a in plain words, and the contracts of mix and Write, of package hash and of its reference. The contracts of Sum, of package hash and of its reference. Appending a slice of bytes that came in to a slice of the call's own; the law HashWrite at open arguments; what the bound on the arguments gives. More of a region's single operations: comparisons, lengths, slices of slices that are built. A region that draws its order and stores once, by what each operation leaves. SHA-256 in plain words, over words of 32 bits; how the arithmetic of the translated code is spelt at them. Fields: Valid of package field and of its reference; a field's line. Values, Without and Has of package field. Has of package field (a closure), Elements, SameFields. Format, by the library's Builder and in the reference. The source of numbers of the laws: Within, Next, Of. The plain mathematics of numerals: digits, their value with a limit, and that a numeral is read as its number. Contracts of the reference's functions that write a number. Cookies: what Pairs and Find answer (mathematics). The law FieldWithout. Contracts of strconv.FormatInt at base 16, and of the functions of package number that write a number. The contracts of awake and of the laws of layer 2. The IDs and the field Set-Cookie, of package cookie and of the reference. A cookie is found among others (mathematics); NewID of the reference for all numbers. The reference's NewID, exactly. Package bucket's functions and those of its reference. The laws of package bucket. Opening a slice of numbers; the tables out of the listed variables. -/
import Derived.Test.YtkdiifkkhdkpeaaDoorRows
import Derived.WalkKit
import Derived.WalkSpells
import Derived.WalkLawsBesides
import Derived.BigQuiet
import Derived.Deep.QuietTactic
import Derived.Lib.Bytealg
import Derived.Lib.IndexLaws
import Derived.Lib.Hide
import Derived.Laws.IdiomStrings
import Derived.Lib.SlTrimSet
import Derived.Lib.IndexBytes
import Derived.Lib.Split
import Derived.Deep.AppendLies
import Derived.Shelf.Strings.SlTrimAscii
import Derived.Shelf.Strings.SplitShaped
import Derived.Shelf.LaysM
import Derived.Shelf.Strings.BuilderK
import Derived.Shelf.Strconv.Itoa4
import Derived.Shelf.Strings.Builder2
import Derived.Shelf.Strings.Repeat
import Derived.Test.YtkdiifkkhdkpeaaDoorProg
import Derived.Lib.SplitLaws
import Derived.ProofKit
import Derived.OpenShut
import Derived.Lib.Strings
import Derived.SliceStrings
import Derived.Deep.Quiet
import Derived.Tactics
import Derived.KernelRfl
import Derived.Below
import Derived.Laws.Bits64
import Derived.Lib.SlBytesConst
import Derived.Maps.AppendAt
import Derived.Laws.AppendOwnNone
import Derived.Great.BuildSlice
import Derived.Laws.Rows
import Derived.Laws.BitsAllLaws
import Derived.Laws.Shifts
import Derived.WalkSmall
import Derived.Maps.OwnOps
import Derived.Maps.OwnSet
import Derived.Deep.SlicePairs
import Derived.Lib.AppendZerosOnto
import Derived.Lib.AppendStr
import Derived.Laws.CopyOwn
import Derived.OwnWalk
import Derived.Laws.Strings3
import Derived.Laws.Concat
import Derived.Lib.ItoaMem
import Derived.IntWalk
import Derived.Laws.RangeAny
import Derived.Sort.Grow
import Derived.Lib.LaidTab
import Derived.LaidSub
import Derived.Laws.Bits64b
namespace Go.Proofs.YtkdiifkkhdkpeaaDoor
open Go.RowKit

theorem ret_bool {a b : Bool} (h : a = b) : Ending.returned (.bool a) = .returned (.bool b) := by rw [h]
theorem ret_int {k : IntKind} {a b : Int} (h : a = b) : Ending.returned (.int k a) = .returned (.int k b) := by rw [h]
theorem ret_str {a b : ByteArray} (h : a = b) : Ending.returned (.string a) = .returned (.string b) := by rw [h]

def hasS (s : ByteArray) (c : UInt8) : Bool := s.data.toList.contains c
theorem take_snoc (s : ByteArray) (k : Nat) (h : k < s.size) : s.data.toList.take (k + 1) = s.data.toList.take k ++ [s[k]] := by
  rw [List.take_succ_eq_append_getElem (by simpa using h)]; rfl
theorem take_all (s : ByteArray) (k : Nat) (h : k ≤ s.size) (h2 : ¬ k < s.size) : s.data.toList.take k = s.data.toList := by
  rw [List.take_of_length_le]; simp; omega
theorem mem_at (s : ByteArray) (k : Nat) (h : k < s.size) : s[k] ∈ s.data.toList := by
  show s.data[k] ∈ s.data.toList
  simp

set_option maxRecDepth 100000 in
set_option maxHeartbeats 400000 in
theorem indexByteLite_any (s : ByteArray) (c : UInt8) (w : World) :
    Calls Tryd.prog 38 #[.string s, .int .u8 c.toNat] w fun e w' => e = .returned (.int .i64 (Lib.indexByte s.data.toList c)) ∧ w = w' := by
  go_enter Tryd.func38, Tryd.ntmps38
  go_wp2
  rw [run_callFunc_extern Tryd.func49 (by kernel_rfl) (by kernel_rfl) (by kernel_rfl) (e := Extern.BytealgIndexByte.indexByte) (by kernel_rfl), Lib.run_indexByteString]
  simp only [Result.andThen]
  rw [Oper.upon_value]
  go_wp2
  go_ret
  exact ⟨ret_int (by simp), rfl⟩

set_option maxHeartbeats 400000 in
theorem indexByte_any (s : ByteArray) (c : UInt8) (w : World) :
    Calls Tryd.prog 24 #[.string s, .int .u8 c.toNat] w fun e w' => e = .returned (.int .i64 (Lib.indexByte s.data.toList c)) ∧ w = w' := by
  go_enter Tryd.func24, Tryd.ntmps24
  go_wp2_with (go_at_call 38; refine (indexByteLite_any _ _ _).mono ?_; rintro e w' ⟨rfl, rfl⟩)
  go_ret
  exact ⟨rfl, rfl⟩

theorem indexByte_has (s : ByteArray) (c : UInt8) : decide (0 ≤ Lib.indexByte s.data.toList c) = hasS s c := by
  have hge := Lib.indexByte_ge s.data.toList c
  unfold hasS
  by_cases h : Lib.indexByte s.data.toList c = -1
  · have := Lib.indexByte_none h
    rw [h, Bool.eq_iff_iff]
    simp only [Int.reduceNeg, decide_eq_true_eq, List.contains_iff_mem]
    constructor
    · intro h; omega
    · intro hm; obtain ⟨k, hk⟩ := List.mem_iff_getElem?.1 hm; exact absurd hk (this k)
  · obtain ⟨o, ho⟩ : ∃ o : Nat, Lib.indexByte s.data.toList c = o := ⟨(Lib.indexByte s.data.toList c).toNat, by omega⟩
    have := (Lib.indexByte_some ho).1
    rw [ho, Bool.eq_iff_iff]
    simp only [decide_eq_true_eq, List.contains_iff_mem]
    exact ⟨fun _ => List.mem_of_getElem? this, fun _ => by omega⟩

end Go.Proofs.YtkdiifkkhdkpeaaDoor
namespace Go.Proofs.YtkdiifkkhdkpeaaDoor
open Go.RowKit

/-- From block B on, a row of bytes l that may be written. -/
def BytesAt (w : World) (B : Nat) (l : List UInt8) : Prop :=
  ∀ j (hj : j < l.length), w.cell? ⟨B, j, none⟩ = some (.int .u8 (l[j].toNat : Int)) ∧ w.frozen? ⟨B, j, none⟩ = false

theorem BytesAt.set {w : World} {B : Nat} {l : List UInt8} (h : BytesAt w B l) {k : Nat} (hk : k < l.length) (c : UInt8) :
    BytesAt (w.setCell ⟨B, k, none⟩ (.int .u8 (c.toNat : Int))) B (l.set k c) := by
  intro j hj
  have hj' : j < l.length := by simpa using hj
  obtain ⟨h1, h2⟩ := h j hj'
  obtain ⟨k1, _⟩ := h k hk
  constructor
  · by_cases e : k = j
    · subst e
      rw [World.cell?_setCell_same _ _ _ k1]; simp
    · rw [World.cell?_setCell_other _ _ _ _ (by intro hh; apply e; cases hh; rfl)]
      rw [h1, List.getElem_set_ne e]
  · rw [← h2]; exact World.frozen?_setCell ..

theorem bytesAt_new (w : World) (s : ByteArray) (cap : Nat) :
    BytesAt (w.alloc (.cells (bytesRow s cap) 5 ((bytesRow s cap).size, (bytesRow s cap).size + 1))).drew w.heap.size s.data.toList := by
  intro j hj
  have hj' : j < s.data.size := by simpa using hj
  constructor
  · show (w.alloc _).cell? _ = _
    rw [World.cell?_alloc_mark, bytesRow_at s _ j hj']; simp
  · show (w.alloc _).frozen? _ = _
    rw [World.frozen?_alloc_mark]
    have : j < (bytesRow s cap).size := by
      have h := bytesRow_at s cap j hj'
      exact (Array.getElem?_eq_some_iff.1 h).1
    simp; omega

end Go.Proofs.YtkdiifkkhdkpeaaDoor
namespace Go.Proofs.YtkdiifkkhdkpeaaDoor
open Go

theorem ba_ext {a b : ByteArray} (h : a.data.toList = b.data.toList) : a = b := by
  cases a; cases b; simp at h; simp [h]
end Go.Proofs.YtkdiifkkhdkpeaaDoor
namespace Go.Proofs.YtkdiifkkhdkpeaaDoor
open Go.RowKit

theorem lt_cell {w : World} {a : Addr} {v : Value} (h : w.cell? a = some v) : a.block < w.heap.size := by
  rcases Nat.lt_or_ge a.block w.heap.size with h' | h'
  · exact h'
  · simp [World.cell?, Array.getElem?_eq_none h'] at h
theorem below_trans {w w1 w2 : World} (h : Below w.heap.size w w1) (k : Below w1.heap.size w1 w2) : Below w.heap.size w w2 := h.trans (k.mono h.size)
theorem below_cell {w w' : World} (h : Below w.heap.size w w') {a : Addr} {v : Value} (hc : w.cell? a = some v) : w'.cell? a = some v := by
  rw [h.cell (lt_cell hc)]; exact hc

/-- The slice at a holds the strings l. -/
def StrsAt (w : World) (a : Option Addr) (l : List ByteArray) : Prop :=
  ∀ j (hj : j < l.length), ∃ b off, a = some ⟨b, off, none⟩ ∧ w.cell? ⟨b, off + j, none⟩ = some (.string l[j])
theorem StrsAt.keep {w w' : World} {a : Option Addr} {l : List ByteArray} (h : StrsAt w a l) (hb : Below w.heap.size w w') : StrsAt w' a l := fun j hj => by
  obtain ⟨b, off, e, hc⟩ := h j hj
  exact ⟨b, off, e, below_cell hb hc⟩
section
variable {ops : Array Oper} {rest : List Oper} {o : Oper} {act : Act} {Q : Exit → Act → World → Prop}
end
end Go.Proofs.YtkdiifkkhdkpeaaDoor
namespace Go.Proofs
open Go.Shelf
def Tryd.laysM173_ren : Go.Shelf.Ren := ⟨fun | 173 => 55 | 246 => 60 | 283 => 39 | 284 => 40 | 285 => 41 | 286 => 42 | 129 => 51 | 317 => 50 | 318 => 52 | 319 => 53 | 320 => 54 | 337 => 58 | 338 => 59 | n => n, fun | 2 => 2 | 3 => 3 | 9 => 9 | 4 => 4 | 171 => 60 | 0 => 0 | 53 => 33 | 37 => 43 | 5 => 5 | 173 => 63 | 212 => 72 | 51 => 65 | 20 => 20 | 213 => 73 | 46 => 44 | 232 => 81 | 233 => 82 | n => n, fun | 17 => 0 | 18 => 2 | 19 => 3 | n => n⟩
theorem Tryd.laysM173 : Go.Proofs.LaysM.n173 Tryd.prog Tryd.laysM173_ren := {
  mixed := by kernel_rfl
  f129 := Tryd.func51.trans (congrArg some (by kernel_rfl))
  f173 := Tryd.func55.trans (congrArg some (by kernel_rfl))
  f246 := Tryd.func60.trans (congrArg some (by kernel_rfl))
  f283 := Tryd.func39.trans (congrArg some (by kernel_rfl))
  f284 := Tryd.func40.trans (congrArg some (by kernel_rfl))
  f285 := Tryd.func41.trans (congrArg some (by kernel_rfl))
  f286 := Tryd.func42.trans (congrArg some (by kernel_rfl))
  f317 := Tryd.func50.trans (congrArg some (by kernel_rfl))
  f318 := Tryd.func52.trans (congrArg some (by kernel_rfl))
  f319 := Tryd.func53.trans (congrArg some (by kernel_rfl))
  f320 := Tryd.func54.trans (congrArg some (by kernel_rfl))
  f337 := Tryd.func58.trans (congrArg some (by kernel_rfl))
  f338 := Tryd.func59.trans (congrArg some (by kernel_rfl))
  t0 := Tryd.underlying0
  a0 := Tryd.isAgg0
  z0 := Tryd.sizeOf0
  v0 := Tryd.zeroValue0
  t2 := Tryd.underlying2
  a2 := Tryd.isAgg2
  z2 := Tryd.sizeOf2
  v2 := Tryd.zeroValue2
  t3 := Tryd.underlying3
  a3 := Tryd.isAgg3
  z3 := Tryd.sizeOf3
  v3 := Tryd.zeroValue3
  t4 := Tryd.underlying4
  a4 := Tryd.isAgg4
  z4 := Tryd.sizeOf4
  v4 := Tryd.zeroValue4
  t5 := Tryd.underlying5
  a5 := Tryd.isAgg5
  z5 := Tryd.sizeOf5
  v5 := Tryd.zeroValue5
  t9 := Tryd.underlying9
  a9 := Tryd.isAgg9
  z9 := Tryd.sizeOf9
  v9 := Tryd.zeroValue9
  t20 := Tryd.underlying20
  a20 := Tryd.isAgg20
  z20 := Tryd.sizeOf20
  v20 := Tryd.zeroValue20
  t37 := Tryd.underlying43
  a37 := Tryd.isAgg43
  z37 := Tryd.sizeOf43
  v37 := Tryd.zeroValue43
  t46 := Tryd.underlying44
  a46 := Tryd.isAgg44
  z46 := Tryd.sizeOf44
  v46 := Tryd.zeroValue44
  t51 := Tryd.underlying65
  a51 := Tryd.isAgg65
  z51 := Tryd.sizeOf65
  v51 := Tryd.zeroValue65
  t53 := Tryd.underlying33
  a53 := Tryd.isAgg33
  z53 := Tryd.sizeOf33
  v53 := Tryd.zeroValue33
  t171 := Tryd.underlying60
  a171 := Tryd.isAgg60
  z171 := Tryd.sizeOf60
  v171 := Tryd.zeroValue60
  t173 := Tryd.underlying63
  a173 := Tryd.isAgg63
  z173 := Tryd.sizeOf63
  v173 := Tryd.zeroValue63
  t212 := Tryd.underlying72
  a212 := Tryd.isAgg72
  z212 := Tryd.sizeOf72
  v212 := Tryd.zeroValue72
  t213 := Tryd.underlying73
  a213 := Tryd.isAgg73
  z213 := Tryd.sizeOf73
  t232 := Tryd.underlying81
  a232 := Tryd.isAgg81
  z232 := Tryd.sizeOf81
  v232 := Tryd.zeroValue81
  t233 := Tryd.underlying82
  a233 := Tryd.isAgg82
  z233 := Tryd.sizeOf82
  v233 := Tryd.zeroValue82
  g17 := by kernel_rfl
  g18 := by kernel_rfl
  g19 := by kernel_rfl
  i0 := by kernel_rfl
  i2 := by kernel_rfl
  i3 := by kernel_rfl
  i4 := by kernel_rfl
  i5 := by kernel_rfl
  i9 := by kernel_rfl
  i20 := by kernel_rfl
  i37 := by kernel_rfl
  i46 := by kernel_rfl
  i51 := by kernel_rfl
  i53 := by kernel_rfl
  i171 := by kernel_rfl
  i173 := by kernel_rfl
  i212 := by kernel_rfl
  i232 := by kernel_rfl
  i233 := by kernel_rfl
  m17 := by kernel_rfl
  m18 := by kernel_rfl
  m19 := by kernel_rfl }
def Tryd.lays105_ren : Go.Shelf.Ren := ⟨fun | 105 => 20 | 212 => 29 | 99 => 30 | 165 => 31 | 166 => 32 | 170 => 33 | 169 => 34 | 263 => 44 | 264 => 45 | 206 => 46 | 240 => 47 | 241 => 48 | 276 => 56 | 277 => 57 | n => n, fun | 9 => 9 | 3 => 3 | 4 => 4 | 20 => 20 | 0 => 0 | 46 => 44 | 109 => 45 | 5 => 5 | 72 => 50 | 76 => 54 | 51 => 65 | 146 => 66 | 53 => 33 | 148 => 68 | 70 => 48 | 37 => 43 | 75 => 53 | 127 => 70 | 164 => 77 | 80 => 57 | n => n, fun | n => n⟩
theorem Tryd.lays105 : Go.Proofs.Lays.n105 Tryd.prog Tryd.lays105_ren := {
  mixed := by kernel_rfl
  f99 := Tryd.func30.trans (congrArg some (by kernel_rfl))
  f105 := Tryd.func20.trans (congrArg some (by kernel_rfl))
  f165 := Tryd.func31.trans (congrArg some (by kernel_rfl))
  f166 := Tryd.func32.trans (congrArg some (by kernel_rfl))
  f169 := Tryd.func34.trans (congrArg some (by kernel_rfl))
  f170 := Tryd.func33.trans (congrArg some (by kernel_rfl))
  f206 := Tryd.func46.trans (congrArg some (by kernel_rfl))
  f212 := Tryd.func29.trans (congrArg some (by kernel_rfl))
  f240 := Tryd.func47.trans (congrArg some (by kernel_rfl))
  f241 := Tryd.func48.trans (congrArg some (by kernel_rfl))
  f263 := Tryd.func44.trans (congrArg some (by kernel_rfl))
  f264 := Tryd.func45.trans (congrArg some (by kernel_rfl))
  f276 := Tryd.func56.trans (congrArg some (by kernel_rfl))
  f277 := Tryd.func57.trans (congrArg some (by kernel_rfl))
  t0 := Tryd.underlying0
  a0 := Tryd.isAgg0
  z0 := Tryd.sizeOf0
  v0 := Tryd.zeroValue0
  t3 := Tryd.underlying3
  a3 := Tryd.isAgg3
  z3 := Tryd.sizeOf3
  v3 := Tryd.zeroValue3
  t4 := Tryd.underlying4
  a4 := Tryd.isAgg4
  z4 := Tryd.sizeOf4
  v4 := Tryd.zeroValue4
  t5 := Tryd.underlying5
  a5 := Tryd.isAgg5
  z5 := Tryd.sizeOf5
  v5 := Tryd.zeroValue5
  t9 := Tryd.underlying9
  a9 := Tryd.isAgg9
  z9 := Tryd.sizeOf9
  v9 := Tryd.zeroValue9
  t20 := Tryd.underlying20
  a20 := Tryd.isAgg20
  z20 := Tryd.sizeOf20
  v20 := Tryd.zeroValue20
  t37 := Tryd.underlying43
  a37 := Tryd.isAgg43
  z37 := Tryd.sizeOf43
  v37 := Tryd.zeroValue43
  t46 := Tryd.underlying44
  a46 := Tryd.isAgg44
  z46 := Tryd.sizeOf44
  v46 := Tryd.zeroValue44
  t51 := Tryd.underlying65
  a51 := Tryd.isAgg65
  z51 := Tryd.sizeOf65
  v51 := Tryd.zeroValue65
  t53 := Tryd.underlying33
  a53 := Tryd.isAgg33
  z53 := Tryd.sizeOf33
  v53 := Tryd.zeroValue33
  t70 := Tryd.underlying48
  a70 := Tryd.isAgg48
  z70 := Tryd.sizeOf48
  v70 := Tryd.zeroValue48
  t72 := Tryd.underlying50
  a72 := Tryd.isAgg50
  z72 := Tryd.sizeOf50
  v72 := Tryd.zeroValue50
  t75 := Tryd.underlying53
  a75 := Tryd.isAgg53
  z75 := Tryd.sizeOf53
  v75 := Tryd.zeroValue53
  t76 := Tryd.underlying54
  a76 := Tryd.isAgg54
  z76 := Tryd.sizeOf54
  v76 := Tryd.zeroValue54
  t109 := Tryd.underlying45
  a109 := Tryd.isAgg45
  z109 := Tryd.sizeOf45
  v109 := Tryd.zeroValue45
  t127 := Tryd.underlying70
  a127 := Tryd.isAgg70
  z127 := Tryd.sizeOf70
  v127 := Tryd.zeroValue70
  t146 := Tryd.underlying66
  a146 := Tryd.isAgg66
  z146 := Tryd.sizeOf66
  v146 := Tryd.zeroValue66
  t148 := Tryd.underlying68
  a148 := Tryd.isAgg68
  z148 := Tryd.sizeOf68
  v148 := Tryd.zeroValue68
  t164 := Tryd.underlying77
  a164 := Tryd.isAgg77
  z164 := Tryd.sizeOf77
  v164 := Tryd.zeroValue77 }
end Go.Proofs
namespace Go.Proofs.YtkdiifkkhdkpeaaDoor
open Go

def ofL (l : List UInt8) : ByteArray := ⟨l.toArray⟩
theorem ofL_list (l : List UInt8) : (ofL l).data.toList = l := by simp [ofL]
end Go.Proofs.YtkdiifkkhdkpeaaDoor
namespace Go.Proofs.YtkdiifkkhdkpeaaDoor
open Go.ChangeShapes Go.WideShapes Go.ChangeAt Go.RowKit

/-- The slice at a reads as the bytes l. -/
def IsBytes (w : World) (a : Option Addr) (l : List UInt8) (cap : Nat) : Prop :=
  (a = none ∧ l = [] ∧ cap = 0) ∨ ∃ x, a = some x ∧ l.length ≤ cap ∧ cap ≤ maxLen ∧ ∀ j (hj : j < l.length), w.cell? (x.add j) = some (.int .u8 (l[j].toNat : Int))

end Go.Proofs.YtkdiifkkhdkpeaaDoor
namespace Go.Proofs.YtkdiifkkhdkpeaaDoor
open Go.ChangeShapes Go.WideShapes Go.ChangeAt Go.RowKit

/-- The slice at a reads as the strings l. -/
def StrsIn (w : World) (a : Option Addr) (l : List ByteArray) : Prop :=
  ∀ j (hj : j < l.length), ∃ x, a = some x ∧ w.cell? (x.add j) = some (.string l[j])
theorem StrsIn.keep {w w' : World} {a : Option Addr} {l : List ByteArray} (h : StrsIn w a l) (hb : Below w.heap.size w w') : StrsIn w' a l := fun j hj => by
  obtain ⟨x, e, hc⟩ := h j hj
  exact ⟨x, e, below_cell hb hc⟩
theorem StrsIn.take {w : World} {a : Option Addr} {l : List ByteArray} (h : StrsIn w a l) (k : Nat) : StrsIn w a (l.take k) := fun j hj => by
  have hj' : j < l.length := by rw [List.length_take] at hj; omega
  obtain ⟨x, e, hc⟩ := h j hj'
  exact ⟨x, e, by rw [List.getElem_take]; exact hc⟩
end Go.Proofs.YtkdiifkkhdkpeaaDoor
namespace Go.Proofs.YtkdiifkkhdkpeaaDoor
open Go.RowKit

theorem Tryd.info5 : (Tryd.prog.info? 5).map (fun i => (i.zero, i.size, i.bytes)) = some (some (.int .u8 0), 1, 1) := by kernel_rfl
section
variable {ops : Array Oper} {rest : List Oper} {o : Oper} {act : Act} {Q : Exit → Act → World → Prop}
end
end Go.Proofs.YtkdiifkkhdkpeaaDoor
namespace Go.Proofs.YtkdiifkkhdkpeaaDoor
open Go.RowKit

/-- What an operation leaves in its slot; whatever comes later keeps it. -/
structure Spec where
  p : Value → World → Prop
  mono : ∀ v w w', p v w → Below w.heap.size w w' → p v w'
def Spec.val (v : Value) : Spec := ⟨fun x _ => x = v, fun _ _ _ h _ => h⟩
def Spec.any : Spec := ⟨fun _ _ => True, fun _ _ _ h _ => h⟩

section
variable {P : Program} {Q : Exit → Act → World → Prop} {ops : Array Oper} {S : List Spec} {a0 : Act} {w0 : World}
end

section
variable {P : Program} {Q : Exit → Act → World → Prop} {ops : Array Oper} {S : List Spec} {a : Act} {w : World} {o : Oper} {s : Spec}
end
section
variable {P : Program} {ops : Array Oper} {Q : Exit → Act → World → Prop} {a : Act} {w : World} {rest : List Oper}
end
end Go.Proofs.YtkdiifkkhdkpeaaDoor
namespace Go.Proofs.YtkdiifkkhdkpeaaDoor
open Go.RowKit

/-- One round: a number of 64 bits and a byte. -/
def mixN (h : Nat) (c : Nat) : Nat := ((h ^^^ c) * 1099511628211) % 18446744073709551616
def mixL (h : Nat) (l : List UInt8) : Nat := l.foldl (fun h c => mixN h c.toNat) h
theorem mixN_lt (h c : Nat) : mixN h c < 18446744073709551616 := Nat.mod_lt _ (by decide)
theorem mixL_lt : ∀ (l : List UInt8) (h : Nat), h < 18446744073709551616 → mixL h l < 18446744073709551616
  | [], _, hh => hh
  | c :: r, h, _ => mixL_lt r (mixN h c.toNat) (mixN_lt _ _)
theorem mixL_append (h : Nat) (l r : List UInt8) : mixL h (l ++ r) = mixL (mixL h l) r := List.foldl_append ..
theorem mixL_nil (h : Nat) : mixL h [] = h := rfl
theorem mixL_cons (h : Nat) (c : UInt8) (r : List UInt8) : mixL h (c :: r) = mixL (mixN h c.toNat) r := rfl
theorem mixL_snoc (h : Nat) (l : List UInt8) (k : Nat) (hk : k < l.length) : mixL h (l.take (k + 1)) = mixN (mixL h (l.take k)) l[k].toNat := by
  rw [List.take_succ_eq_append_getElem hk, mixL_append, mixL_cons, mixL_nil]
theorem two64 : (18446744073709551616 : Nat) = 2 ^ 64 := by decide
theorem xor_lt (h c : Nat) (hh : h < 18446744073709551616) (hc : c < 18446744073709551616) : h ^^^ c < 18446744073709551616 := by
  rw [two64] at hh hc ⊢
  exact Nat.xor_lt_two_pow hh hc
theorem mix_bits (h : Nat) (c : UInt8) (hh : h < 18446744073709551616) : bits BinOp.xor IntKind.u64 (h : Int) (c.toNat : Int) = ((h ^^^ c.toNat : Nat) : Int) :=
  bits_xor_u64_nat _ _ hh (by have := c.toNat_lt; omega)
theorem mix_wrap (X : Nat) : IntKind.u64.wrap ((X : Int) * 1099511628211) = (((X * 1099511628211) % 18446744073709551616 : Nat) : Int) := by
  rw [IntKind.wrap_u64]; omega
/-- The slice at a holds the bytes l. -/
def BytesIn (w : World) (a : Option Addr) (l : List UInt8) : Prop :=
  ∀ j (hj : j < l.length), ∃ x, a = some x ∧ w.cell? (x.add j) = some (.int .u8 (l[j].toNat : Int))
set_option maxHeartbeats 1000000 in
theorem mix_any (h : Nat) (l : List UInt8) (a : Option Addr) (cap : Nat) (w : World) (hh : h < 18446744073709551616) (hlen : l.length ≤ maxLen) (ha : BytesIn w a l) :
    Calls Tryd.prog 27 #[.int .u64 h, .slice a l.length cap] w fun e w' => e = .returned (.int .u64 (mixL h l : Nat)) ∧ w = w' := by
  unfold maxLen at hlen
  have HA := Lib.hid ha
  clear ha
  go_enter Tryd.func27, Tryd.ntmps27
  go_wp2
  go_loop [0, 9] (fun n i => ∃ (k X : Nat), k ≤ l.length ∧ i = .int .i64 k ∧ n = .int .u64 X ∧ X < 18446744073709551616 ∧ Hid (X = mixL h (l.take k))) (fun _ i => l.length - (intOf i).toNat)
  case atStart => exact ⟨0, h, Nat.zero_le _, rfl, rfl, hh, Lib.hid (by rw [List.take_zero, mixL_nil])⟩
  case round =>
    obtain ⟨k, X, hk, rfl, rfl, hX, HG⟩ := hrel
    by_cases hlt : k < l.length
    · obtain ⟨x, rfl, hc⟩ := HA.out k hlt
      have b1 : (l[k].toNat : Int) ≤ 255 := by have := l[k].toNat_lt; omega
      have hb := mix_bits X l[k] hX
      have hxl := xor_lt X l[k].toNat hX (by have := l[k].toNat_lt; omega)
      have HN : Hid (mixN X l[k].toNat = ((X ^^^ l[k].toNat) * 1099511628211) % 18446744073709551616) := Lib.hid rfl
      have HX := Lib.hid (mixN_lt X l[k].toNat)
      generalize X ^^^ l[k].toNat = Y at *
      have hw := mix_wrap Y
      go_wp2
      go_round
      case rel => exact ⟨k + 1, mixN X l[k].toNat, by omega, by go_num, congrArg (Value.int .u64) (by rw [HN.out]; omega), HX.out, Lib.hid (by rw [mixL_snoc h l k hlt, HG.out])⟩
      case measure => simp [intOf]; omega
    · go_wp2
      go_ret
      exact ⟨ret_int (by rw [HG.out, List.take_of_length_le (by omega)]), rfl⟩

set_option maxHeartbeats 1000000 in
theorem refHashWrite_any (h : Nat) (l : List UInt8) (a : Option Addr) (cap : Nat) (w : World) (hh : h < 18446744073709551616) (hlen : l.length ≤ maxLen) (ha : BytesIn w a l) :
    Calls Tryd.prog 36 #[.int .u64 h, .slice a l.length cap] w fun e w' => e = .returned (.int .u64 (mixL h l : Nat)) ∧ w = w' := by
  unfold maxLen at hlen
  have HA := Lib.hid ha
  clear ha
  go_enter Tryd.func36, Tryd.ntmps36
  go_wp2
  go_loop [0, 5] (fun n i => ∃ (k X : Nat), k ≤ l.length ∧ i = .int .i64 k ∧ n = .int .u64 X ∧ X < 18446744073709551616 ∧ Hid (X = mixL h (l.take k))) (fun _ i => l.length - (intOf i).toNat)
  case atStart => exact ⟨0, h, Nat.zero_le _, rfl, rfl, hh, Lib.hid (by rw [List.take_zero, mixL_nil])⟩
  case round =>
    obtain ⟨k, X, hk, rfl, rfl, hX, HG⟩ := hrel
    by_cases hlt : k < l.length
    · obtain ⟨x, rfl, hc⟩ := HA.out k hlt
      have b1 : (l[k].toNat : Int) ≤ 255 := by have := l[k].toNat_lt; omega
      have hb := mix_bits X l[k] hX
      have hxl := xor_lt X l[k].toNat hX (by have := l[k].toNat_lt; omega)
      have HN : Hid (mixN X l[k].toNat = ((X ^^^ l[k].toNat) * 1099511628211) % 18446744073709551616) := Lib.hid rfl
      have HX := Lib.hid (mixN_lt X l[k].toNat)
      generalize X ^^^ l[k].toNat = Y at *
      have hw := mix_wrap Y
      go_wp2
      go_round
      case rel => exact ⟨k + 1, mixN X l[k].toNat, by omega, by go_num, congrArg (Value.int .u64) (by rw [HN.out]; omega), HX.out, Lib.hid (by rw [mixL_snoc h l k hlt, HG.out])⟩
      case measure => simp [intOf]; omega
    · go_wp2
      go_ret
      exact ⟨ret_int (by rw [HG.out, List.take_of_length_le (by omega)]), rfl⟩
end Go.Proofs.YtkdiifkkhdkpeaaDoor
namespace Go.Proofs.YtkdiifkkhdkpeaaDoor
open Go.RowKit

/-- The hash after a string and its end. -/
def sumN (h : Nat) (s : ByteArray) : Nat := mixN (mixL h s.data.toList) 0
def sumL (l : List ByteArray) : Nat := l.foldl sumN 14695981039346656037
theorem sumN_lt (h : Nat) (s : ByteArray) : sumN h s < 18446744073709551616 := mixN_lt _ _
theorem sumL_nil : sumL [] = 14695981039346656037 := by unfold sumL; rw [List.foldl_nil]
theorem sumL_snoc (l : List ByteArray) (k : Nat) (hk : k < l.length) : sumL (l.take (k + 1)) = sumN (sumL (l.take k)) l[k] := by
  unfold sumL
  rw [List.take_succ_eq_append_getElem hk, List.foldl_append, List.foldl_cons, List.foldl_nil]

theorem refStart_any (w : World) : Calls Tryd.prog 35 #[] w fun e w' => e = .returned (.int .u64 14695981039346656037) ∧ w = w' := by
  go_enter Tryd.func35, Tryd.ntmps35
  go_wp2
  go_ret
  exact ⟨rfl, rfl⟩

/-- The bytes of a string, in a block of their own. -/
theorem bytesIn_new (w : World) (s : ByteArray) (cap : Nat) :
    BytesIn (w.alloc (.cells (bytesRow s cap) 5 ((bytesRow s cap).size, (bytesRow s cap).size + 1))).drew (some ⟨w.heap.size, 0, none⟩) s.data.toList := fun j hj => by
  refine ⟨_, rfl, ?_⟩
  rw [Addr.add_lit, Nat.zero_add]
  exact (bytesAt_new w s cap j hj).1
theorem byteIn_new (w : World) (c : UInt8) (fr : Nat × Nat) : BytesIn (w.alloc (.cells #[.int .u8 (c.toNat : Int)] 5 fr)) (some ⟨w.heap.size, 0, none⟩) [c] := fun j hj => by
  have : j = 0 := by simpa using hj
  subst this
  refine ⟨_, rfl, ?_⟩
  rw [Addr.add_lit, Nat.zero_add, World.cell?_alloc_mark]; rfl

theorem len_toList (s : ByteArray) : s.data.toList.length = s.size := by simp
theorem mix_str (h : Nat) (s : ByteArray) (a : Option Addr) (cap : Nat) (w : World) (hh : h < 18446744073709551616) (hs : s.size ≤ maxLen) (ha : BytesIn w a s.data.toList) :
    Calls Tryd.prog 27 #[.int .u64 h, .slice a s.size cap] w fun e w' => e = .returned (.int .u64 (mixL h s.data.toList : Nat)) ∧ w = w' := by
  have := mix_any h s.data.toList a cap w hh (by rw [len_toList]; exact hs) ha
  rw [len_toList] at this; exact this
theorem mix_byte (h : Nat) (c : UInt8) (z : Int) (hz : z = (c.toNat : Int)) (w : World) (fr : Nat × Nat) (hh : h < 18446744073709551616) :
    Calls Tryd.prog 27 #[.int .u64 h, .slice (some ⟨w.heap.size, 0, none⟩) 1 1] (w.alloc (.cells #[.int .u8 z] 5 fr)) fun e w' => e = .returned (.int .u64 (mixN h c.toNat : Nat)) ∧ (w.alloc (.cells #[.int .u8 z] 5 fr)) = w' := by
  subst hz
  have := mix_any h [c] _ 1 _ hh (show 1 ≤ maxLen by decide) (byteIn_new w c fr)
  rw [mixL_cons, mixL_nil] at this
  exact this
theorem refWrite_str (h : Nat) (s : ByteArray) (a : Option Addr) (cap : Nat) (w : World) (hh : h < 18446744073709551616) (hs : s.size ≤ maxLen) (ha : BytesIn w a s.data.toList) :
    Calls Tryd.prog 36 #[.int .u64 h, .slice a s.size cap] w fun e w' => e = .returned (.int .u64 (mixL h s.data.toList : Nat)) ∧ w = w' := by
  have := refHashWrite_any h s.data.toList a cap w hh (by rw [len_toList]; exact hs) ha
  rw [len_toList] at this; exact this
theorem refWrite_byte (h : Nat) (c : UInt8) (z : Int) (hz : z = (c.toNat : Int)) (w : World) (fr : Nat × Nat) (hh : h < 18446744073709551616) :
    Calls Tryd.prog 36 #[.int .u64 h, .slice (some ⟨w.heap.size, 0, none⟩) 1 1] (w.alloc (.cells #[.int .u8 z] 5 fr)) fun e w' => e = .returned (.int .u64 (mixN h c.toNat : Nat)) ∧ (w.alloc (.cells #[.int .u8 z] 5 fr)) = w' := by
  subst hz
  have := refHashWrite_any h [c] _ 1 _ hh (show 1 ≤ maxLen by decide) (byteIn_new w c fr)
  rw [mixL_cons, mixL_nil] at this
  exact this

set_option maxHeartbeats 1000000 in
theorem sum_any (l : List ByteArray) (a : Option Addr) (cap : Nat) (w : World) (hlen : l.length ≤ maxLen) (hz : ∀ s ∈ l, s.size ≤ maxLen) (ha : StrsIn w a l) :
    Calls Tryd.prog 18 #[.slice a l.length cap] w fun e w' => e = .returned (.int .u64 (sumL l : Nat)) ∧ Below w.heap.size w w' := by
  unfold maxLen at hlen
  have HA := Lib.hid ha
  have HZ := Lib.hid hz
  clear ha hz
  have hcv := fun (w : World) (s : ByteArray) => run_bytes_of_string (P := Tryd.prog) w 9 43 5 s Tryd.underlying9 Tryd.underlying43 Tryd.underlying5
  go_enter Tryd.func18, Tryd.ntmps18
  go_wp2
  go_loopw [3, 8] (fun n i wr => ∃ (k X : Nat), k ≤ l.length ∧ i = .int .i64 k ∧ n = .int .u64 X ∧ X < 18446744073709551616 ∧ Hid (X = sumL (l.take k)) ∧ Hid (Below w.heap.size w wr)) (fun _ i _ => l.length - (intOf i).toNat)
  case atStart => exact ⟨0, 14695981039346656037, Nat.zero_le _, rfl, rfl, by decide, Lib.hid (by rw [List.take_zero, sumL_nil]), Lib.hid (Below.refl _ _)⟩
  case round =>
    obtain ⟨k, X, hk, rfl, rfl, hX, HG, HB⟩ := hrel
    by_cases hlt : k < l.length
    · obtain ⟨x, rfl, hc⟩ := HA.out.keep HB.out k hlt
      have hs := HZ.out _ (List.getElem_mem hlt)
      have HS := Lib.hid (sumL_snoc l k hlt)
      generalize l[k] = s at *
      go_wp2_with fail
      have HC := Lib.hid (bytesIn_new wr s (grownCap wr s.size 0 5))
      have HN := Lib.hid (below_trans HB.out (((Below.refl wr.heap.size wr).alloc (Nat.le_refl _) (.cells (bytesRow s (grownCap wr s.size 0 5)) 5 ((bytesRow s (grownCap wr s.size 0 5)).size, (bytesRow s (grownCap wr s.size 0 5)).size + 1))).drew))
      generalize (wr.alloc (.cells (bytesRow s (grownCap wr s.size 0 5)) 5 ((bytesRow s (grownCap wr s.size 0 5)).size, (bytesRow s (grownCap wr s.size 0 5)).size + 1))).drew = W1 at *
      refine (mix_str X s _ _ W1 hX hs HC.out).mono ?_
      rintro e w1 ⟨rfl, rfl⟩
      go_wp2_with fail
      refine (mix_byte _ 0 0 rfl W1 _ (mixL_lt _ _ hX)).mono ?_
      rintro e w1 ⟨rfl, rfl⟩
      go_wp2_with fail
      go_roundw
      case rel => exact ⟨k + 1, sumN X s, by omega, by go_num, rfl, sumN_lt _ _, Lib.hid (by rw [HS.out, HG.out]), Lib.hid (HN.out.alloc HN.out.size _)⟩
      case measure => simp [intOf]; omega
    · go_wp2
      go_ret
      exact ⟨ret_int (by rw [HG.out, List.take_of_length_le (by omega)]), HB.out⟩

set_option maxHeartbeats 1000000 in
theorem refSum_any (l : List ByteArray) (a : Option Addr) (cap : Nat) (w : World) (hlen : l.length ≤ maxLen) (hz : ∀ s ∈ l, s.size ≤ maxLen) (ha : StrsIn w a l) :
    Calls Tryd.prog 21 #[.slice a l.length cap] w fun e w' => e = .returned (.int .u64 (sumL l : Nat)) ∧ Below w.heap.size w w' := by
  unfold maxLen at hlen
  have HA := Lib.hid ha
  have HZ := Lib.hid hz
  clear ha hz
  have hcv := fun (w : World) (s : ByteArray) => run_bytes_of_string (P := Tryd.prog) w 9 43 5 s Tryd.underlying9 Tryd.underlying43 Tryd.underlying5
  go_enter Tryd.func21, Tryd.ntmps21
  go_wp2_with (go_at_call 35; refine (refStart_any _).mono ?_; rintro e w' ⟨rfl, rfl⟩)
  go_loopw [3, 4] (fun n i wr => ∃ (k X : Nat), k ≤ l.length ∧ i = .int .i64 k ∧ n = .int .u64 X ∧ X < 18446744073709551616 ∧ Hid (X = sumL (l.take k)) ∧ Hid (Below w.heap.size w wr)) (fun _ i _ => l.length - (intOf i).toNat)
  case atStart => exact ⟨0, 14695981039346656037, Nat.zero_le _, rfl, rfl, by decide, Lib.hid (by rw [List.take_zero, sumL_nil]), Lib.hid (Below.refl _ _)⟩
  case round =>
    obtain ⟨k, X, hk, rfl, rfl, hX, HG, HB⟩ := hrel
    by_cases hlt : k < l.length
    · obtain ⟨x, rfl, hc⟩ := HA.out.keep HB.out k hlt
      have hs := HZ.out _ (List.getElem_mem hlt)
      have HS := Lib.hid (sumL_snoc l k hlt)
      generalize l[k] = s at *
      go_wp2_with fail
      have HC := Lib.hid (bytesIn_new wr s (grownCap wr s.size 0 5))
      have HN := Lib.hid (below_trans HB.out (((Below.refl wr.heap.size wr).alloc (Nat.le_refl _) (.cells (bytesRow s (grownCap wr s.size 0 5)) 5 ((bytesRow s (grownCap wr s.size 0 5)).size, (bytesRow s (grownCap wr s.size 0 5)).size + 1))).drew))
      generalize (wr.alloc (.cells (bytesRow s (grownCap wr s.size 0 5)) 5 ((bytesRow s (grownCap wr s.size 0 5)).size, (bytesRow s (grownCap wr s.size 0 5)).size + 1))).drew = W1 at *
      refine (refWrite_str X s _ _ W1 hX hs HC.out).mono ?_
      rintro e w1 ⟨rfl, rfl⟩
      go_wp2_with fail
      refine (refWrite_byte _ 0 0 rfl W1 _ (mixL_lt _ _ hX)).mono ?_
      rintro e w1 ⟨rfl, rfl⟩
      go_wp2_with fail
      go_roundw
      case rel => exact ⟨k + 1, sumN X s, by omega, by go_num, rfl, sumN_lt _ _, Lib.hid (by rw [HS.out, HG.out]), Lib.hid (HN.out.alloc HN.out.size _)⟩
      case measure => simp [intOf]; omega
    · go_wp2
      go_ret
      exact ⟨ret_int (by rw [HG.out, List.take_of_length_le (by omega)]), HB.out⟩
end Go.Proofs.YtkdiifkkhdkpeaaDoor
namespace Go.Proofs.YtkdiifkkhdkpeaaDoor
open Go.ChangeShapes Go.WideShapes Go.ChangeAt Go.RowKit

theorem IsBytes.keep {w w' : World} {a : Option Addr} {l : List UInt8} {cap : Nat} (h : IsBytes w a l cap) (hb : Below w.heap.size w w') : IsBytes w' a l cap := by
  rcases h with h | ⟨x, h1, h2, h3, h4⟩
  · exact .inl h
  · exact .inr ⟨x, h1, h2, h3, fun j hj => below_cell hb (h4 j hj)⟩

section
variable {ops : Array Oper} {rest : List Oper} {o : Oper} {act : Act} {Q : Exit → Act → World → Prop}
end

end Go.Proofs.YtkdiifkkhdkpeaaDoor
namespace Go.Proofs.YtkdiifkkhdkpeaaDoor
open Go.RowKit

def BytesV (w : World) (v : Value) (l : List UInt8) : Prop := ∃ a c, v = .slice a l.length c ∧ IsBytes w a l c
theorem BytesV.keep {w w' : World} {v : Value} {l : List UInt8} (h : BytesV w v l) (hb : Below w.heap.size w w') : BytesV w' v l := by
  obtain ⟨a, c, h1, h2⟩ := h
  exact ⟨a, c, h1, h2.keep hb⟩
def Spec.bytes (l : List UInt8) : Spec := ⟨fun v w => BytesV w v l, fun _ _ _ h hb => h.keep hb⟩

section
variable {Q : Exit → Act → World → Prop} {a : Act} {w : World} {o : Oper} {s : Spec}
end
end Go.Proofs.YtkdiifkkhdkpeaaDoor
namespace Go.Proofs.YtkdiifkkhdkpeaaDoor
open Go.RowKit

/-- .. with what stays known of the value alone. -/
structure SpecQ extends Spec where
  q : Value → Prop
  weak : ∀ v w, p v w → q v
def SpecQ.val (v : Value) : SpecQ := ⟨.val v, fun x => x = v, fun _ _ h => h⟩
section
variable {P : Program} {Q : Exit → Act → World → Prop} {ops : Array Oper} {S : List (Option SpecQ)} {a0 : Act} {w0 : World}
end

section
variable {P : Program} {Q : Exit → Act → World → Prop} {ops : Array Oper} {a : Act} {w : World} {o : Oper} {s : SpecQ}
end
end Go.Proofs.YtkdiifkkhdkpeaaDoor
namespace Go.Proofs.YtkdiifkkhdkpeaaDoor

/-- A fact that no tactic looks into (Hid is a definition, which some unfold). -/
structure Box (p : Prop) : Prop where
  out : p
/-- Four bytes as a word, the first one the greatest. -/
def w4 (l : List UInt8) : UInt32 := l.foldl (fun x c => (x <<< 8) ||| c.toUInt32) 0
end Go.Proofs.YtkdiifkkhdkpeaaDoor
namespace Go.Proofs.YtkdiifkkhdkpeaaDoor
open Go.RowKit

theorem below_oneF (w : World) (o : Obj) : Below w.heap.size w (w.alloc o) := (Below.refl _ _).alloc (Nat.le_refl _) _
end Go.Proofs.YtkdiifkkhdkpeaaDoor
namespace Go.Proofs.YtkdiifkkhdkpeaaDoor
open Go.RowKit

theorem new_cellF (w : World) (cs : Array Value) (t : TypeId) (j : Nat) : (w.alloc (.cells cs t (0, 0))).cell? ⟨w.heap.size, j, none⟩ = cs[j]? :=
  cell_of_row _ _ _ _ _ _ (heap_alloc_new w (.cells cs t (0, 0)))
theorem below_twoF {w w1 : World} (h : Below w.heap.size w w1) (o : Obj) : Below w.heap.size w (w1.alloc o) := below_trans h (below_oneF w1 o)

section
variable {ops : Array Oper} {rest : List Oper} {o : Oper} {act : Act} {Q : Exit → Act → World → Prop}
end
end Go.Proofs.YtkdiifkkhdkpeaaDoor
namespace Go.Proofs.YtkdiifkkhdkpeaaDoor
open Go.RowKit

theorem StrsIn.at {w : World} {b off : Nat} {l : List ByteArray} (h : StrsIn w (some ⟨b, off, none⟩) l) : StrsAt w (some ⟨b, off, none⟩) l := fun j hj => by
  obtain ⟨x, e, hc⟩ := h j hj
  obtain rfl := Option.some.inj e
  exact ⟨b, off, rfl, by rw [← hc, show (⟨b, off, none⟩ : Addr).add j = ⟨b, off + j, none⟩ by unfold Addr.add; split <;> simp_all]⟩

section
variable (w : World) (m : Int)
end
end Go.Proofs.YtkdiifkkhdkpeaaDoor
namespace Go.Proofs.YtkdiifkkhdkpeaaDoor
open Go.RowKit

theorem ba_app_list (a b : ByteArray) : (a ++ b).data.toList = a.data.toList ++ b.data.toList := by rw [ByteArray.data_append]; simp

end Go.Proofs.YtkdiifkkhdkpeaaDoor
namespace Go.Proofs.YtkdiifkkhdkpeaaDoor
open Go.RowKit

def withI (z : Int) (n : Nat) : Int := (wrap64 (z.tmod n + n)).tmod n
theorem withI_range (z : Int) (n : Nat) (h0 : 0 < n) (hn : n ≤ 1000000000) : ∃ k : Nat, k < n ∧ withI z n = (k : Int) := by
  have h1 : z.tmod n < n := Int.tmod_lt_of_pos z (by omega)
  have h2 : -(n : Int) < z.tmod n := Int.lt_tmod_of_pos z (by omega)
  unfold withI
  generalize z.tmod n = y at *
  have e : wrap64 (y + n) = y + n := by simp only [wrap64]; omega
  rw [e, Int.tmod_eq_emod_of_nonneg (by omega)]
  exact ⟨((y + n) % n).toNat, by have := Int.emod_lt_of_pos (y + n) (show (0 : Int) < n by omega); have := Int.emod_nonneg (y + n) (show (n : Int) ≠ 0 by omega); omega, by have := Int.emod_nonneg (y + n) (show (n : Int) ≠ 0 by omega); omega⟩
theorem withinF (z : Int) (n : Nat) (w : World) (h0 : 0 < n) (hn : n ≤ 1000000000) :
    Calls Tryd.prog 14 #[.int .i64 z, .int .i64 n] w fun e w' => e = .returned (.int .i64 (withI z n)) ∧ w' = w := by
  go_enter Tryd.func14, Tryd.ntmps14
  go_wp2
  go_ret
  exact ⟨rfl, rfl⟩

end Go.Proofs.YtkdiifkkhdkpeaaDoor
namespace Go.Proofs.YtkdiifkkhdkpeaaDoor
open Go.RowKit

/-- The byte of a digit. -/
def dgc (d : Nat) : UInt8 := if d < 10 then UInt8.ofNat (48 + d) else UInt8.ofNat (87 + d)
/-- The digits of n to base b (the step: f is fuel that is never used up). -/
def digsF (b : Nat) : Nat → Nat → List UInt8
  | 0, n => [dgc (n % b)]
  | f + 1, n => if n < b then [dgc n] else digsF b f (n / b) ++ [dgc (n % b)]
def digs (b n : Nat) : List UInt8 := digsF b n n
theorem digsF_fuel (b : Nat) (hb : 2 ≤ b) : ∀ (f n : Nat), n ≤ f → digsF b f n = digsF b n n
  | 0, n, h => by obtain rfl : n = 0 := by omega
                  rfl
  | f + 1, n, h => by
    match n with
    | 0 => simp [digsF, show 0 < b by omega]
    | n + 1 =>
      have hd : (n + 1) / b ≤ n := by
        have : (n + 1) / b < n + 1 := Nat.div_lt_self (by omega) (by omega)
        omega
      simp only [digsF]
      rw [digsF_fuel b hb f _ (by omega), digsF_fuel b hb n _ hd]
theorem digs_small {b n : Nat} (h : n < b) : digs b n = [dgc n] := by
  unfold digs
  match n with
  | 0 => rw [digsF, Nat.zero_mod]
  | n + 1 => rw [digsF, if_pos h]
theorem digs_big {b n : Nat} (hb : 2 ≤ b) (h : ¬ n < b) : digs b n = digs b (n / b) ++ [dgc (n % b)] := by
  unfold digs
  match n with
  | 0 => omega
  | n + 1 =>
    have hd : (n + 1) / b ≤ n := by
      have : (n + 1) / b < n + 1 := Nat.div_lt_self (by omega) (by omega)
      omega
    rw [digsF, if_neg h, digsF_fuel b hb n _ hd]
theorem digs_dec (n : Nat) : digs 10 n = Lib.decDigits n := by
  induction n using Nat.strongRecOn with
  | _ n ih =>
    by_cases h : n < 10
    · rw [digs_small h, Lib.decDigits, dif_pos h]; unfold dgc; rw [if_pos h]
    · rw [digs_big (by omega) h, Lib.decDigits, dif_neg h, ih _ (by omega)]
      congr 1; unfold dgc; rw [if_pos (by omega)]
def numeral (b n : Nat) : ByteArray := ⟨(digs b n).toArray⟩
end Go.Proofs.YtkdiifkkhdkpeaaDoor
namespace Go.Proofs.YtkdiifkkhdkpeaaDoor
open Go.RowKit

def hexS : ByteArray := ⟨#[48, 49, 50, 51, 52, 53, 54, 55, 56, 57, 97, 98, 99, 100, 101, 102]⟩
theorem hexS_piece_fin : ∀ d : Fin 16, (hexS.extract d.val (d.val + 1)).data.toList = [dgc d.val] := by decide +kernel
theorem hexS_piece {d : Nat} (h : d < 16) : (⟨#[48, 49, 50, 51, 52, 53, 54, 55, 56, 57, 97, 98, 99, 100, 101, 102]⟩ : ByteArray).extract d (d + 1) = ⟨#[dgc d]⟩ := by
  have := hexS_piece_fin ⟨d, h⟩
  apply ByteArray.ext
  apply Array.toList_inj.1
  exact this
theorem one_cat (c : UInt8) (t : List UInt8) : (⟨#[c]⟩ : ByteArray) ++ ⟨t.toArray⟩ = ⟨(c :: t).toArray⟩ := by
  apply ByteArray.ext; simp

set_option maxHeartbeats 1000000 in
theorem refBase10 (n : Nat) (w : World) (hn : (n : Int) ≤ 9223372036854775807) :
    Calls Tryd.prog 37 #[.int .i64 n, .int .i64 10] w fun e w' => e = .returned (.string (numeral 10 n)) ∧ ∃ j, w' = w.drewN j := by
  go_enter Tryd.func37, Tryd.ntmps37
  go_wp2
  go_loopw [5, 0] (fun s m wr => ∃ (k : Nat) (t : List UInt8) (j : Nat), (t.length : Int) + k ≤ n ∧ (t = [] ∨ 0 < k) ∧ m = .int .i64 k ∧ s = .string ⟨t.toArray⟩ ∧ wr = w.drewN j ∧ Hid (digs 10 n = digs 10 k ++ t)) (fun _ m _ => (intOf m).toNat)
  case atStart => exact ⟨n, [], 0, by simp, .inl rfl, rfl, rfl, by simp [World.drewN_zero], Lib.hid (by simp)⟩
  case round =>
    obtain ⟨k, t, j, hk, hne, rfl, rfl, rfl, HD⟩ := hrel
    have HNE := Lib.hid hne
    have hlen : t.length + 1 ≤ 9223372036854775807 := by
      rcases hne with rfl | h
      · simp
      · omega
    clear hne
    obtain ⟨d, hd⟩ : ∃ d : Nat, k % 10 = d := ⟨_, rfl⟩
    have hd9 : d < 10 := by omega
    have HDD := Lib.hid hd
    have hr : ((k : Int).tmod 10) = (d : Int) := by rw [Int.tmod_eq_emod_of_nonneg (by omega)]; omega
    clear hd
    have hw1 : IntKind.i64.wrap (d : Int) = (d : Int) := IntWalk.i64_in _ (by omega)
    have hw2 : IntKind.i64.wrap ((d : Int) + 1) = (d : Int) + 1 := IntWalk.i64_in _ (by omega)
    have hn1 : ((d : Int) + 1).toNat = d + 1 := by omega
    have hi1 : (0 : Int) ≤ d := by omega
    have hi2 : (0 : Int) ≤ d + 1 := by omega
    have hi3 : (d : Int) + 1 ≤ 16 := by omega
    have hi4 : d + 1 ≤ 16 := by omega
    have hi5 : (d : Int) ≤ d + 1 := by omega
    have hp := hexS_piece (d := d) (by omega)
    have hadd : ∀ W, (Op.stringOp .add ⟨#[dgc d]⟩ ⟨t.toArray⟩).run Tryd.prog W = .ok (.string ⟨(dgc d :: t).toArray⟩) W := fun W => by
      have h := run_string_add_sum (P := Tryd.prog) (w := W) ⟨#[dgc d]⟩ ⟨t.toArray⟩ (by show 1 + (t.toArray).size ≤ _; simp; omega)
      rw [one_cat] at h; exact h
    go_wp2_with fail
    go_quiet (fail)
    clear hr hw1 hw2 hn1 hp hadd hi4
    have hq : (k : Int) / 10 = ((k / 10 : Nat) : Int) := by omega
    by_cases hz : k / 10 = 0
    · have hz1 : (k : Int) / 10 = 0 := by omega
      have HZ := Lib.hid hz
      clear hz hq
      go_wp2
      go_ret
      refine ⟨ret_str ?_, _, rfl⟩
      have hs : k < 10 := by have := HZ.out; omega
      unfold numeral
      rw [HD.out, digs_small hs]
      have : k % 10 = k := Nat.mod_eq_of_lt hs
      rw [← HDD.out, this]; rfl
    · have HZ := Lib.hid hz
      have hz2 : ¬ (k : Int) / 10 = 0 := by omega
      clear hz hq
      go_wp2
      go_roundw
      case rel =>
        have hz := HZ.out
        refine ⟨k / 10, dgc d :: t, _, by simp; omega, .inr (by omega), by first | rfl | simp, rfl, rfl, Lib.hid ?_⟩
        rw [HD.out, digs_big (by omega) (show ¬ k < 10 by omega), ← HDD.out]; simp
      case measure => have hz := HZ.out; simp [intOf]; omega

set_option maxHeartbeats 1000000 in
theorem refBase16 (n : Nat) (w : World) (hn : (n : Int) ≤ 9223372036854775807) :
    Calls Tryd.prog 37 #[.int .i64 n, .int .i64 16] w fun e w' => e = .returned (.string (numeral 16 n)) ∧ ∃ j, w' = w.drewN j := by
  go_enter Tryd.func37, Tryd.ntmps37
  go_wp2
  go_loopw [5, 0] (fun s m wr => ∃ (k : Nat) (t : List UInt8) (j : Nat), (t.length : Int) + k ≤ n ∧ (t = [] ∨ 0 < k) ∧ m = .int .i64 k ∧ s = .string ⟨t.toArray⟩ ∧ wr = w.drewN j ∧ Hid (digs 16 n = digs 16 k ++ t)) (fun _ m _ => (intOf m).toNat)
  case atStart => exact ⟨n, [], 0, by simp, .inl rfl, rfl, rfl, by simp [World.drewN_zero], Lib.hid (by simp)⟩
  case round =>
    obtain ⟨k, t, j, hk, hne, rfl, rfl, rfl, HD⟩ := hrel
    have HNE := Lib.hid hne
    have hlen : t.length + 1 ≤ 9223372036854775807 := by
      rcases hne with rfl | h
      · simp
      · omega
    clear hne
    obtain ⟨d, hd⟩ : ∃ d : Nat, k % 16 = d := ⟨_, rfl⟩
    have hd9 : d < 16 := by omega
    have HDD := Lib.hid hd
    have hr : ((k : Int).tmod 16) = (d : Int) := by rw [Int.tmod_eq_emod_of_nonneg (by omega)]; omega
    clear hd
    have hw1 : IntKind.i64.wrap (d : Int) = (d : Int) := IntWalk.i64_in _ (by omega)
    have hw2 : IntKind.i64.wrap ((d : Int) + 1) = (d : Int) + 1 := IntWalk.i64_in _ (by omega)
    have hn1 : ((d : Int) + 1).toNat = d + 1 := by omega
    have hi1 : (0 : Int) ≤ d := by omega
    have hi2 : (0 : Int) ≤ d + 1 := by omega
    have hi3 : (d : Int) + 1 ≤ 16 := by omega
    have hi4 : d + 1 ≤ 16 := by omega
    have hi5 : (d : Int) ≤ d + 1 := by omega
    have hp := hexS_piece (d := d) (by omega)
    have hadd : ∀ W, (Op.stringOp .add ⟨#[dgc d]⟩ ⟨t.toArray⟩).run Tryd.prog W = .ok (.string ⟨(dgc d :: t).toArray⟩) W := fun W => by
      have h := run_string_add_sum (P := Tryd.prog) (w := W) ⟨#[dgc d]⟩ ⟨t.toArray⟩ (by show 1 + (t.toArray).size ≤ _; simp; omega)
      rw [one_cat] at h; exact h
    go_wp2_with fail
    go_quiet (fail)
    clear hr hw1 hw2 hn1 hp hadd hi4
    have hq : (k : Int) / 16 = ((k / 16 : Nat) : Int) := by omega
    by_cases hz : k / 16 = 0
    · have hz1 : (k : Int) / 16 = 0 := by omega
      have HZ := Lib.hid hz
      clear hz hq
      go_wp2
      go_ret
      refine ⟨ret_str ?_, _, rfl⟩
      have hs : k < 16 := by have := HZ.out; omega
      unfold numeral
      rw [HD.out, digs_small hs]
      have : k % 16 = k := Nat.mod_eq_of_lt hs
      rw [← HDD.out, this]; rfl
    · have HZ := Lib.hid hz
      have hz2 : ¬ (k : Int) / 16 = 0 := by omega
      clear hz hq
      go_wp2
      go_roundw
      case rel =>
        have hz := HZ.out
        refine ⟨k / 16, dgc d :: t, _, by simp; omega, .inr (by omega), by first | rfl | simp, rfl, rfl, Lib.hid ?_⟩
        rw [HD.out, digs_big (by omega) (show ¬ k < 16 by omega), ← HDD.out]; simp
      case measure => have hz := HZ.out; simp [intOf]; omega

def fmtS (b : Nat) (n : Int) : ByteArray := if n < 0 then ⟨#[]⟩ else numeral b n.toNat
theorem below_drewN0 (w : World) (j : Nat) : Below w.heap.size w (w.drewN j) := ⟨rfl, rfl, rfl, Nat.le_refl _, fun _ _ => rfl⟩
theorem refBase_neg (n b : Int) (w : World) (hn : n < 0) :
    Calls Tryd.prog 37 #[.int .i64 n, .int .i64 b] w fun e w' => e = .returned (.string ⟨#[]⟩) ∧ w = w' := by
  go_enter Tryd.func37, Tryd.ntmps37
  go_wp2
  go_ret
  exact ⟨rfl, rfl⟩

theorem refDecimal_any (n : Int) (w : World) (h0 : -9223372036854775808 ≤ n) (h1 : n ≤ 9223372036854775807) :
    Calls Tryd.prog 22 #[.int .i64 n] w fun e w' => e = .returned (.string (fmtS 10 n)) ∧ Below w.heap.size w w' := by
  by_cases hn : n < 0
  · go_enter Tryd.func22, Tryd.ntmps22
    go_wp2_with (go_at_call 37; refine (refBase_neg _ _ _ hn).mono ?_; rintro e w' ⟨rfl, rfl⟩)
    go_ret
    exact ⟨ret_str (by unfold fmtS; rw [if_pos hn]), Below.refl _ _⟩
  · obtain ⟨k, rfl⟩ : ∃ k : Nat, n = k := ⟨n.toNat, by omega⟩
    go_enter Tryd.func22, Tryd.ntmps22
    go_wp2_with (go_at_call 37; refine (refBase10 _ _ (by omega)).mono ?_; rintro e w' ⟨rfl, j, rfl⟩)
    go_ret
    exact ⟨ret_str (by unfold fmtS; rw [if_neg (by omega)]; rfl), below_drewN0 _ _⟩
theorem refHex_any (n : Int) (w : World) (h0 : -9223372036854775808 ≤ n) (h1 : n ≤ 9223372036854775807) :
    Calls Tryd.prog 23 #[.int .i64 n] w fun e w' => e = .returned (.string (fmtS 16 n)) ∧ Below w.heap.size w w' := by
  by_cases hn : n < 0
  · go_enter Tryd.func23, Tryd.ntmps23
    go_wp2_with (go_at_call 37; refine (refBase_neg _ _ _ hn).mono ?_; rintro e w' ⟨rfl, rfl⟩)
    go_ret
    exact ⟨ret_str (by unfold fmtS; rw [if_pos hn]), Below.refl _ _⟩
  · obtain ⟨k, rfl⟩ : ∃ k : Nat, n = k := ⟨n.toNat, by omega⟩
    go_enter Tryd.func23, Tryd.ntmps23
    go_wp2_with (go_at_call 37; refine (refBase16 _ _ (by omega)).mono ?_; rintro e w' ⟨rfl, j, rfl⟩)
    go_ret
    exact ⟨ret_str (by unfold fmtS; rw [if_neg (by omega)]; rfl), below_drewN0 _ _⟩
end Go.Proofs.YtkdiifkkhdkpeaaDoor
namespace Go.Proofs.YtkdiifkkhdkpeaaDoor
open Go.RowKit

/-- A byte of an ID. -/
def idDig : ByteArray := ⟨#[48, 49, 50, 51, 52, 53, 54, 55, 56, 57, 97, 98, 99, 100, 101, 102]⟩
def idB (c : UInt8) : Bool := hasS idDig c
def idS (s : ByteArray) : Bool := decide (s.size = 16) && s.data.toList.all idB
theorem idS_len {s : ByteArray} (h : ¬ s.size = 16) : idS s = false := by unfold idS; rw [decide_eq_false h]; rfl
theorem idS_no {s : ByteArray} {k : Nat} (hlt : k < s.size) (hc : idB s[k] = false) : idS s = false := by
  unfold idS
  rw [Bool.and_eq_false_iff]; right
  rw [Bool.eq_false_iff]; intro h
  have := List.all_eq_true.1 h _ (mem_at s k hlt); rw [hc] at this; cases this
theorem idS_end {s : ByteArray} {k : Nat} (hk : k ≤ s.size) (hlt : ¬ k < s.size) (h : (s.data.toList.take k).all idB = true) : idS s = decide (s.size = 16) := by
  rw [take_all s k hk hlt] at h
  unfold idS; rw [h, Bool.and_true]
end Go.Proofs.YtkdiifkkhdkpeaaDoor
namespace Go.Proofs.YtkdiifkkhdkpeaaDoor
open Go.RowKit

theorem strsIn_twoF (w : World) (n m : ByteArray) (t : TypeId) : StrsIn (w.alloc (.cells #[.string n, .string m] t)) (some ⟨w.heap.size, 0, none⟩) [n, m] := fun j hj => by
  have hj' : j < 2 := by simpa using hj
  match j, hj' with
  | 0, _ => exact ⟨_, rfl, by rw [Addr.add_lit, new_cellF]; rfl⟩
  | 1, _ => exact ⟨_, rfl, by rw [Addr.add_lit, new_cellF]; rfl⟩
theorem two_short {n m : ByteArray} (hn : n.size ≤ maxLen) (hm : m.size ≤ maxLen) : ∀ x ∈ [n, m], x.size ≤ maxLen := fun x hx => by
  simp at hx
  rcases hx with rfl | rfl
  · exact hn
  · exact hm
end Go.Proofs.YtkdiifkkhdkpeaaDoor
namespace Go.Proofs.YtkdiifkkhdkpeaaDoor
open Go.RowKit

/-- What the tables of the library hold, as far as it is read here. -/
def Tabs (w : World) : Prop := Lib.TabIs Tryd.prog w "internal/strconv.uint64pow10" .u64 Lib.pow10Tab ∧ w.cell? ⟨3, 15, none⟩ = some (.int .u8 4) ∧ 0 < w.heap.size

set_option maxHeartbeats 400000 in
theorem tz64_16 (w : World) (h : w.cell? ⟨3, 15, none⟩ = some (.int .u8 4)) :
    Calls Tryd.prog 59 #[.int .u64 16] w fun e w' => e = .returned (.int .i64 4) ∧ w = w' := by
  go_enter Tryd.func59, Tryd.ntmps59
  have b1 : bits BinOp.and IntKind.u64 16 (IntKind.u64.wrap (-16)) = 16 := by kernel_rfl
  have b2 : IntKind.u64.wrap (16 * 285870213051353865) = 4573923408821661840 := by kernel_rfl
  go_wp2
  go_ret
  exact ⟨rfl, rfl⟩

set_option maxHeartbeats 400000 in
theorem tz16_any (w : World) (h : w.cell? ⟨3, 15, none⟩ = some (.int .u8 4)) :
    Calls Tryd.prog 54 #[.int .u64 16] w fun e w' => e = .returned (.int .i64 4) ∧ w = w' := by
  go_enter Tryd.func54, Tryd.ntmps54
  go_wp2_with (go_at_call 59; refine (tz64_16 _ h).mono ?_; rintro e w' ⟨rfl, rfl⟩)
  go_ret
  exact ⟨rfl, rfl⟩

set_option maxHeartbeats 400000 in
theorem pow2_16 (w : World) :
    Calls Tryd.prog 53 #[.int .i64 16] w fun e w' => e = .returned (.bool true) ∧ w = w' := by
  go_enter Tryd.func53, Tryd.ntmps53
  go_wp2
  go_ret
  exact ⟨rfl, rfl⟩

theorem ret_sl_str {a b : ByteArray} {v : Value} (h : a = b) : Ending.returned (.tuple #[v, .string a]) = .returned (.tuple #[v, .string b]) := by rw [h]

def zs65 : Array Value := Array.replicate 65 (.int .u8 0)
theorem zs65_at (j : Nat) (h : j < 65) : zs65[j]? = some (.int .u8 0) := by unfold zs65; rw [Array.getElem?_replicate, if_pos h]
theorem zs65_ne : ¬ zs65 = #[] := by intro h; have := congrArg Array.size h; simp [zs65] at this
theorem zs65_zero (w : World) : (zeroValue 73).run Tryd.prog w = .ok (.agg zs65) w := by kernel_rfl
theorem pow_bd {k n u : Nat} (h : k * 16 ^ n ≤ u) (hu : u < 18446744073709551616) (hk : 1 ≤ k) : n ≤ 15 := by
  rcases Nat.lt_or_ge 15 n with hn | hn
  · have h1 : 16 ^ 16 ≤ 16 ^ n := Nat.pow_le_pow_right (by omega) hn
    have h2 : 16 ^ n ≤ k * 16 ^ n := Nat.le_mul_of_pos_left _ hk
    have h3 : (16 : Nat) ^ 16 = 18446744073709551616 := by decide
    omega
  · exact hn

/-- The block holds 65 bytes, the last of which are t. -/
def Tail (w0 w : World) (i : Nat) (t : List UInt8) : Prop := ∃ l : List UInt8, l.length = 65 ∧ BytesAt w w0.heap.size l ∧ l.drop i = t ∧ Below w0.heap.size w0 w

def dig36 : ByteArray := ⟨#[48, 49, 50, 51, 52, 53, 54, 55, 56, 57, 97, 98, 99, 100, 101, 102, 103, 104, 105, 106, 107, 108, 109, 110, 111, 112, 113, 114, 115, 116, 117, 118, 119, 120, 121, 122]⟩
theorem dig36_fin : ∀ d : Fin 16, dig36.data.toList[d.val]? = some (dgc d.val) := by decide +kernel
theorem dig36_at {d : Nat} (h : d < 16) (hd : d < dig36.size) : dig36[d]'hd = dgc d := by
  have h1 := dig36_fin ⟨d, h⟩
  have h2 : dig36.data.toList[d]? = some (dig36[d]'hd) := by
    have hs : d < dig36.data.toList.length := by simpa using hd
    rw [List.getElem?_eq_getElem hs]; rfl
  rw [h2] at h1; exact Option.some.inj h1
theorem Tail.cell {w0 w : World} {i : Nat} {t : List UInt8} (h : Tail w0 w i t) {j : Nat} (hj : j < 65) : ∃ v, w.cell? ⟨w0.heap.size, j, none⟩ = some v ∧ w.frozen? ⟨w0.heap.size, j, none⟩ = false := by
  obtain ⟨l, h1, h2, _⟩ := h
  obtain ⟨a, b⟩ := h2 j (by omega)
  exact ⟨_, a, b⟩
theorem Tail.put {w0 w : World} {i : Nat} {t : List UInt8} (h : Tail w0 w i t) (hi : 1 ≤ i) (hi2 : i ≤ 65) (c : UInt8) :
    Tail w0 (w.setCell ⟨w0.heap.size, i - 1, none⟩ (.int .u8 (c.toNat : Int))) (i - 1) (c :: t) := by
  obtain ⟨l, h1, h2, h3, h4⟩ := h
  refine ⟨l.set (i - 1) c, by simp [h1], h2.set (by omega) c, ?_, h4.setCell (Nat.le_refl _) _⟩
  rw [List.drop_eq_getElem_cons (by rw [List.length_set]; omega), List.getElem_set_self, show i - 1 + 1 = i by omega, List.drop_set_of_lt (by omega), h3]

theorem Tail.read {w0 w : World} {i : Nat} {t : List UInt8} (h : Tail w0 w i t) {j : Nat} (hj : j < t.length) : w.cell? ⟨w0.heap.size, i + j, none⟩ = some (.int .u8 (t[j].toNat : Int)) := by
  obtain ⟨l, h1, h2, h3, h4⟩ := h
  subst h3
  have hj' : i + j < l.length := by simp at hj; omega
  rw [(h2 (i + j) hj').1, List.getElem_drop]

set_option maxRecDepth 100000 in
set_option maxHeartbeats 1000000 in
theorem formatBits16 (u : Nat) (w : World) (hu : u < 18446744073709551616) (h : w.cell? ⟨3, 15, none⟩ = some (.int .u8 4)) :
    Calls Tryd.prog 42 #[.slice none 0 0, .int .u64 u, .int .i64 16, .bool false, .bool false] w fun e w' => e = .returned (.tuple #[.slice none 0 0, .string (numeral 16 u)]) ∧ Below w.heap.size w w' := by
  have hlt := lt_cell h
  have hz := zs65_zero
  have hne := zs65_ne
  have HT : Hid (Tail w (w.alloc (.cells zs65 73)) 65 []) := by
    refine Lib.hid ⟨List.replicate 65 0, by simp, ?_, by simp, (Below.refl _ _).alloc (Nat.le_refl _) _⟩
    intro j hj
    have hj' : j < 65 := by simpa using hj
    refine ⟨?_, World.frozen?_alloc_new _ _ _ _⟩
    rw [World.cell?_alloc_new, zs65_at j hj', List.getElem_replicate]; rfl
  have hc : (w.alloc (.cells zs65 73)).cell? ⟨3, 15, none⟩ = some (.int .u8 4) := by rw [World.cell?_alloc_past _ _ _ hlt]; exact h
  have HC := Lib.hid hc
  clear hc h
  go_enter Tryd.func42, Tryd.ntmps42
  go_wp2_with (first | (go_at_call 53; refine (pow2_16 _).mono ?_; rintro e w' ⟨rfl, rfl⟩) | (go_at_call 54; refine (tz16_any _ HC.out).mono ?_; rintro e w' ⟨rfl, rfl⟩))
  go_loopw [1, 13] (fun x y wr => ∃ (k i : Nat) (t : List UInt8), x = .int .u64 k ∧ y = .int .i64 i ∧ t.length + i = 65 ∧ k ≤ u ∧ Hid (k * 16 ^ t.length ≤ u ∧ (t = [] ∨ 1 ≤ k) ∧ digs 16 u = digs 16 k ++ t ∧ Tail w wr i t)) (fun x _ _ => (intOf x).toNat)
  case atStart => exact ⟨u, 65, [], rfl, rfl, by simp, Nat.le_refl _, Lib.hid ⟨by simp, .inl rfl, by simp, HT.out⟩⟩
  case round =>
    obtain ⟨k, i, t, rfl, rfl, hi, hk, HH⟩ := hrel
    have h1 := HH.out.1
    have h15 : t.length ≤ 15 := by
      rcases HH.out.2.1 with e | e
      · rw [e]; simp
      · exact pow_bd h1 hu e
    clear h1
    obtain ⟨v, hcell, hfz⟩ := HH.out.2.2.2.cell (j := i - 1) (by omega)
    have hx : ∀ d (hd16 : d < 16) hd, (⟨#[48, 49, 50, 51, 52, 53, 54, 55, 56, 57, 97, 98, 99, 100, 101, 102, 103, 104, 105, 106, 107, 108, 109, 110, 111, 112, 113, 114, 115, 116, 117, 118, 119, 120, 121, 122]⟩ : ByteArray)[d]'hd = dgc d := fun d hd16 hd => dig36_at hd16 hd
    by_cases h16 : 16 ≤ k
    · obtain ⟨d, hd⟩ : ∃ d : Nat, k % 16 = d := ⟨_, rfl⟩
      have hd9 : d < 16 := by omega
      have hb : bits BinOp.and IntKind.u64 (k : Int) 15 = (d : Int) := by
        rw [show (15 : Int) = ((15 : Nat) : Int) from rfl, bits_and_u64_nat _ _ (by omega) (by omega), ← hd]
        congr 1
        exact Nat.and_two_pow_sub_one_eq_mod k 4
      have HD := Lib.hid hd
      have hxd := hx d hd9
      clear hd hx
      go_wp2
      all_goals go_roundw
      case rel =>
        obtain ⟨a1, a2, a3, a4⟩ := HH.out
        have hd := HD.out
        refine ⟨k / 16, i - 1, dgc d :: t, congrArg (Value.int .u64) (by omega), congrArg (Value.int .i64) (by omega), by simp; omega, by omega, Lib.hid ⟨?_, .inr (by omega), ?_, a4.put (by omega) (by omega) _⟩⟩
        · rw [List.length_cons, Nat.pow_succ, ← Nat.mul_assoc, Nat.mul_right_comm]
          exact Nat.le_trans (Nat.mul_le_mul_right _ (by omega)) a1
        · rw [a3, digs_big (by omega) (show ¬ k < 16 by omega), hd]; simp
      case measure => simp [intOf]; omega
    · have hk16 : k < 16 := by omega
      have hxd := hx k hk16
      clear hx
      have hal : Tryd.prog.arrayLen 73 = 65 := by simp [Program.arrayLen, Tryd.underlying73]
      have hsl : ∀ W, (Instr.sliceAt 73 (.pointer (some ⟨w.heap.size, 0, none⟩)) (some (.int .i64 ((i : Int) - 1))) none none).run Tryd.prog W = .ok (.slice (some ⟨w.heap.size, i - 1, none⟩) (t.length + 1) (t.length + 1)) W := fun W => by
        rw [run_sliceAt_array_l W 73 ⟨w.heap.size, 0, none⟩ (by simp [Program.arrayLen, Program.elem, Tryd.underlying73]) .i64 _ (by omega) (by rw [hal]; omega)]
        go_simp
        omega
      have hT := HH.out.2.2.2.put (by omega) (by omega) (dgc k)
      have hcv : (convert 43 9 (.slice (some ⟨w.heap.size, i - 1, none⟩) (t.length + 1) (t.length + 1))).run Tryd.prog (wr.setCell ⟨w.heap.size, i - 1, none⟩ (.int .u8 ((dgc k).toNat : Int))) = .ok (.string ⟨(dgc k :: t).toArray⟩) (wr.setCell ⟨w.heap.size, i - 1, none⟩ (.int .u8 ((dgc k).toNat : Int))) :=
        run_convert_bytes_back (P := Tryd.prog) _ 43 9 5 ⟨w.heap.size, i - 1, none⟩ (t.length + 1) (dgc k :: t) Tryd.underlying43 Tryd.underlying5 Tryd.underlying9 (fun j hj => by rw [Lib.add_plain]; exact hT.read hj)
      have HT := Lib.hid hT
      clear hT hal
      go_wp2
      go_ret2
      obtain ⟨a1, a2, a3, a4⟩ := HH.out
      obtain ⟨_, _, _, _, hb⟩ := HT.out
      refine ⟨ret_sl_str ?_, hb⟩
      unfold numeral
      rw [a3, digs_small hk16]; rfl

theorem grow_below (w : World) (os : Array Obj) : Below w.heap.size w (Sort.grow w os) :=
  ⟨rfl, rfl, rfl, by simp [Sort.grow], fun k hk => by simp [Sort.grow, Array.getElem?_append_left hk]⟩

set_option maxHeartbeats 1000000 in
theorem formatInt16 (u : Nat) (w : World) (hu : u < 9223372036854775808) (h : w.cell? ⟨3, 15, none⟩ = some (.int .u8 4)) :
    Calls Tryd.prog 55 #[.int .i64 u, .int .i64 16] w fun e w' => e = .returned (.string (numeral 16 u)) ∧ Below w.heap.size w w' := by
  have HC := Lib.hid h
  clear h
  have h1 : Calls Tryd.prog 60 #[.int .i64 u, .int .i64 16] w fun e w' => e = .returned (.string (numeral 16 u)) ∧ Below w.heap.size w w' := by
    have hwr : IntKind.u64.wrap (u : Int) = (u : Int) := by rw [IntKind.wrap_u64]; omega
    go_enter Tryd.func60, Tryd.ntmps60
    go_wp2_with (go_at_call 42; refine (formatBits16 u _ (by omega) HC.out).mono ?_; rintro e w' ⟨rfl, hb⟩)
    go_ret
    exact ⟨rfl, hb⟩
  go_enter Tryd.func55, Tryd.ntmps55
  go_wp2_with (go_at_call 60; refine h1.mono ?_; rintro e w' ⟨rfl, hb⟩)
  go_ret
  exact ⟨rfl, hb⟩

theorem formatInt10 (u : Nat) (w : World) (hu : u < 9223372036854775808) (h : Lib.TabIs Tryd.prog w "internal/strconv.uint64pow10" .u64 Lib.pow10Tab) :
    Calls Tryd.prog 55 #[.int .i64 u, .int .i64 10] w fun e w' => e = .returned (.string (numeral 10 u)) ∧ Below w.heap.size w w' := by
  refine (Any.strconv_FormatInt_10 Tryd.laysM173 (u : Int) (by omega) (by omega) w h).mono ?_
  rintro e w' ⟨rfl, k, os, rfl⟩
  refine ⟨ret_str ?_, (below_drewN0 w k).trans (show Below w.heap.size (w.drewN k) _ from grow_below (w.drewN k) os)⟩
  unfold numeral
  rw [digs_dec, Lib.itoa_nonneg]

theorem format_any (n : Int) (b : Int) (w : World) (hb : b = 10 ∨ b = 16) (h0 : -9223372036854775808 ≤ n) (h1 : n ≤ 9223372036854775807) (ht : Tabs w) :
    Calls Tryd.prog 43 #[.int .i64 n, .int .i64 b] w fun e w' => e = .returned (.string (fmtS b.toNat n)) ∧ Below w.heap.size w w' := by
  by_cases hn : n < 0
  · go_enter Tryd.func43, Tryd.ntmps43
    go_wp2
    go_ret
    exact ⟨ret_str (by unfold fmtS; rw [if_pos hn]), Below.refl _ _⟩
  · obtain ⟨u, rfl⟩ : ∃ u : Nat, n = u := ⟨n.toNat, by omega⟩
    obtain ⟨t1, t2, t3⟩ := ht
    have T1 := Lib.hid t1
    have T2 := Lib.hid t2
    clear t1 t2
    rcases hb with rfl | rfl
    · go_enter Tryd.func43, Tryd.ntmps43
      go_wp2_with (go_at_call 55; refine (formatInt10 u _ (by omega) T1.out).mono ?_; rintro e w' ⟨rfl, hb⟩)
      go_ret
      exact ⟨ret_str (by unfold fmtS; rw [if_neg (by omega)]; rfl), hb⟩
    · go_enter Tryd.func43, Tryd.ntmps43
      go_wp2_with (go_at_call 55; refine (formatInt16 u _ (by omega) T2.out).mono ?_; rintro e w' ⟨rfl, hb⟩)
      go_ret
      exact ⟨ret_str (by unfold fmtS; rw [if_neg (by omega)]; rfl), hb⟩

theorem decimal_any (n : Int) (w : World) (h0 : -9223372036854775808 ≤ n) (h1 : n ≤ 9223372036854775807) (ht : Tabs w) :
    Calls Tryd.prog 28 #[.int .i64 n] w fun e w' => e = .returned (.string (fmtS 10 n)) ∧ Below w.heap.size w w' := by
  have HT := Lib.hid ht
  clear ht
  go_enter Tryd.func28, Tryd.ntmps28
  go_wp2_with (go_at_call 43; refine (format_any _ _ _ (.inl rfl) h0 h1 HT.out).mono ?_; rintro e w' ⟨rfl, hb⟩)
  go_ret
  exact ⟨rfl, hb⟩
theorem tabs_below {w w' : World} (h : Tabs w) (hb : Below w.heap.size w w') : Tabs w' := by
  obtain ⟨h1, h2, h3⟩ := h
  refine ⟨?_, below_cell hb h2, Nat.lt_of_lt_of_le h3 hb.size⟩
  have hg : Tryd.prog.globalNamed "internal/strconv.uint64pow10" = some 0 := by kernel_rfl
  unfold Lib.TabIs World.var? at *
  rw [hg] at h1 ⊢
  simp only [Option.bind_some] at h1 ⊢
  rw [hb.block _ h3]; exact h1
end Go.Proofs.YtkdiifkkhdkpeaaDoor
namespace Go.Proofs.YtkdiifkkhdkpeaaDoor
open Go.RowKit

theorem digs_len {b : Nat} (hb : 2 ≤ b) : ∀ (k n : Nat), n < 2 ^ k → 1 ≤ k → (digs b n).length ≤ k
  | 0, n, _, h => absurd h (by omega)
  | k + 1, n, hn, _ => by
    by_cases h : n < b
    · rw [digs_small h]; simp
    · rw [digs_big hb h, List.length_append]
      have h1 : n / b ≤ n / 2 := Nat.div_le_div_left hb (by omega)
      have h2 : n / 2 < 2 ^ k := by rw [Nat.pow_succ] at hn; omega
      have h3 : 1 ≤ n / b := by
        have : b / b ≤ n / b := Nat.div_le_div_right (by omega)
        rw [Nat.div_self (by omega)] at this; exact this
      have hk : 1 ≤ k := by
        match k, h2 with
        | 0, h2 => simp at h2; omega
        | k + 1, _ => omega
      have := digs_len hb k (n / b) (by omega) hk
      simp; omega
theorem fmtS_size {b : Nat} (hb : 2 ≤ b) (n : Int) (h1 : n ≤ 9223372036854775807) : (fmtS b n).size ≤ 64 := by
  unfold fmtS; split
  · decide
  · show (digs b n.toNat).toArray.size ≤ 64
    simpa using digs_len hb 64 n.toNat (by have : (2 : Nat) ^ 64 = 18446744073709551616 := by decide
                                           omega) (by omega)
theorem fmtS_max {b : Nat} (hb : 2 ≤ b) (n : Int) (h1 : n ≤ 9223372036854775807) : (fmtS b n).size ≤ maxLen := Nat.le_trans (fmtS_size hb n h1) (by decide)
end Go.Proofs.YtkdiifkkhdkpeaaDoor
namespace Go.Proofs.YtkdiifkkhdkpeaaDoor
open Go.RowKit

theorem idB_has (c : UInt8) : decide (0 ≤ Lib.indexByte idDig.data.toList c) = idB c := indexByte_has idDig c

set_option maxHeartbeats 1000000 in
theorem ckID_any (s : ByteArray) (w : World) (hs : s.size ≤ maxLen) :
    Calls Tryd.prog 9 #[.string s] w fun e w' => e = .returned (.bool (idS s)) ∧ w = w' := by
  unfold maxLen at hs
  by_cases h16 : s.size = 16
  · have H16 := Box.mk h16
    have e16 : ((s.size : Int) != 16) = false := by rw [h16]; rfl
    clear h16
    go_enter Tryd.func9, Tryd.ntmps9
    go_wp2
    go_loop [9] (fun i => ∃ k : Nat, k ≤ s.size ∧ i = .int .i64 k ∧ Box ((s.data.toList.take k).all idB = true)) (fun i => s.size - (intOf i).toNat)
    case atStart => exact ⟨0, Nat.zero_le _, rfl, ⟨by simp⟩⟩
    case round =>
      obtain ⟨k, hk, rfl, HP⟩ := hrel
      by_cases hlt : k < s.size
      · have HI := Box.mk (idB_has s[k])
        obtain ⟨z, hz⟩ : ∃ z, Lib.indexByte idDig.data.toList s[k] = z := ⟨_, rfl⟩
        have HZ := Box.mk hz
        rw [hz] at HI
        clear hz
        by_cases hc : idB s[k] = true
        · have h0 : 0 ≤ z := by have := HI.out; rw [hc] at this; simpa using this
          have HC := Box.mk hc
          clear hc
          go_wp2_with (go_at_call 24; refine (indexByte_any idDig _ _).mono ?_; rintro e w' ⟨rfl, rfl⟩; rw [HZ.out])
          go_round
          case rel => exact ⟨k + 1, by omega, by go_num, ⟨by rw [take_snoc s k hlt, List.all_append, HP.out]; simpa using HC.out⟩⟩
          case measure => simp [intOf]; omega
        · have hc' : idB s[k] = false := by simpa using hc
          have h0 : z < 0 := by have := HI.out; rw [hc'] at this; simpa using this
          have HC := Box.mk hc'
          clear hc hc'
          go_wp2_with (go_at_call 24; refine (indexByte_any idDig _ _).mono ?_; rintro e w' ⟨rfl, rfl⟩; rw [HZ.out])
          go_ret
          exact ⟨ret_bool (idS_no hlt HC.out).symm, rfl⟩
      · have HE := Box.mk (idS_end hk hlt HP.out)
        go_wp2
        go_ret
        exact ⟨ret_bool (by rw [HE.out, H16.out]; rfl), rfl⟩
  · have HR := Box.mk (idS_len h16)
    have e16 : ((s.size : Int) != 16) = true := by rw [bne_iff_ne]; omega
    clear h16
    go_enter Tryd.func9, Tryd.ntmps9
    go_wp2
    go_ret
    exact ⟨ret_bool HR.out.symm, rfl⟩

end Go.Proofs.YtkdiifkkhdkpeaaDoor
namespace Go.Proofs.YtkdiifkkhdkpeaaDoor
open Go.RowKit

theorem ofL_size (l : List UInt8) : (ofL l).size = l.length := by
  show (ofL l).data.size = _
  simp [ofL]
end Go.Proofs.YtkdiifkkhdkpeaaDoor
namespace Go.Proofs.YtkdiifkkhdkpeaaDoor
open Go.RowKit

def max0 (a : Int) : Int := if 0 > a then 0 else a
theorem max0_ge (a : Int) : 0 ≤ max0 a := by unfold max0; split <;> omega
theorem max0_le {a : Int} (h : a ≤ 9223372036854775807) : max0 a ≤ 9223372036854775807 := by unfold max0; split <;> omega
def hexD (h k : Nat) : Nat := h / 2 ^ (60 - 4 * k) % 16
/-- The first k digits of a hash. -/
def idN (h k : Nat) : List UInt8 := (List.range k).map fun i => dgc (hexD h i)
theorem idN_succ (h k : Nat) : idN h (k + 1) = idN h k ++ [dgc (hexD h k)] := by
  unfold idN
  rw [List.range_succ, List.map_append]; rfl
theorem idN_len (h k : Nat) : (idN h k).length = k := by unfold idN; simp
theorem hex_one {d : Nat} (h : d < 16) : fmtS 16 (d : Int) = ofL [dgc d] := by
  have hh : ∀ m : Fin 16, fmtS 16 (m.val : Int) = ofL [dgc m.val] := by decide +kernel
  exact hh ⟨d, h⟩
theorem ofL_snoc (l : List UInt8) (c : UInt8) : ofL l ++ ofL [c] = ofL (l ++ [c]) := by
  apply ba_ext
  rw [ba_app_list, ofL_list, ofL_list, ofL_list]
theorem refSum_twoX (s1 s2 : ByteArray) (a : Addr) (c : Nat) (w : World) (h1 : s1.size ≤ maxLen) (h2 : s2.size ≤ maxLen) (h : StrsIn w (some a) [s1, s2]) :
    Calls Tryd.prog 21 #[.slice (some a) 2 c] w fun e w' => e = .returned (.int .u64 (sumL [s1, s2] : Nat)) ∧ Below w.heap.size w w' :=
  refSum_any [s1, s2] (some a) c w (by show 2 ≤ maxLen; decide) (two_short h1 h2) h
theorem sumL_two_lt (s1 s2 : ByteArray) : sumL [s1, s2] < 18446744073709551616 := by
  unfold sumL; rw [List.foldl_cons, List.foldl_cons, List.foldl_nil]; exact sumN_lt _ _
/-- The ID of two numbers. -/
def idS2 (a b : Int) : ByteArray := ofL (idN (sumL [fmtS 10 (max0 a), fmtS 10 (max0 b)]) 16)

set_option maxRecDepth 100000 in
set_option maxHeartbeats 2000000 in
theorem refNewIDx_any (a b : Int) (w : World) (ha1 : a ≤ 9223372036854775807) (hb1 : b ≤ 9223372036854775807) :
    Calls Tryd.prog 8 #[.int .i64 a, .int .i64 b] w fun e w' => e = .returned (.string (idS2 a b)) ∧ Below w.heap.size w w' := by
  obtain ⟨r, hr⟩ : ∃ r, r = idS2 a b := ⟨_, rfl⟩
  have HR := Box.mk hr
  rw [← hr]
  have hp : ∀ (ts : Array TypeId) (t : TypeId) (W : World), (Builtin.max_ ts t #[.int .i64 a, .int .i64 0]).run Tryd.prog W = .ok (.int .i64 (max0 a)) W := fun ts t W => by rw [run_max_int2]; rfl
  have hq : ∀ (ts : Array TypeId) (t : TypeId) (W : World), (Builtin.max_ ts t #[.int .i64 b, .int .i64 0]).run Tryd.prog W = .ok (.int .i64 (max0 b)) W := fun ts t W => by rw [run_max_int2]; rfl
  have P := Box.mk (show 0 ≤ max0 a ∧ max0 a ≤ 9223372036854775807 ∧ 0 ≤ max0 b ∧ max0 b ≤ 9223372036854775807 from ⟨max0_ge a, max0_le ha1, max0_ge b, max0_le hb1⟩)
  unfold idS2 at HR
  clear hr
  generalize max0 a = p at *
  generalize max0 b = q at *
  go_enter Tryd.func8, Tryd.ntmps8
  go_wp2_with fail
  refine (refDecimal_any p _ (by have := P.out; omega) (by have := P.out; omega)).mono ?_
  rintro e w1 ⟨rfl, hb1'⟩
  have HB1 := Box.mk hb1'
  clear hb1'
  go_wp2_with fail
  refine (refDecimal_any q _ (by have := P.out; omega) (by have := P.out; omega)).mono ?_
  rintro e w2 ⟨rfl, hb2⟩
  have HB2 := Box.mk (below_trans HB1.out hb2)
  have HZ := Box.mk (And.intro (fmtS_max (b := 10) (by decide) p (by have := P.out; omega)) (fmtS_max (b := 10) (by decide) q (by have := P.out; omega)))
  clear hb2 HB1 hp hq
  generalize fmtS 10 p = s1 at *
  generalize fmtS 10 q = s2 at *
  go_wp2_with fail
  refine (refSum_twoX s1 s2 _ _ _ HZ.out.1 HZ.out.2 (strsIn_twoF w2 s1 s2 _)).mono ?_
  rintro e w3 ⟨rfl, hb3⟩
  have hh := sumL_two_lt s1 s2
  have HB3 := Box.mk (below_trans (below_twoF HB2.out (.cells #[.string s1, .string s2] 9)) hb3)
  clear hb3 HB2 HZ
  generalize sumL [s1, s2] = h at *
  go_wp2_with fail
  go_loopw [6, 7] (fun v iv wr => ∃ k : Nat, k ≤ 16 ∧ iv = .int .i64 k ∧ ∃ s : ByteArray, v = .string s ∧ s.size ≤ 1000 ∧ Box (s = ofL (idN h k) ∧ Below w.heap.size w wr)) (fun _ iv _ => 16 - (intOf iv).toNat)
  case atStart => exact ⟨0, Nat.zero_le _, rfl, ⟨#[]⟩, rfl, by decide, ⟨rfl, HB3.out⟩⟩
  case round =>
    clear HB3
    obtain ⟨k, hk, rfl, s, rfl, hs, HM⟩ := hrel
    by_cases hlt : k < 16
    · go_wp2_with fail
      obtain ⟨d, hd, hd15, hdx⟩ : ∃ d : Nat, wrap64 (bits .and .u64 ((h : Int) / 2 ^ (60 - 4 * k)) 15) = d ∧ d < 16 ∧ d = hexD h k := by
        have e1 : ((h : Int) / 2 ^ (60 - 4 * k)) = ((h / 2 ^ (60 - 4 * k) : Nat) : Int) := by push_cast; rfl
        have h2 : h / 2 ^ (60 - 4 * k) < 18446744073709551616 := Nat.lt_of_le_of_lt (Nat.div_le_self _ _) hh
        have h3 := bits_and_u64_nat (h / 2 ^ (60 - 4 * k)) 15 h2 (by decide)
        have h5 : ∀ x : Nat, x &&& 15 = x % 16 := fun x => Nat.and_two_pow_sub_one_eq_mod x 4
        unfold hexD
        refine ⟨h / 2 ^ (60 - 4 * k) % 16, ?_, by omega, rfl⟩
        rw [e1, show (15 : Int) = ((15 : Nat) : Int) from rfl, h3, h5]
        generalize h / 2 ^ (60 - 4 * k) = x at *
        simp only [wrap64]; omega
      rw [hd]
      have HD := Box.mk (hex_one hd15)
      have HX := Box.mk hdx
      clear hd hdx
      refine (refHex_any (d : Int) wr (by omega) (by omega)).mono ?_
      rintro e w4 ⟨rfl, hb4⟩
      have hts : (fmtS 16 (d : Int)).size ≤ 10 := by rw [HD.out, ofL_size]; show 1 ≤ 10; decide
      have HM2 := Box.mk (show s ++ fmtS 16 (d : Int) = ofL (idN h (k + 1)) ∧ Below w.heap.size w w4 from ⟨by rw [HM.out.1, HD.out, ofL_snoc, idN_succ, HX.out], below_trans HM.out.2 hb4⟩)
      clear hb4 HM HD
      generalize fmtS 16 (d : Int) = t at *
      go_wp2_with fail
      go_roundw
      case rel => exact ⟨k + 1, by omega, by go_num, s ++ t, rfl, by rw [HM2.out.1, ofL_size, idN_len]; omega, HM2⟩
      case measure => simp [intOf]; omega
    · obtain rfl : k = 16 := by omega
      go_wp2_with fail
      go_ret
      exact ⟨ret_str (by rw [HM.out.1, HR.out]), HM.out.2⟩
end Go.Proofs.YtkdiifkkhdkpeaaDoor
namespace Go.Proofs.YtkdiifkkhdkpeaaDoor
open Go.RowKit

/-- All k hexadecimal digits of a number, with leading zeros. -/
def padN (k h : Nat) : List UInt8 := (List.range k).map fun i => dgc (h / 16 ^ (k - 1 - i) % 16)
theorem padN_succ (k h : Nat) : padN (k + 1) h = padN k (h / 16) ++ [dgc (h % 16)] := by
  unfold padN
  rw [List.range_succ, List.map_append]
  congr 1
  · refine List.map_congr_left fun i hi => ?_
    have hi' : i < k := List.mem_range.1 hi
    rw [Nat.div_div_eq_div_mul, show k + 1 - 1 - i = (k - 1 - i) + 1 by omega, Nat.pow_succ']
  · rw [List.map_cons, List.map_nil, show k + 1 - 1 - k = 0 by omega, Nat.pow_zero, Nat.div_one]
theorem pad_digs : ∀ (k h : Nat), h < 16 ^ (k + 1) → (digs 16 h).length ≤ k + 1 ∧ padN (k + 1) h = List.replicate (k + 1 - (digs 16 h).length) 48 ++ digs 16 h
  | 0, h, hh => by
    have h16 : h < 16 := by simpa using hh
    rw [digs_small h16, padN_succ, Nat.mod_eq_of_lt h16]
    exact ⟨Nat.le_refl _, rfl⟩
  | k + 1, h, hh => by
    rw [padN_succ]
    by_cases h16 : h < 16
    · obtain ⟨h1, h2⟩ := pad_digs k 0 (Nat.pow_pos (by decide))
      rw [digs_small (show 0 < 16 by decide)] at h2
      rw [Nat.div_eq_of_lt h16, h2, digs_small h16, Nat.mod_eq_of_lt h16]
      refine ⟨by simp, ?_⟩
      have e : [dgc 0] = List.replicate 1 (48 : UInt8) := by decide
      rw [e, List.replicate_append_replicate]
      rfl
    · obtain ⟨h1, h2⟩ := pad_digs k (h / 16) (by rw [Nat.pow_succ] at hh; omega)
      rw [digs_big (by decide) h16, h2]
      refine ⟨by rw [List.length_append]; simpa using h1, ?_⟩
      rw [List.length_append, List.append_assoc, show k + 1 + 1 - ((digs 16 (h / 16)).length + [dgc (h % 16)].length) = k + 1 - (digs 16 (h / 16)).length by simp only [List.length_cons, List.length_nil]; omega]
theorem idN_pad (h : Nat) : idN h 16 = padN 16 h := by
  unfold idN padN hexD
  refine List.map_congr_left fun i hi => ?_
  have hi' : i < 16 := List.mem_range.1 hi
  have e : 2 ^ (60 - 4 * i) = 16 ^ (16 - 1 - i) := by
    rw [show (16 : Nat) = 2 ^ 4 from rfl, ← Nat.pow_mul]
    congr 1; omega
  rw [e]
theorem rep48 : ∀ c : Nat, Lib.repeatL [48] c = List.replicate c (48 : UInt8)
  | 0 => rfl
  | c + 1 => by rw [show Lib.repeatL [48] (c + 1) = 48 :: Lib.repeatL [48] c from rfl, rep48 c, List.replicate_succ]
/-- The digits of a hash behind as many zeros as 16 digits want. -/
theorem id_zeros (h : Nat) (hh : h < 18446744073709551616) : ∃ c : Nat, c ≤ 16 ∧ (16 : Int) - (numeral 16 h).size = c ∧ (numeral 16 h).size ≤ 16 ∧ (⟨(List.replicate c (48 : UInt8)).toArray⟩ : ByteArray) ++ numeral 16 h = ofL (idN h 16) := by
  obtain ⟨h1, h2⟩ := pad_digs 15 h (by rw [show 16 ^ (15 + 1) = 18446744073709551616 by decide]; exact hh)
  have hs : (numeral 16 h).size = (digs 16 h).length := by show (digs 16 h).toArray.size = _; simp
  rw [hs]
  refine ⟨16 - (digs 16 h).length, by omega, by omega, h1, ?_⟩
  rw [idN_pad]
  apply ba_ext
  rw [ba_app_list, ofL_list, h2]
  show _ ++ (digs 16 h).toArray.toList = _
  simp

theorem repX : Builder.Extra Tryd.prog Tryd.lays105_ren where -- 20
  sizeBuilder := by kernel_rfl
  liesBuilder := by kernel_rfl
  t5 := Tryd.underlying5
  a5 := Tryd.isAgg5
  z5 := Tryd.sizeOf5
  v5 := Tryd.zeroValue5
  infoByte := Tryd.info5
  cellsByte := by kernel_rfl
  sizeByte := by kernel_rfl
  neB5 := by decide
theorem zeros_any (c : Nat) (w : World) (hc : c ≤ 16) :
    Calls Tryd.prog 20 #[.string ⟨#[48]⟩, .int .i64 c] w fun e w' => e = .returned (.string ⟨(List.replicate c (48 : UInt8)).toArray⟩) ∧ Below w.heap.size w w' := by
  refine (Any.strings_Repeat Tryd.lays105 repX ⟨#[48]⟩ c w (by omega) (by show 1 * c ≤ _; omega)).mono ?_
  rintro e w' ⟨rfl, hb⟩
  refine ⟨ret_str ?_, hb⟩
  rw [show (⟨#[48]⟩ : ByteArray).data.toList = [48] from rfl, rep48]

theorem formatUint16 (u : Nat) (w : World) (hu : u < 18446744073709551616) (h : w.cell? ⟨3, 15, none⟩ = some (.int .u8 4)) :
    Calls Tryd.prog 17 #[.int .u64 u, .int .i64 16] w fun e w' => e = .returned (.string (numeral 16 u)) ∧ Below w.heap.size w w' := by
  have HC := Lib.hid h
  clear h
  have h1 : Calls Tryd.prog 26 #[.int .u64 u, .int .i64 16] w fun e w' => e = .returned (.string (numeral 16 u)) ∧ Below w.heap.size w w' := by
    go_enter Tryd.func26, Tryd.ntmps26
    go_wp2_with (go_at_call 42; refine (formatBits16 u _ hu HC.out).mono ?_; rintro e w' ⟨rfl, hb⟩)
    go_ret
    exact ⟨rfl, hb⟩
  go_enter Tryd.func17, Tryd.ntmps17
  go_wp2_with (go_at_call 26; refine h1.mono ?_; rintro e w' ⟨rfl, hb⟩)
  go_ret
  exact ⟨rfl, hb⟩

set_option maxHeartbeats 1000000 in
theorem bkDecimal_any (a : Int) (w : World) (ha1 : a ≤ 9223372036854775807) (ht : Tabs w) :
    Calls Tryd.prog 19 #[.int .i64 a] w fun e w' => e = .returned (.string (fmtS 10 (max0 a))) ∧ Below w.heap.size w w' := by
  have HT := Lib.hid ht
  clear ht
  have hp : ∀ (ts : Array TypeId) (t : TypeId) (W : World), (Builtin.max_ ts t #[.int .i64 a, .int .i64 0]).run Tryd.prog W = .ok (.int .i64 (max0 a)) W := fun ts t W => by rw [run_max_int2]; rfl
  have P := Box.mk (show 0 ≤ max0 a ∧ max0 a ≤ 9223372036854775807 from ⟨max0_ge a, max0_le ha1⟩)
  generalize max0 a = p at *
  go_enter Tryd.func19, Tryd.ntmps19
  go_wp2_with fail
  refine (decimal_any p _ (by have := P.out; omega) (by have := P.out; omega) HT.out).mono ?_
  rintro e w1 ⟨rfl, hb⟩
  go_wp2_with fail
  go_ret
  exact ⟨rfl, hb⟩

theorem sum_twoX (s1 s2 : ByteArray) (a : Addr) (c : Nat) (w : World) (h1 : s1.size ≤ maxLen) (h2 : s2.size ≤ maxLen) (h : StrsIn w (some a) [s1, s2]) :
    Calls Tryd.prog 18 #[.slice (some a) 2 c] w fun e w' => e = .returned (.int .u64 (sumL [s1, s2] : Nat)) ∧ Below w.heap.size w w' :=
  sum_any [s1, s2] (some a) c w (by show 2 ≤ maxLen; decide) (two_short h1 h2) h

set_option maxRecDepth 100000 in
set_option maxHeartbeats 2000000 in
theorem bkNewID_any (a b : Int) (w : World) (ha1 : a ≤ 9223372036854775807) (hb1 : b ≤ 9223372036854775807) (ht : Tabs w) :
    Calls Tryd.prog 7 #[.int .i64 a, .int .i64 b] w fun e w' => e = .returned (.string (idS2 a b)) ∧ Below w.heap.size w w' := by
  obtain ⟨r, hr⟩ : ∃ r, r = idS2 a b := ⟨_, rfl⟩
  have HR := Box.mk hr
  rw [← hr]
  have HT := Lib.hid ht
  have P := Box.mk (show 0 ≤ max0 a ∧ max0 a ≤ 9223372036854775807 ∧ 0 ≤ max0 b ∧ max0 b ≤ 9223372036854775807 from ⟨max0_ge a, max0_le ha1, max0_ge b, max0_le hb1⟩)
  clear ht hr
  unfold idS2 at HR
  go_enter Tryd.func7, Tryd.ntmps7
  go_wp2_with fail
  refine (bkDecimal_any a _ ha1 HT.out).mono ?_
  rintro e w1 ⟨rfl, hb1'⟩
  have HB1 := Box.mk hb1'
  clear hb1'
  go_wp2_with fail
  refine (bkDecimal_any b _ hb1 (tabs_below HT.out HB1.out)).mono ?_
  rintro e w2 ⟨rfl, hb2⟩
  have HB2 := Box.mk (below_trans HB1.out hb2)
  have HZ := Box.mk (And.intro (fmtS_max (b := 10) (by decide) (max0 a) (by have := P.out; omega)) (fmtS_max (b := 10) (by decide) (max0 b) (by have := P.out; omega)))
  clear hb2 HB1
  generalize fmtS 10 (max0 a) = s1 at *
  generalize fmtS 10 (max0 b) = s2 at *
  go_wp2_with fail
  refine (sum_twoX s1 s2 _ _ _ HZ.out.1 HZ.out.2 (strsIn_twoF w2 s1 s2 _)).mono ?_
  rintro e w3 ⟨rfl, hb3⟩
  have hh := sumL_two_lt s1 s2
  have HB3 := Box.mk (below_trans (below_twoF HB2.out (.cells #[.string s1, .string s2] 9)) hb3)
  clear hb3 HB2 HZ
  generalize sumL [s1, s2] = h at *
  go_wp2_with fail
  refine (formatUint16 h _ hh (tabs_below HT.out HB3.out).2.1).mono ?_
  rintro e w4 ⟨rfl, hb4⟩
  have HB4 := Box.mk (below_trans HB3.out hb4)
  obtain ⟨c, hc, hcd, hd, hid⟩ := id_zeros h hh
  have HID := Box.mk hid
  have HC := Box.mk hcd
  clear hb4 HB3 hid hcd
  generalize numeral 16 h = d at *
  go_wp2_with fail
  have hcd := HC.out
  rw [hcd]
  clear hcd
  refine (zeros_any c _ hc).mono ?_
  rintro e w5 ⟨rfl, hb5⟩
  have HB5 := Box.mk (below_trans HB4.out hb5)
  have hz : (⟨(List.replicate c (48 : UInt8)).toArray⟩ : ByteArray).size ≤ 16 := by show (List.replicate c (48 : UInt8)).toArray.size ≤ 16; simpa using hc
  clear hb5 HB4
  generalize (⟨(List.replicate c (48 : UInt8)).toArray⟩ : ByteArray) = z at *
  go_wp2_with fail
  go_ret
  exact ⟨ret_str (by rw [HID.out, HR.out]), HB5.out⟩

/-- The bucket of two strings. -/
def bktN (s1 s2 : ByteArray) : Nat := sumL [s1, s2] % 10000
theorem bktN_lt (s1 s2 : ByteArray) : bktN s1 s2 < 10000 := Nat.mod_lt _ (by decide)
set_option maxHeartbeats 1000000 in
theorem bkOf_any (s1 s2 : ByteArray) (w : World) (h1 : s1.size ≤ maxLen) (h2 : s2.size ≤ maxLen) :
    Calls Tryd.prog 11 #[.string s1, .string s2] w fun e w' => e = .returned (.int .i64 (bktN s1 s2 : Nat)) ∧ Below w.heap.size w w' := by
  obtain ⟨q, hq⟩ : ∃ q, q = bktN s1 s2 := ⟨_, rfl⟩
  rw [← hq]
  have HQ := Box.mk (show q = sumL [s1, s2] % 10000 from hq)
  clear hq
  have HZ := Box.mk (And.intro h1 h2)
  clear h1 h2
  go_enter Tryd.func11, Tryd.ntmps11
  go_wp2_with fail
  refine (sum_twoX s1 s2 _ _ _ HZ.out.1 HZ.out.2 (strsIn_twoF w s1 s2 _)).mono ?_
  rintro e w3 ⟨rfl, hb3⟩
  have hh := sumL_two_lt s1 s2
  have HB3 := Box.mk (below_trans (below_oneF w (.cells #[.string s1, .string s2] 9)) hb3)
  clear hb3
  generalize sumL [s1, s2] = h at *
  go_wp2_with fail
  go_ret
  exact ⟨ret_int (by have := HQ.out; omega), HB3.out⟩
set_option maxHeartbeats 1000000 in
theorem refBucket_any (s1 s2 : ByteArray) (w : World) (h1 : s1.size ≤ maxLen) (h2 : s2.size ≤ maxLen) :
    Calls Tryd.prog 12 #[.string s1, .string s2] w fun e w' => e = .returned (.int .i64 (bktN s1 s2 : Nat)) ∧ Below w.heap.size w w' := by
  obtain ⟨q, hq⟩ : ∃ q, q = bktN s1 s2 := ⟨_, rfl⟩
  rw [← hq]
  have HQ := Box.mk (show q = sumL [s1, s2] % 10000 from hq)
  clear hq
  have HZ := Box.mk (And.intro h1 h2)
  clear h1 h2
  go_enter Tryd.func12, Tryd.ntmps12
  go_wp2_with fail
  refine (refSum_twoX s1 s2 _ _ _ HZ.out.1 HZ.out.2 (strsIn_twoF w s1 s2 _)).mono ?_
  rintro e w3 ⟨rfl, hb3⟩
  have hh := sumL_two_lt s1 s2
  have HB3 := Box.mk (below_trans (below_oneF w (.cells #[.string s1, .string s2] 9)) hb3)
  clear hb3
  generalize sumL [s1, s2] = h at *
  go_wp2_with fail
  go_ret
  exact ⟨ret_int (by have := HQ.out; omega), HB3.out⟩

def canB (b n : Int) : Bool := decide (0 ≤ b) && decide (b < n)
theorem bkCanary_any (b n : Int) (w : World) :
    Calls Tryd.prog 13 #[.int .i64 b, .int .i64 n] w fun e w' => e = .returned (.bool (canB b n)) ∧ w = w' := by
  by_cases h : 0 ≤ b ∧ b < n
  · have HR := Box.mk (show canB b n = true by unfold canB; rw [decide_eq_true h.1, decide_eq_true h.2]; rfl)
    obtain ⟨h1, h2⟩ := h
    have hg : Calls Tryd.prog 25 #[.int .i64 b, .int .i64 n] w fun e w' => e = .returned (.int .i64 1) ∧ w = w' := by
      go_enter Tryd.func25, Tryd.ntmps25
      go_wp2
      go_ret
      exact ⟨rfl, rfl⟩
    go_enter Tryd.func13, Tryd.ntmps13
    go_wp2_with fail
    refine hg.mono ?_
    rintro e w1 ⟨rfl, rfl⟩
    go_wp2_with fail
    go_ret
    exact ⟨ret_bool HR.out.symm, rfl⟩
  · have HR := Box.mk (show canB b n = false by
      unfold canB
      by_cases h1 : 0 ≤ b
      · rw [decide_eq_false (show ¬ b < n from fun h2 => h ⟨h1, h2⟩), Bool.and_false]
      · rw [decide_eq_false h1, Bool.false_and])
    have hg : Calls Tryd.prog 25 #[.int .i64 b, .int .i64 n] w fun e w' => e = .returned (.int .i64 0) ∧ w = w' := by
      by_cases h1 : 0 ≤ b
      · have h2 : ¬ b < n := fun h2 => h ⟨h1, h2⟩
        clear h
        go_enter Tryd.func25, Tryd.ntmps25
        go_wp2
        go_ret
        exact ⟨rfl, rfl⟩
      · clear h
        go_enter Tryd.func25, Tryd.ntmps25
        go_wp2
        go_ret
        exact ⟨rfl, rfl⟩
    clear h
    go_enter Tryd.func13, Tryd.ntmps13
    go_wp2_with fail
    refine hg.mono ?_
    rintro e w1 ⟨rfl, rfl⟩
    go_wp2_with fail
    go_ret
    exact ⟨ret_bool HR.out.symm, rfl⟩

/-- A weight, as many buckets as there are at most. -/
def cntI (n : Int) : Int := if 10000 < max0 n then 10000 else max0 n
/-- How many of the first k buckets are canary buckets. -/
def cntK (n : Int) (k : Nat) : Nat := if n < 0 then 0 else if n < k then n.toNat else k
theorem cntK_end (n : Int) : ((cntK n 10000 : Nat) : Int) = cntI n := by unfold cntK cntI max0; (repeat' split) <;> omega
theorem cntK_yes {n : Int} {k : Nat} (h : canB k n = true) : cntK n k + 1 = cntK n (k + 1) := by
  unfold canB at h; rw [Bool.and_eq_true] at h
  have h2 := of_decide_eq_true h.2
  unfold cntK; (repeat' split) <;> omega
theorem cntK_no {n : Int} {k : Nat} (h : canB k n = false) : cntK n k = cntK n (k + 1) := by
  have h2 : ¬ (k : Int) < n := fun h2 => by unfold canB at h; rw [decide_eq_true h2, decide_eq_true (show (0 : Int) ≤ k by omega)] at h; cases h
  unfold cntK; (repeat' split) <;> omega
theorem cntK_le (n : Int) (k : Nat) : cntK n k ≤ k := by unfold cntK; (repeat' split) <;> omega

set_option maxRecDepth 100000 in
set_option maxHeartbeats 1000000 in
theorem bkCount_any (n : Int) (w : World) :
    Calls Tryd.prog 15 #[.int .i64 n] w fun e w' => e = .returned (.int .i64 (cntI n)) ∧ w = w' := by
  have HE := Box.mk (cntK_end n)
  generalize cntI n = r at *
  go_enter Tryd.func15, Tryd.ntmps15
  go_wp2_with fail
  go_loop [3, 5] (fun c i => ∃ k q : Nat, k ≤ 10000 ∧ q ≤ k ∧ i = .int .i64 k ∧ c = .int .i64 q ∧ Box (q = cntK n k)) (fun _ i => 10000 - (intOf i).toNat)
  case atStart => exact ⟨0, 0, Nat.zero_le _, Nat.zero_le _, rfl, rfl, ⟨(Nat.le_zero.1 (cntK_le n 0)).symm⟩⟩
  case round =>
    obtain ⟨k, q, hk, hq, rfl, rfl, HQ⟩ := hrel
    by_cases hlt : k < 10000
    · go_wp2_with fail
      refine (bkCanary_any (k : Int) n _).mono ?_
      rintro e w1 ⟨rfl, rfl⟩
      cases hc : canB (k : Int) n
      · have HN := Box.mk (HQ.out.trans (cntK_no hc))
        clear hc
        go_wp2_with fail
        go_round
        case rel => exact ⟨k + 1, q, by omega, by omega, by go_num, rfl, HN⟩
        case measure => simp [intOf]; omega
      · have HN := Box.mk (show q + 1 = cntK n (k + 1) by rw [HQ.out]; exact cntK_yes hc)
        clear hc
        go_wp2_with fail
        go_round
        case rel => exact ⟨k + 1, q + 1, by omega, by omega, by go_num, by go_num, HN⟩
        case measure => simp [intOf]; omega
    · have HX := Box.mk (show (q : Int) = r by rw [← HE.out, HQ.out, show k = 10000 by omega])
      clear HQ HE
      go_wp2_with fail
      go_ret
      exact ⟨ret_int HX.out, rfl⟩
theorem refCount_any (n : Int) (w : World) :
    Calls Tryd.prog 16 #[.int .i64 n] w fun e w' => e = .returned (.int .i64 (cntI n)) ∧ w = w' := by
  have hp : ∀ (ts : Array TypeId) (t : TypeId) (W : World), (Builtin.max_ ts t #[.int .i64 n, .int .i64 0]).run Tryd.prog W = .ok (.int .i64 (max0 n)) W := fun ts t W => by rw [run_max_int2]; rfl
  have hq : ∀ (ts : Array TypeId) (t : TypeId) (W : World), (Builtin.min_ ts t #[.int .i64 (max0 n), .int .i64 10000]).run Tryd.prog W = .ok (.int .i64 (cntI n)) W := fun ts t W => by rw [run_min_int2]; rfl
  generalize cntI n = r at *
  generalize max0 n = p at *
  go_enter Tryd.func16, Tryd.ntmps16
  go_wp2_with fail
  go_ret
  exact ⟨rfl, rfl⟩
end Go.Proofs.YtkdiifkkhdkpeaaDoor
namespace Go.Proofs.YtkdiifkkhdkpeaaDoor
open Go.RowKit

theorem idB_dgc : ∀ d : Fin 16, idB (dgc d.val) = true := by decide +kernel
theorem idN_all (h k : Nat) : (idN h k).all idB = true := by
  unfold idN
  rw [List.all_map, List.all_eq_true]
  intro i _
  exact idB_dgc ⟨hexD h i, Nat.mod_lt _ (by decide)⟩
theorem idS2_id (a b : Int) : idS (idS2 a b) = true := by
  unfold idS2 idS
  rw [ofL_list, idN_all, ofL_size, idN_len]; rfl
theorem idS2_size (a b : Int) : (idS2 a b).size = 16 := by unfold idS2; rw [ofL_size, idN_len]
theorem ckID_yes {s : ByteArray} (w : World) (hs : s.size ≤ maxLen) (h : idS s = true) :
    Calls Tryd.prog 9 #[.string s] w fun e w' => e = .returned (.bool true) ∧ w = w' := by
  rw [← h]; exact ckID_any s w hs
theorem bkCanary_eq {b n : Int} {r : Bool} (w : World) (h : canB b n = r) :
    Calls Tryd.prog 13 #[.int .i64 b, .int .i64 n] w fun e w' => e = .returned (.bool r) ∧ w = w' := by
  subst h; exact bkCanary_any b n w
theorem bkOf_eq {s1 s2 : ByteArray} {r : Int} (w : World) (h1 : s1.size ≤ maxLen) (h2 : s2.size ≤ maxLen) (h : (bktN s1 s2 : Int) = r) :
    Calls Tryd.prog 11 #[.string s1, .string s2] w fun e w' => e = .returned (.int .i64 r) ∧ Below w.heap.size w w' := by
  subst h; exact bkOf_any s1 s2 w h1 h2
theorem refBucket_eq {s1 s2 : ByteArray} {r : Int} (w : World) (h1 : s1.size ≤ maxLen) (h2 : s2.size ≤ maxLen) (h : (bktN s1 s2 : Int) = r) :
    Calls Tryd.prog 12 #[.string s1, .string s2] w fun e w' => e = .returned (.int .i64 r) ∧ Below w.heap.size w w' := by
  subst h; exact refBucket_any s1 s2 w h1 h2
theorem bkt_int (s1 s2 : ByteArray) : ∃ r : Int, (bktN s1 s2 : Int) = r ∧ 0 ≤ r ∧ r < 10000 := ⟨_, rfl, by omega, by have := bktN_lt s1 s2; omega⟩
theorem bkCount_eq {n r : Int} (w : World) (h : cntI n = r) :
    Calls Tryd.prog 15 #[.int .i64 n] w fun e w' => e = .returned (.int .i64 r) ∧ w = w' := by
  subst h; exact bkCount_any n w

set_option maxHeartbeats 1000000 in
theorem within10001 (z : Int) (w : World) :
    Calls Tryd.prog 14 #[.int .i64 z, .int .i64 10001] w fun e w' => e = .returned (.int .i64 (withI z 10001)) ∧ w' = w := withinF z 10001 w (by decide) (by decide)
theorem bkAwake_any (w : World) (ht : Tabs w) : Calls Tryd.prog 10 #[] w fun e w' => e = .returned (.bool true) ∧ Below w.heap.size w w' := by
  have HT := Lib.hid ht
  clear ht
  go_enter Tryd.func10, Tryd.ntmps10
  go_wp2_with fail
  refine (bkCanary_eq (r := true) _ (by decide)).mono ?_
  rintro e w1 ⟨rfl, rfl⟩
  go_wp2_with fail
  refine (bkCanary_eq (r := false) _ (by decide)).mono ?_
  rintro e w1 ⟨rfl, rfl⟩
  go_wp2_with fail
  refine (bkCanary_eq (r := false) _ (by decide)).mono ?_
  rintro e w1 ⟨rfl, rfl⟩
  go_wp2_with fail
  refine (bkCount_eq (r := 7) _ (by decide)).mono ?_
  rintro e w1 ⟨rfl, rfl⟩
  go_wp2_with fail
  refine (bkNewID_any 1 2 _ (by decide) (by decide) HT.out).mono ?_
  rintro e w1 ⟨rfl, hb⟩
  have HB := Box.mk hb
  have hz := Box.mk (idS2_size 1 2)
  clear hb
  generalize idS2 1 2 = r at *
  have e16 : ((r.size : Int) == 16) = true := by rw [hz.out]; rfl
  go_wp2_with fail
  go_ret
  exact ⟨rfl, HB.out⟩

set_option maxHeartbeats 1000000 in
theorem bucketID_any (a b : Int) (w : World) (ha1 : a ≤ 9223372036854775807) (hb1 : b ≤ 9223372036854775807) (ht : Tabs w) :
    Calls Tryd.prog 3 #[.int .i64 a, .int .i64 b] w fun e w' => e = .returned (.bool true) ∧ Below w.heap.size w w' := by
  have HT := Lib.hid ht
  clear ht
  go_enter Tryd.func3, Tryd.ntmps3
  go_wp2_with fail
  refine (bkNewID_any a b _ ha1 hb1 HT.out).mono ?_
  rintro e w1 ⟨rfl, hb1'⟩
  have HB1 := Box.mk hb1'
  clear hb1'
  go_wp2_with fail
  refine (refNewIDx_any a b _ ha1 hb1).mono ?_
  rintro e w2 ⟨rfl, hb2⟩
  have HB2 := Box.mk (below_trans HB1.out hb2)
  have HI := Box.mk (And.intro (idS2_id a b) (idS2_size a b))
  clear hb2 HB1
  generalize idS2 a b = r at *
  go_wp2_with fail
  refine (ckID_yes _ (by rw [HI.out.2]; decide) HI.out.1).mono ?_
  rintro e w3 ⟨rfl, rfl⟩
  go_wp2_with fail
  refine (bkAwake_any _ (tabs_below HT.out HB2.out)).mono ?_
  rintro e w4 ⟨rfl, hb4⟩
  have HB4 := Box.mk (below_trans HB2.out hb4)
  clear hb4 HB2
  go_wp2_with fail
  go_ret
  exact ⟨rfl, HB4.out⟩

set_option maxHeartbeats 1000000 in
theorem bucketOf_any (s1 s2 : ByteArray) (n : Int) (w : World) (h1 : s1.size ≤ maxLen) (h2 : s2.size ≤ maxLen) (ht : Tabs w) :
    Calls Tryd.prog 4 #[.string s1, .string s2, .int .i64 n] w fun e w' => e = .returned (.bool true) ∧ Below w.heap.size w w' := by
  have HT := Lib.hid ht
  have HZ := Box.mk (And.intro h1 h2)
  obtain ⟨q, hq, hq0, hq1⟩ := bkt_int s1 s2
  have HQ := Box.mk hq
  clear hq
  clear ht h1 h2
  go_enter Tryd.func4, Tryd.ntmps4
  go_wp2_with fail
  refine (bkOf_eq _ HZ.out.1 HZ.out.2 HQ.out).mono ?_
  rintro e w1 ⟨rfl, hb1⟩
  have HB1 := Box.mk hb1
  clear hb1
  go_wp2_with fail
  refine (refBucket_eq _ HZ.out.1 HZ.out.2 HQ.out).mono ?_
  rintro e w2 ⟨rfl, hb2⟩
  have HB2 := Box.mk (below_trans HB1.out hb2)
  clear hb2 HB1
  obtain ⟨r, hr⟩ : ∃ r, canB q n = r := ⟨_, rfl⟩
  by_cases hn : q < n
  · have hr1 : canB q n = true := by unfold canB; rw [decide_eq_true hq0, decide_eq_true hn]; rfl
    clear hr
    go_wp2_with fail
    refine (bkCanary_eq _ hr1).mono ?_
    rintro e w3 ⟨rfl, rfl⟩
    go_wp2_with fail
    refine (bkAwake_any _ (tabs_below HT.out HB2.out)).mono ?_
    rintro e w4 ⟨rfl, hb4⟩
    have HB4 := Box.mk (below_trans HB2.out hb4)
    clear hb4 HB2
    go_wp2_with fail
    go_ret
    exact ⟨rfl, HB4.out⟩
  · have hr1 : canB q n = false := by unfold canB; rw [decide_eq_false hn, Bool.and_false]
    clear hr
    go_wp2_with fail
    refine (bkCanary_eq _ hr1).mono ?_
    rintro e w3 ⟨rfl, rfl⟩
    go_wp2_with fail
    refine (bkAwake_any _ (tabs_below HT.out HB2.out)).mono ?_
    rintro e w4 ⟨rfl, hb4⟩
    have HB4 := Box.mk (below_trans HB2.out hb4)
    clear hb4 HB2
    go_wp2_with fail
    go_ret
    exact ⟨by show Ending.returned (.bool (!decide (q < n))) = _; rw [decide_eq_false (Int.not_lt.2 hn)]; rfl, HB4.out⟩

set_option maxHeartbeats 1000000 in
theorem bucketCount_any (n : Int) (raw : Bool) (w : World) (ht : Tabs w) :
    Calls Tryd.prog 5 #[.int .i64 n, .bool raw] w fun e w' => e = .returned (.bool true) ∧ Below w.heap.size w w' := by
  have HT := Lib.hid ht
  clear ht
  cases raw
  · obtain ⟨k, hk, hwk⟩ := withI_range n 10001 (by decide) (by decide)
    have HC := Box.mk (show cntI (k : Int) = (k : Int) by unfold cntI max0; (repeat' split) <;> omega)
    have HWK := Box.mk hwk
    clear hwk
    go_enter Tryd.func5, Tryd.ntmps5
    go_wp2_with fail
    refine (within10001 n _).mono ?_
    rintro e w1 ⟨he, rfl⟩
    rw [HWK.out] at he
    subst he
    go_wp2_with fail
    refine (bkCount_eq _ HC.out).mono ?_
    rintro e w2 ⟨rfl, rfl⟩
    go_wp2_with fail
    refine (bkAwake_any _ HT.out).mono ?_
    rintro e w4 ⟨rfl, hb4⟩
    have HB4 := Box.mk hb4
    clear hb4
    go_wp2_with fail
    go_ret
    exact ⟨rfl, HB4.out⟩
  · obtain ⟨r, hr⟩ : ∃ r, cntI n = r := ⟨_, rfl⟩
    have HR := Box.mk hr
    clear hr
    go_enter Tryd.func5, Tryd.ntmps5
    go_wp2_with fail
    refine (bkCount_eq _ HR.out).mono ?_
    rintro e w2 ⟨rfl, rfl⟩
    go_wp2_with fail
    refine (refCount_any n _).mono ?_
    rintro e w2 ⟨he, rfl⟩
    rw [HR.out] at he
    subst he
    go_wp2_with fail
    refine (bkAwake_any _ HT.out).mono ?_
    rintro e w4 ⟨rfl, hb4⟩
    have HB4 := Box.mk hb4
    clear hb4
    go_wp2_with fail
    go_ret
    exact ⟨rfl, HB4.out⟩

set_option maxHeartbeats 2000000 in
theorem bucketStays_any (s1 s2 : ByteArray) (x y : Int) (w : World) (h1 : s1.size ≤ maxLen) (h2 : s2.size ≤ maxLen) (ht : Tabs w) :
    Calls Tryd.prog 6 #[.string s1, .string s2, .int .i64 x, .int .i64 y] w fun e w' => e = .returned (.bool true) ∧ Below w.heap.size w w' := by
  have HT := Lib.hid ht
  have HZ := Box.mk (And.intro h1 h2)
  obtain ⟨q, hq, hq0, hq1⟩ := bkt_int s1 s2
  have HQ := Box.mk hq
  clear hq
  obtain ⟨k, hk, hwk⟩ := withI_range x 10001 (by decide) (by decide)
  obtain ⟨j, hj, hwj⟩ := withI_range y (10001 - k) (by omega) (by omega)
  have HWK := Box.mk hwk
  have HWJ := Box.mk hwj
  clear ht h1 h2 hwk hwj
  obtain ⟨d, hd⟩ : ∃ d : Nat, 10001 - k = d := ⟨_, rfl⟩
  have HD := Box.mk (show (10001 : Int) - (k : Int) = (d : Int) by omega)
  rw [hd] at HWJ
  have hd0 : 0 < d := by omega
  have hd1 : d ≤ 10001 := by omega
  have hjd : j + k ≤ 10000 := by omega
  clear hd hj
  go_enter Tryd.func6, Tryd.ntmps6
  go_wp2_with fail
  refine (within10001 x _).mono ?_
  rintro e w1 ⟨he, rfl⟩
  rw [HWK.out] at he
  subst he
  go_wp2_with fail
  have hD := HD.out
  rw [hD]
  clear hD
  refine (withinF y d _ hd0 (by omega)).mono ?_
  rintro e w1 ⟨he, rfl⟩
  rw [HWJ.out] at he
  subst he
  go_wp2_with fail
  refine (bkOf_eq _ HZ.out.1 HZ.out.2 HQ.out).mono ?_
  rintro e w1 ⟨rfl, hb1⟩
  have HB1 := Box.mk hb1
  clear hb1
  have hall : canB q 10000 = true := by unfold canB; rw [decide_eq_true hq0, decide_eq_true (show q < 10000 by omega)]; rfl
  have hnone : canB q 0 = false := by unfold canB; rw [decide_eq_false (show ¬ q < 0 by omega), Bool.and_false]
  by_cases hn : q < k
  · have hr1 : canB q k = true := by unfold canB; rw [decide_eq_true hq0, decide_eq_true hn]; rfl
    have hr2 : canB q ((k : Int) + (j : Int)) = true := by unfold canB; rw [decide_eq_true hq0, decide_eq_true (show q < k + j by omega)]; rfl
    go_wp2_with fail
    refine (bkCanary_eq _ hr1).mono ?_
    rintro e w3 ⟨rfl, rfl⟩
    go_wp2_with fail
    refine (bkCanary_eq _ hr2).mono ?_
    rintro e w3 ⟨rfl, rfl⟩
    go_wp2_with fail
    refine (bkCanary_eq _ hall).mono ?_
    rintro e w3 ⟨rfl, rfl⟩
    go_wp2_with fail
    refine (bkCanary_eq _ hnone).mono ?_
    rintro e w3 ⟨rfl, rfl⟩
    go_wp2_with fail
    refine (bkAwake_any _ (tabs_below HT.out HB1.out)).mono ?_
    rintro e w4 ⟨rfl, hb4⟩
    have HB4 := Box.mk (below_trans HB1.out hb4)
    clear hb4 HB1
    go_wp2_with fail
    go_ret
    exact ⟨rfl, HB4.out⟩
  · have hr1 : canB q k = false := by unfold canB; rw [decide_eq_false hn, Bool.and_false]
    go_wp2_with fail
    refine (bkCanary_eq _ hr1).mono ?_
    rintro e w3 ⟨rfl, rfl⟩
    go_wp2_with fail
    refine (bkCanary_eq _ hall).mono ?_
    rintro e w3 ⟨rfl, rfl⟩
    go_wp2_with fail
    refine (bkCanary_eq _ hnone).mono ?_
    rintro e w3 ⟨rfl, rfl⟩
    go_wp2_with fail
    refine (bkAwake_any _ (tabs_below HT.out HB1.out)).mono ?_
    rintro e w4 ⟨rfl, hb4⟩
    have HB4 := Box.mk (below_trans HB1.out hb4)
    clear hb4 HB1
    go_wp2_with fail
    go_ret
    exact ⟨rfl, HB4.out⟩
end Go.Proofs.YtkdiifkkhdkpeaaDoor
namespace Go.Proofs.YtkdiifkkhdkpeaaDoor
open Go.ChangeShapes Go.WideShapes Go.ChangeAt Go.RowKit

theorem i64_of {x : Int} (h : (Lit.int .i64 x).wf = true) : -9223372036854775808 ≤ x ∧ x ≤ 9223372036854775807 := bounds_i64 h
def dB64 : List Int := [0, 1, 56, 2, 57, 49, 28, 3, 61, 58, 42, 50, 38, 29, 17, 4, 62, 47, 59, 36, 45, 43, 51, 22, 53, 39, 33, 30, 24, 18, 12, 5, 63, 55, 48, 27, 60, 41, 37, 16, 46, 35, 44, 21, 52, 32, 23, 11, 54, 26, 40, 15, 34, 20, 31, 10, 25, 14, 19, 9, 13, 8, 7, 6]
/-- The tables of the library out of the list of laid variables. -/
theorem tabs_of_laid {W : World} {l : List (String × DataW Unit)} (h : laidMetH Tryd.prog l W)
    (e1 : l.filter (fun x => x.1 == "internal/strconv.uint64pow10") = [("internal/strconv.uint64pow10", Lib.tabData .u64 Lib.pow10Tab)])
    (e2 : l.filter (fun x => x.1 == "math/bits.deBruijn64tab") = [("math/bits.deBruijn64tab", Lib.tabData .u8 dB64)]) : Tabs W := by
  have h1 := h.filter (fun x => x.1 == "internal/strconv.uint64pow10")
  have h2 := h.filter (fun x => x.1 == "math/bits.deBruijn64tab")
  rw [e1] at h1
  rw [e2] at h2
  rw [MakeChecks.laidMetH_plain _ _ _ (by kernel_rfl)] at h1 h2
  have t1 := Lib.tabIs_of_head (g := 0) (t := 72) (e := 33) (n := 20) (by kernel_rfl) (by kernel_rfl) (by kernel_rfl) (by kernel_rfl) (by kernel_rfl) (by kernel_rfl) h1
  have t2 := Lib.tabIs_of_head (g := 3) (t := 82) (e := 5) (n := 64) (by kernel_rfl) (by kernel_rfl) (by kernel_rfl) (by kernel_rfl) (by kernel_rfl) (by kernel_rfl) h2
  refine ⟨t1, t2.cell (by kernel_rfl) 15 (by decide), lt_cell (t1.cell (by kernel_rfl) 0 (by decide))⟩
end Go.Proofs.YtkdiifkkhdkpeaaDoor
