/- Opening a request and a reply among the arguments. Opening a slice of numbers; the tables out of the listed variables. -/
import Derived.Test.YtcdianojchmgpaaGreatDoorPk1
import Derived.Test.YtcdianojchmgpaaGreatDoorPk2
import Derived.Test.YtcdianojchmgpaaGreatDoorPk3
import Derived.Test.YtcdianojchmgpaaGreatDoorPk4
import Derived.Test.YtcdianojchmgpaaGreatDoorPk6
import Derived.Test.YtcdianojchmgpaaGreatDoorPk8
import Derived.Test.YtcdianojchmgpaaGreatDoorRows
import Derived.WalkKit
import Derived.WalkSpells
import Derived.WalkLawsBesides
import Derived.BigQuiet
import Derived.Deep.QuietTactic
import Derived.Lib.Bytealg
import Derived.Lib.IndexLaws
import Derived.Lib.Hide
import Derived.Laws.IdiomStrings
import Derived.Lib.SlTrimSet
import Derived.Lib.IndexBytes
import Derived.Lib.Split
import Derived.Deep.AppendLies
import Derived.Shelf.Strings.SlTrimAscii
import Derived.Shelf.Strings.SplitShaped
import Derived.Shelf.LaysM
import Derived.Shelf.Strings.BuilderK
import Derived.Shelf.Strconv.Itoa4
import Derived.Shelf.Strings.Prefix
import Derived.Shelf.Bytes.SlIndexWhole
import Derived.Test.YtcdianojchmgpaaGreatDoorProg
import Derived.Lib.SplitLaws
import Derived.WalkSmall
import Derived.ProofKit
import Derived.OpenShut
import Derived.Lib.Strings
import Derived.SliceStrings
import Derived.Deep.Quiet
import Derived.Tactics
import Derived.KernelRfl
import Derived.Below
import Derived.Laws.Bits64
import Derived.Lib.SlBytesConst
import Derived.Maps.AppendAt
import Derived.Laws.AppendOwnNone
import Derived.Great.BuildSlice
import Derived.Laws.Rows
import Derived.Laws.BitsAllLaws
import Derived.Laws.Shifts
import Derived.Maps.OwnOps
import Derived.Maps.OwnSet
import Derived.Deep.SlicePairs
import Derived.Lib.AppendZerosOnto
import Derived.Lib.AppendStr
import Derived.Laws.CopyOwn
import Derived.OwnWalk
import Derived.Laws.Strings3
import Derived.Laws.Concat
import Derived.Lib.ItoaMem
import Derived.IntWalk
import Derived.Sort.Grow
import Derived.Lib.LaidTab
import Derived.LaidSub
namespace Go.Proofs.YtcdianojchmgpaaGreatDoor
open Go.ChangeShapes Go.WideShapes Go.ChangeAt Go.RowKit

set_option maxRecDepth 100000 in
theorem open_request {H : Type} {enc : TypeId × Value → H} {W : World} {r : Reach} {q0 : Nat} {v : Value} {d : DataW H} {ps : List MemPlace} {base : Nat} (hval : Value.okWide Tryz.prog W r q0 35 v)
    (h : DataW.Trod enc Tryz.prog W base (fun _ => true) true 35 v d ps) :
    ∃ (s0 : ByteArray) (s1 : ByteArray) (z2 : Int) (l3 : List Fld) (a3 : Option Addr) (c3 : Nat) (b4 : Bool) (l5 : List UInt8) (a5 : Option Addr) (c5 : Nat), v = .agg #[.string s0, .string s1, .int .i64 z2, .slice a3 l3.length c3, .bool b4, .slice a5 l5.length c5] ∧ s0.size ≤ maxLen ∧ s0.size ≤ Rows.uptoBulk d ∧ s1.size ≤ maxLen ∧ s1.size ≤ Rows.uptoBulk d ∧ (-9223372036854775808 ≤ z2 ∧ z2 ≤ 9223372036854775807) ∧ (FldsC W a3 l3 c3 ∧ l3.length ≤ c3 ∧ c3 ≤ maxLen ∧ ShortF l3 ∧ (Rows.uptoBulk d ≤ 1048576 → SmallF l3)) ∧ (IsBytes W a5 l5 c5 ∧ l5.length ≤ Rows.uptoBulk d) := by
  obtain ⟨cs, rfl, hsz⟩ := okWide_struct Tryz.underlying35 hval
  obtain ⟨fuel, hf⟩ := h
  have hsz2 : cs.size = 6 := by rw [hsz]; kernel_rfl
  obtain ⟨x0, x1, x2, x3, x4, x5, rfl⟩ : ∃ x0 x1 x2 x3 x4 x5, cs = #[x0, x1, x2, x3, x4, x5] := by
    match cs, hsz2 with
    | ⟨[x0, x1, x2, x3, x4, x5]⟩, _ => exact ⟨x0, x1, x2, x3, x4, x5, rfl⟩
  obtain ⟨ys, n, _, hdp, _, hlen, hfs⟩ := DataW.trod_struct Tryz.underlying35 hf
  obtain ⟨y0, y1, y2, y3, y4, y5, rfl⟩ : ∃ y0 y1 y2 y3 y4 y5, ys = [y0, y1, y2, y3, y4, y5] := by
    match ys, hlen with
    | [y0, y1, y2, y3, y4, y5], _ => exact ⟨y0, y1, y2, y3, y4, y5, rfl⟩
  have h0 : DataW.trod enc Tryz.prog W base (fun _ => true) true n 9 [x0] = some y0 := by
    have e : ((Value.agg #[x0, x1, x2, x3, x4, x5]).cells.toList.drop 0).take (Tryz.prog.cellsOf 9) = [x0] := by rw [show Tryz.prog.cellsOf 9 = 1 by kernel_rfl]; rfl
    rw [← e]; exact hfs 0 _ rfl
  have h1 : DataW.trod enc Tryz.prog W base (fun _ => true) true n 9 [x1] = some y1 := by
    have e : ((Value.agg #[x0, x1, x2, x3, x4, x5]).cells.toList.drop 1).take (Tryz.prog.cellsOf 9) = [x1] := by rw [show Tryz.prog.cellsOf 9 = 1 by kernel_rfl]; rfl
    rw [← e]; exact hfs 1 _ rfl
  have h2 : DataW.trod enc Tryz.prog W base (fun _ => true) true n 3 [x2] = some y2 := by
    have e : ((Value.agg #[x0, x1, x2, x3, x4, x5]).cells.toList.drop 2).take (Tryz.prog.cellsOf 3) = [x2] := by rw [show Tryz.prog.cellsOf 3 = 1 by kernel_rfl]; rfl
    rw [← e]; exact hfs 2 _ rfl
  have h3 : DataW.trod enc Tryz.prog W base (fun _ => true) true n 33 [x3] = some y3 := by
    have e : ((Value.agg #[x0, x1, x2, x3, x4, x5]).cells.toList.drop 3).take (Tryz.prog.cellsOf 33) = [x3] := by rw [show Tryz.prog.cellsOf 33 = 1 by kernel_rfl]; rfl
    rw [← e]; exact hfs 3 _ rfl
  have h4 : DataW.trod enc Tryz.prog W base (fun _ => true) true n 4 [x4] = some y4 := by
    have e : ((Value.agg #[x0, x1, x2, x3, x4, x5]).cells.toList.drop 4).take (Tryz.prog.cellsOf 4) = [x4] := by rw [show Tryz.prog.cellsOf 4 = 1 by kernel_rfl]; rfl
    rw [← e]; exact hfs 4 _ rfl
  have h5 : DataW.trod enc Tryz.prog W base (fun _ => true) true n 23 [x5] = some y5 := by
    have e : ((Value.agg #[x0, x1, x2, x3, x4, x5]).cells.toList.drop 5).take (Tryz.prog.cellsOf 23) = [x5] := by rw [show Tryz.prog.cellsOf 23 = 1 by kernel_rfl]; rfl
    rw [← e]; exact hfs 5 _ rfl
  have hd : d = .agg [y0.1, y1.1, y2.1, y3.1, y4.1, y5.1] := by have := congrArg Prod.fst hdp; simpa using this
  obtain ⟨s0, es0, fs0, zs0⟩ := DataW.trod_string Tryz.underlying9 h0
  injection es0 with es0
  subst es0
  have ls0 : s0.data.toList.length = s0.size := by rw [Array.length_toList]; rfl
  obtain ⟨s1, es1, fs1, zs1⟩ := DataW.trod_string Tryz.underlying9 h1
  injection es1 with es1
  subst es1
  have ls1 : s1.data.toList.length = s1.size := by rw [Array.length_toList]; rfl
  obtain ⟨z2, ez2, fz2, wz2⟩ := DataW.trod_int Tryz.underlying3 h2
  injection ez2 with ez2
  subst ez2
  obtain ⟨a3, len3, c3, rfl⟩ : ∃ a len cap, x3 = .slice a len cap := by
    rcases Go.Deep.open_slice_pairs Tryz.underlying33 Tryz.underlying74 (by kernel_rfl) (by kernel_rfl) (by kernel_rfl) (by kernel_rfl) (by kernel_rfl) h3 with ⟨hcs, _⟩ | ⟨x, k, c, m, j, V0, V1, D0, D1, P0, P1, hcs, _⟩
    · injection hcs with hcs; exact ⟨_, _, _, hcs⟩
    · injection hcs with hcs; exact ⟨_, _, _, hcs⟩
  obtain ⟨l3, rfl, hF3, hc3, hm3, hS3, hu3⟩ := open_fieldsC (d := y3.1) (ps := y3.2) ⟨n, h3⟩
  obtain ⟨b4, eb4, fb4⟩ := DataW.trod_bool Tryz.underlying4 h4
  injection eb4 with eb4
  subst eb4
  obtain ⟨a5, len5, c5, rfl⟩ : ∃ a len cap, x5 = .slice a len cap := by
    rcases open_ints Tryz.underlying23 Tryz.underlying5 (by kernel_rfl) h5 with ⟨hcs, _⟩ | ⟨x, k, c, zs, hcs, _⟩
    · injection hcs with hcs; exact ⟨_, _, _, hcs⟩
    · injection hcs with hcs; exact ⟨_, _, _, hcs⟩
  obtain ⟨l5, rfl, hb5, hl5⟩ := open_bytes_bulk (d := y5.1) (ps := y5.2) ⟨n, h5⟩
  subst hd
  subst fs0 fs1 fz2 fb4
  simp only [Rows.uptoBulk, Rows.uptoBulkAll, ls0, ls1]
  exact ⟨s0, s1, z2, l3, a3, c3, b4, l5, a5, c5, rfl, zs0, by omega, zs1, by omega, i64_ofF wz2, ⟨hF3, hc3, hm3, hS3, fun hb => hu3 (by omega)⟩, ⟨hb5, by omega⟩⟩

set_option maxRecDepth 100000 in
theorem open_reply {H : Type} {enc : TypeId × Value → H} {W : World} {r : Reach} {q0 : Nat} {v : Value} {d : DataW H} {ps : List MemPlace} {base : Nat} (hval : Value.okWide Tryz.prog W r q0 39 v)
    (h : DataW.Trod enc Tryz.prog W base (fun _ => true) true 39 v d ps) :
    ∃ (z0 : Int) (s1 : ByteArray) (z2 : Int) (l3 : List Fld) (a3 : Option Addr) (c3 : Nat) (l4 : List UInt8) (a4 : Option Addr) (c4 : Nat), v = .agg #[.int .i64 z0, .string s1, .int .i64 z2, .slice a3 l3.length c3, .slice a4 l4.length c4] ∧ (-9223372036854775808 ≤ z0 ∧ z0 ≤ 9223372036854775807) ∧ s1.size ≤ maxLen ∧ s1.size ≤ Rows.uptoBulk d ∧ (-9223372036854775808 ≤ z2 ∧ z2 ≤ 9223372036854775807) ∧ (FldsC W a3 l3 c3 ∧ l3.length ≤ c3 ∧ c3 ≤ maxLen ∧ ShortF l3 ∧ (Rows.uptoBulk d ≤ 1048576 → SmallF l3)) ∧ (IsBytes W a4 l4 c4 ∧ l4.length ≤ Rows.uptoBulk d) := by
  obtain ⟨cs, rfl, hsz⟩ := okWide_struct Tryz.underlying39 hval
  obtain ⟨fuel, hf⟩ := h
  have hsz2 : cs.size = 5 := by rw [hsz]; kernel_rfl
  obtain ⟨x0, x1, x2, x3, x4, rfl⟩ : ∃ x0 x1 x2 x3 x4, cs = #[x0, x1, x2, x3, x4] := by
    match cs, hsz2 with
    | ⟨[x0, x1, x2, x3, x4]⟩, _ => exact ⟨x0, x1, x2, x3, x4, rfl⟩
  obtain ⟨ys, n, _, hdp, _, hlen, hfs⟩ := DataW.trod_struct Tryz.underlying39 hf
  obtain ⟨y0, y1, y2, y3, y4, rfl⟩ : ∃ y0 y1 y2 y3 y4, ys = [y0, y1, y2, y3, y4] := by
    match ys, hlen with
    | [y0, y1, y2, y3, y4], _ => exact ⟨y0, y1, y2, y3, y4, rfl⟩
  have h0 : DataW.trod enc Tryz.prog W base (fun _ => true) true n 3 [x0] = some y0 := by
    have e : ((Value.agg #[x0, x1, x2, x3, x4]).cells.toList.drop 0).take (Tryz.prog.cellsOf 3) = [x0] := by rw [show Tryz.prog.cellsOf 3 = 1 by kernel_rfl]; rfl
    rw [← e]; exact hfs 0 _ rfl
  have h1 : DataW.trod enc Tryz.prog W base (fun _ => true) true n 9 [x1] = some y1 := by
    have e : ((Value.agg #[x0, x1, x2, x3, x4]).cells.toList.drop 1).take (Tryz.prog.cellsOf 9) = [x1] := by rw [show Tryz.prog.cellsOf 9 = 1 by kernel_rfl]; rfl
    rw [← e]; exact hfs 1 _ rfl
  have h2 : DataW.trod enc Tryz.prog W base (fun _ => true) true n 3 [x2] = some y2 := by
    have e : ((Value.agg #[x0, x1, x2, x3, x4]).cells.toList.drop 2).take (Tryz.prog.cellsOf 3) = [x2] := by rw [show Tryz.prog.cellsOf 3 = 1 by kernel_rfl]; rfl
    rw [← e]; exact hfs 2 _ rfl
  have h3 : DataW.trod enc Tryz.prog W base (fun _ => true) true n 33 [x3] = some y3 := by
    have e : ((Value.agg #[x0, x1, x2, x3, x4]).cells.toList.drop 3).take (Tryz.prog.cellsOf 33) = [x3] := by rw [show Tryz.prog.cellsOf 33 = 1 by kernel_rfl]; rfl
    rw [← e]; exact hfs 3 _ rfl
  have h4 : DataW.trod enc Tryz.prog W base (fun _ => true) true n 23 [x4] = some y4 := by
    have e : ((Value.agg #[x0, x1, x2, x3, x4]).cells.toList.drop 4).take (Tryz.prog.cellsOf 23) = [x4] := by rw [show Tryz.prog.cellsOf 23 = 1 by kernel_rfl]; rfl
    rw [← e]; exact hfs 4 _ rfl
  have hd : d = .agg [y0.1, y1.1, y2.1, y3.1, y4.1] := by have := congrArg Prod.fst hdp; simpa using this
  obtain ⟨z0, ez0, fz0, wz0⟩ := DataW.trod_int Tryz.underlying3 h0
  injection ez0 with ez0
  subst ez0
  obtain ⟨s1, es1, fs1, zs1⟩ := DataW.trod_string Tryz.underlying9 h1
  injection es1 with es1
  subst es1
  have ls1 : s1.data.toList.length = s1.size := by rw [Array.length_toList]; rfl
  obtain ⟨z2, ez2, fz2, wz2⟩ := DataW.trod_int Tryz.underlying3 h2
  injection ez2 with ez2
  subst ez2
  obtain ⟨a3, len3, c3, rfl⟩ : ∃ a len cap, x3 = .slice a len cap := by
    rcases Go.Deep.open_slice_pairs Tryz.underlying33 Tryz.underlying74 (by kernel_rfl) (by kernel_rfl) (by kernel_rfl) (by kernel_rfl) (by kernel_rfl) h3 with ⟨hcs, _⟩ | ⟨x, k, c, m, j, V0, V1, D0, D1, P0, P1, hcs, _⟩
    · injection hcs with hcs; exact ⟨_, _, _, hcs⟩
    · injection hcs with hcs; exact ⟨_, _, _, hcs⟩
  obtain ⟨l3, rfl, hF3, hc3, hm3, hS3, hu3⟩ := open_fieldsC (d := y3.1) (ps := y3.2) ⟨n, h3⟩
  obtain ⟨a4, len4, c4, rfl⟩ : ∃ a len cap, x4 = .slice a len cap := by
    rcases open_ints Tryz.underlying23 Tryz.underlying5 (by kernel_rfl) h4 with ⟨hcs, _⟩ | ⟨x, k, c, zs, hcs, _⟩
    · injection hcs with hcs; exact ⟨_, _, _, hcs⟩
    · injection hcs with hcs; exact ⟨_, _, _, hcs⟩
  obtain ⟨l4, rfl, hb4, hl4⟩ := open_bytes_bulk (d := y4.1) (ps := y4.2) ⟨n, h4⟩
  subst hd
  subst fz0 fs1 fz2
  simp only [Rows.uptoBulk, Rows.uptoBulkAll, ls1]
  exact ⟨z0, s1, z2, l3, a3, c3, l4, a4, c4, rfl, i64_ofF wz0, zs1, by omega, i64_ofF wz2, ⟨hF3, hc3, hm3, hS3, fun hb => hu3 (by omega)⟩, ⟨hb4, by omega⟩⟩
end Go.Proofs.YtcdianojchmgpaaGreatDoor
namespace Go.Proofs.YtcdianojchmgpaaGreatDoor
open Go.ChangeShapes Go.WideShapes Go.ChangeAt Go.RowKit

def dB64 : List Int := [0, 1, 56, 2, 57, 49, 28, 3, 61, 58, 42, 50, 38, 29, 17, 4, 62, 47, 59, 36, 45, 43, 51, 22, 53, 39, 33, 30, 24, 18, 12, 5, 63, 55, 48, 27, 60, 41, 37, 16, 46, 35, 44, 21, 52, 32, 23, 11, 54, 26, 40, 15, 34, 20, 31, 10, 25, 14, 19, 9, 13, 8, 7, 6]
/-- The tables of the library out of the list of laid variables. -/
theorem tabs_of_laid {W : World} {l : List (String × DataW Unit)} (h : laidMetH Tryz.prog l W)
    (e1 : l.filter (fun x => x.1 == "internal/strconv.uint64pow10") = [("internal/strconv.uint64pow10", Lib.tabData .u64 Lib.pow10Tab)])
    (e2 : l.filter (fun x => x.1 == "math/bits.deBruijn64tab") = [("math/bits.deBruijn64tab", Lib.tabData .u8 dB64)]) : Tabs W := by
  have h1 := h.filter (fun x => x.1 == "internal/strconv.uint64pow10")
  have h2 := h.filter (fun x => x.1 == "math/bits.deBruijn64tab")
  rw [e1] at h1
  rw [e2] at h2
  rw [MakeChecks.laidMetH_plain _ _ _ (by kernel_rfl)] at h1 h2
  have t1 := Lib.tabIs_of_head (g := 3) (t := 161) (e := 118) (n := 20) (by kernel_rfl) (by kernel_rfl) (by kernel_rfl) (by kernel_rfl) (by kernel_rfl) (by kernel_rfl) h1
  have t2 := Lib.tabIs_of_head (g := 5) (t := 168) (e := 5) (n := 64) (by kernel_rfl) (by kernel_rfl) (by kernel_rfl) (by kernel_rfl) (by kernel_rfl) (by kernel_rfl) h2
  refine ⟨t1, t2.cell (by kernel_rfl) 15 (by decide), lt_cell (t1.cell (by kernel_rfl) 0 (by decide))⟩
end Go.Proofs.YtcdianojchmgpaaGreatDoor
