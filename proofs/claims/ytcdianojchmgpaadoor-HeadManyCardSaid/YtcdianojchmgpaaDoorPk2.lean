/- Format, by the library's Builder and in the reference. Parse of package field: the index of a colon, strings.Cut. Parse of the reference. The source of numbers of the laws: Within, Next, Of. The fields that the laws make: Field, Fields, fields, name. Fields of the source; fields and name of the laws. The plain mathematics of numerals: digits, their value with a limit, and that a numeral is read as its number. Contracts of the reference's functions that write a number. Targets and versions, in the reference. Split at the question mark, the version of a line, spoil; in the reference and the laws. Words of a line, rune by rune and byte by byte: plain mathematics. strings.Cut at any byte, strings.HasPrefix, strings.CutPrefix; Split and the versions, of package startline. Targets, reasons and versions, of package startline. The version of a line, of package startline. FormatRequestLine of the reference. FormatStatusLine of the reference. The request line, parsed: package startline and the reference. SameReply and SameRequest of the reference, at equal messages; FormatRequest and FormatStatus of package startline. Heads of messages: where a head ends, its lines. The reference's End. The reference's lines. Heads by the library's search: index, count, pieces at line ends. Plain mathematics. The reference's fields of lines. A slice of bytes of the call's own, beside other memory: what an append leaves alone. The reference's ParseRequest. The reference's FormatRequest and FormatReply. -/
import Derived.Test.YtcdianojchmgpaaDoorPk1
import Derived.Test.YtcdianojchmgpaaDoorRows
import Derived.WalkKit
import Derived.WalkSpells
import Derived.WalkLawsBesides
import Derived.BigQuiet
import Derived.Deep.QuietTactic
import Derived.Lib.Bytealg
import Derived.Lib.IndexLaws
import Derived.Lib.Hide
import Derived.Laws.IdiomStrings
import Derived.Lib.SlTrimSet
import Derived.Lib.IndexBytes
import Derived.Lib.Split
import Derived.Deep.AppendLies
import Derived.Shelf.Strings.SlTrimAscii
import Derived.Shelf.Strings.SplitShaped
import Derived.Shelf.LaysM
import Derived.Shelf.Strings.BuilderK
import Derived.Shelf.Strconv.Itoa4
import Derived.Shelf.Strings.Prefix
import Derived.Shelf.Bytes.SlIndexWhole
import Derived.Test.YtcdianojchmgpaaDoorProg
import Derived.Lib.SplitLaws
import Derived.WalkSmall
import Derived.ProofKit
import Derived.OpenShut
import Derived.Lib.Strings
import Derived.SliceStrings
import Derived.Deep.Quiet
import Derived.Tactics
import Derived.KernelRfl
import Derived.Below
import Derived.Laws.Bits64
import Derived.Lib.SlBytesConst
import Derived.Maps.AppendAt
import Derived.Laws.AppendOwnNone
import Derived.Great.BuildSlice
import Derived.Laws.Rows
import Derived.Laws.BitsAllLaws
import Derived.Laws.Shifts
import Derived.Maps.OwnOps
import Derived.Maps.OwnSet
import Derived.Deep.SlicePairs
import Derived.Lib.AppendZerosOnto
import Derived.Lib.AppendStr
import Derived.Laws.CopyOwn
import Derived.OwnWalk
import Derived.Laws.Strings3
import Derived.Laws.Concat
import Derived.Lib.ItoaMem
import Derived.IntWalk
import Derived.Laws.RangeAny
import Derived.LoopTactic
import Derived.Sort.Grow
import Derived.Lib.ConvBytes
namespace Go.Proofs.YtcdianojchmgpaaDoor
open Go.RowKit

theorem strCells_bytes (s : ByteArray) : Lib.strCells s = bytesV s.data.toList := by
  unfold Lib.strCells bytesV; rfl
set_option maxHeartbeats 1000000 in
theorem writeString_any (w0 w : World) (b : Nat) (l : List UInt8) (s : ByteArray) (h : Bld w0 w b l) (hl : l.length + s.size ≤ 140737488355328) :
    Calls Tryd.prog 33 #[.pointer (some ⟨b, 0, none⟩), .string s] w fun e w' => e = .returned (.tuple #[.int .i64 s.size, .nilIface]) ∧ Bld w0 w' b (l ++ s.data.toList) := by
  have H0 := Box.mk h
  clear h
  obtain ⟨i0, hi, hz0, hz1, hz2⟩ := info_parts Tryd.info5
  have HI := Box.mk (And.intro hi (And.intro hz0 (And.intro hz1 hz2)))
  clear hi hz0 hz1 hz2
  go_enter Tryd.func33, Tryd.ntmps33
  go_wp2_with fail
  refine (copyCheck_any w0 w b l H0.out).mono ?_
  rintro e w1 ⟨rfl, ⟨hb0, v, hbk, hown, hne⟩, hB⟩
  have hc1 : w1.cell? ⟨b, 1, none⟩ = some v := by rw [cell_of_row _ _ _ _ _ _ hbk]; rfl
  have hsz : b < w1.heap.size := (Array.getElem?_eq_some_iff.1 hbk).1
  have HOWN := Box.mk hown
  have HK := Box.mk (And.intro hb0 (And.intro hbk (And.intro hne hsz)))
  have HB := Box.mk hB
  have hbl := bytesV_len l
  clear hb0 hbk hown hne hB hsz
  go_wp2_with (at_builtin; refine Lib.wpList_append_own_string _ rfl _ _ 26 9 rfl w0.heap.size 5 i0 Tryd.underlying26 Tryd.underlying9 HI.out.1 HI.out.2.1 HI.out.2.2.1 HI.out.2.2.2 _ _ _ rfl HOWN.out s rfl ?c3 ?c4 ?c5 ?c1)
  case c3 => unfold maxLen; omega
  case c4 => omega
  case c5 => have := HB.out.size; omega
  case c1 =>
    intro v2 w2 hown2 hgrow _
    have hown3 : w2.ownsRow w0.heap.size 5 1 v2 (bytesV (l ++ s.data.toList)).length (bytesV (l ++ s.data.toList)) := by
      have e1 : bytesV (l ++ s.data.toList) = bytesV l ++ Lib.strCells s := by rw [strCells_bytes]; unfold bytesV; rw [List.map_append]
      have e2 : (bytesV l ++ Lib.strCells s).length = (bytesV l).length + s.size := by rw [List.length_append, Lib.strCells_length]
      rw [e1, e2, hbl]; exact hown2
    have HOWN3 := Box.mk hown3
    obtain ⟨a2, n2, cp2, rfl⟩ : ∃ a2 n2 cp2, v2 = .slice a2 n2 cp2 := by
      rcases hown2.2 with ⟨hv, _⟩ | ⟨g, cap, cur, hv, _⟩
      · exact ⟨_, _, _, hv⟩
      · exact ⟨_, _, _, hv⟩
    have hbk2 := (hgrow.block b HK.out.2.2.2 (fun e => HK.out.2.2.1 e.symm)).trans HK.out.2.1
    have hc2 : w2.cell? ⟨b, 1, none⟩ = some v := by rw [cell_of_row _ _ _ _ _ _ hbk2]; rfl
    have hf2 := frozen_of_row w2 b 1 _ _ hbk2
    have HP := Box.mk (Lib.BuilderAt.put HK.out.1 hbk2 (v' := .slice a2 n2 cp2) HOWN3.out (by decide))
    have HB2 := Box.mk ((HB.out.grown hgrow HB.out.size fun k hk => (World.ownsRow.lt HOWN.out k hk).1).setCell (p := ⟨b, 1, none⟩) HK.out.1 (.slice a2 n2 cp2))
    clear hown2 hown3 hgrow hbk2 HK HB HOWN HOWN3
    go_wp2_with fail
    go_ret2
    exact ⟨rfl, .inr HP.out, HB2.out⟩

theorem bld_newF (w : World) : Bld w (w.alloc (.cells #[.pointer none, .slice none 0 0] 68)) w.heap.size [] :=
  ⟨.inl ⟨Nat.le_refl _, .slice none 0 0, heap_alloc_new _ _, World.ownsRow_nil _ _ _ _, by simp [Value.ownBlock]⟩, (Below.refl _ _).alloc (Nat.le_refl _) _⟩
/-- The builder where the call goes on in a world that has more in it. -/
theorem Bld.keep {w0 w w' : World} {b : Nat} {l : List UInt8} (h : Bld w0 w b l) (hb : Below w.heap.size w w') : Bld w0 w' b l := by
  obtain ⟨h1, h2⟩ := h
  refine ⟨?_, h2.trans (hb.mono h2.size)⟩
  rcases h1 with ⟨hb0, v, hbk, hown, hne⟩ | ⟨hb0, v, hbk, hown, hne⟩
  · have hlt : b < w.heap.size := (Array.getElem?_eq_some_iff.1 hbk).1
    exact .inl ⟨hb0, v, by rw [hb.block b hlt]; exact hbk, ownsRow_keep hown hb, hne⟩
  · have hlt : b < w.heap.size := (Array.getElem?_eq_some_iff.1 hbk).1
    exact .inr ⟨hb0, v, by rw [hb.block b hlt]; exact hbk, ownsRow_keep hown hb, hne⟩

theorem new_cellF2 (w : World) (o : Obj) (cs : Array Value) (t : TypeId) (j : Nat) : ((w.alloc o).alloc (.cells cs t (0, 0))).cell? ⟨w.heap.size + 1, j, none⟩ = cs[j]? := by
  have h := new_cellF (w.alloc o) cs t j
  rw [show (w.alloc o).heap.size = w.heap.size + 1 by simp] at h
  exact h
/-- The lines of fields. -/
def lineB (f : Fld) : List UInt8 := f.1.data.toList ++ [58, 32] ++ f.2.data.toList ++ [13, 10]
def linesB (l : List Fld) : List UInt8 := l.flatMap lineB
def allB (l : List Fld) : Bool := l.all fun f => fldB f.1 f.2
def fmtF (l : List Fld) : ByteArray := if allB l then ⟨(linesB l).toArray⟩ else ⟨#[]⟩
theorem lineB_eq (f : Fld) : (f.1 ++ ⟨#[58, 32]⟩ ++ f.2 ++ ⟨#[13, 10]⟩ : ByteArray).data.toList = lineB f := by
  unfold lineB
  simp only [ByteArray.data_append, Array.toList_append]
theorem linesB_step (l : List Fld) (k : Nat) (h : k < l.length) : linesB (l.take (k + 1)) = linesB (l.take k) ++ lineB l[k] := by
  unfold linesB
  rw [List.take_succ_eq_append_getElem h, List.flatMap_append]; simp
theorem lineB_len (f : Fld) : (lineB f).length = f.1.size + f.2.size + 4 := by
  unfold lineB
  simp only [List.length_append, List.length_cons, List.length_nil, Array.length_toList]
  generalize e1 : f.1.data.size = n1
  generalize e2 : f.2.data.size = n2
  have g1 : f.1.size = n1 := e1
  have g2 : f.2.size = n2 := e2
  rw [g1, g2]; omega
/-- Strings that are small enough to be joined. -/
def SmallF (l : List Fld) : Prop := ∀ f ∈ l, f.1.size ≤ 1048576 ∧ f.2.size ≤ 1048576
theorem linesB_len (l : List Fld) (h : SmallF l) (k : Nat) : (linesB (l.take k)).length ≤ k * 2097156 := by
  induction k with
  | zero => simp [linesB]
  | succ k ih =>
    by_cases hk : k < l.length
    · rw [linesB_step l k hk, List.length_append, lineB_len]
      have := h _ (List.getElem_mem hk)
      omega
    · rw [List.take_of_length_le (by omega)]
      rw [List.take_of_length_le (by omega)] at ih
      exact Nat.le_trans ih (Nat.mul_le_mul_right _ (Nat.le_succ k))
theorem fmtF_no {l : List Fld} {k : Nat} (hk : k < l.length) (h : fldB l[k].1 l[k].2 = false) : fmtF l = ⟨#[]⟩ := by
  unfold fmtF
  rw [if_neg]
  intro ha
  have := List.all_eq_true.1 ha _ (List.getElem_mem hk)
  rw [h] at this; cases this
theorem fmtF_yes {l : List Fld} {k : Nat} (hk : k ≤ l.length) (hk2 : ¬ k < l.length) (h : ∀ f ∈ l.take k, fldB f.1 f.2 = true) : fmtF l = ⟨(linesB l).toArray⟩ := by
  unfold fmtF
  rw [List.take_of_length_le (by omega)] at h
  have : allB l = true := List.all_eq_true.2 h
  rw [if_pos this]
theorem all_stepF {l : List Fld} {k : Nat} (hk : k < l.length) (h : ∀ f ∈ l.take k, fldB f.1 f.2 = true) (hf : fldB l[k].1 l[k].2 = true) : ∀ f ∈ l.take (k + 1), fldB f.1 f.2 = true := by
  rw [List.take_succ_eq_append_getElem hk]
  intro y hy
  rcases List.mem_append.1 hy with h1 | h1
  · exact h y h1
  · simp at h1; rw [h1]; exact hf
theorem le_maxLen {n : Nat} (h : n ≤ 1048576) : n ≤ maxLen := by unfold maxLen; omega

set_option maxRecDepth 100000 in
set_option maxHeartbeats 2000000 in
theorem fFormat_any (l : List Fld) (a : Option Addr) (cap : Nat) (w : World) (h : FldsIn w a l) (hz : SmallF l) (hl : l.length ≤ 1000000) :
    Calls Tryd.prog 20 #[.slice a l.length cap] w fun e w' => e = .returned (.string (fmtF l)) ∧ Below w.heap.size w w' := by
  have H0 := Box.mk h
  have HZ := Box.mk hz
  clear h hz
  go_enter Tryd.func20, Tryd.ntmps20
  go_wp2_with fail
  obtain ⟨W, hW⟩ : ∃ W, W = w.alloc (.cells #[.pointer none, .slice none 0 0] 68) := ⟨_, rfl⟩
  have HB0 := Box.mk (bld_newF w)
  rw [← hW] at HB0 ⊢
  clear hW
  generalize hb : w.heap.size = b at *
  have HBS := Box.mk hb
  clear hb
  go_loopw [9] (fun iv wr => ∃ k : Nat, k ≤ l.length ∧ iv = .int .i64 k ∧ Box (Bld w wr b (linesB (l.take k)) ∧ ∀ f ∈ l.take k, fldB f.1 f.2 = true)) (fun iv _ => l.length - (intOf iv).toNat)
  case atStart => exact ⟨0, Nat.zero_le _, rfl, ⟨HB0.out, by simp⟩⟩
  case round =>
    clear HB0
    obtain ⟨k, hk, rfl, HM⟩ := hrel
    by_cases hlt : k < l.length
    · obtain ⟨x, rfl, hx1, hx2⟩ := (H0.out.keep HM.out.1.2) k hlt
      have hx2 := cell_next hx2
      have HSZ := Box.mk (HZ.out _ (List.getElem_mem hlt))
      have hLB := linesB_len l HZ.out k
      have HST := Box.mk (linesB_step l k hlt)
      by_cases hv : fldB l[k].1 l[k].2 = true
      · have HALL := Box.mk (all_stepF hlt HM.out.2 hv)
        have HV := Box.mk hv
        clear hv
        generalize l[k] = f at *
        have HLL := Box.mk (lineB_len f)
        go_wp2_with fail
        refine (hdrValid_any f.1 f.2 _ (le_maxLen HSZ.out.1) (le_maxLen HSZ.out.2)).mono ?_
        rintro e w1 ⟨he, hb1⟩
        rw [HV.out] at he
        subst he
        have HB1 := Box.mk (below_trans (below_oneF wr (.cells #[.string f.1, .string f.2] 24)) (below_trans (below_oneF _ (.cells #[.string f.1, .string f.2] 64)) hb1))
        have hc1 : w1.cell? ⟨wr.heap.size + 1, 0, none⟩ = some (.string f.1) := below_cell hb1 (by rw [new_cellF2]; rfl)
        have hc2 : w1.cell? ⟨wr.heap.size + 1, 1, none⟩ = some (.string f.2) := below_cell hb1 (by rw [new_cellF2]; rfl)
        have HM1 := Box.mk (HM.out.1.keep HB1.out)
        clear hb1 hx1 hx2
        go_wp2_with fail
        refine (hdrLine_any f.1 f.2 _ (by have := HSZ.out.1; omega) (by have := HSZ.out.2; omega)).mono ?_
        rintro e w2 ⟨rfl, hb2⟩
        have HM2 := Box.mk (HM1.out.keep hb2)
        have HLE := Box.mk (lineB_eq f)
        have HS := Box.mk (show (f.1 ++ ⟨#[58, 32]⟩ ++ f.2 ++ ⟨#[13, 10]⟩ : ByteArray).size = f.1.size + f.2.size + 4 by
          rw [← HLL.out, ← HLE.out, Array.length_toList]; rfl)
        clear hb2 hc1 hc2 HM1
        generalize (f.1 ++ ⟨#[58, 32]⟩ ++ f.2 ++ ⟨#[13, 10]⟩ : ByteArray) = L at *
        go_wp2_with fail
        refine (writeString_any w w2 b _ L HM2.out (by have := HS.out; have := HSZ.out; omega)).mono ?_
        rintro e w3 ⟨rfl, h3⟩
        have HM3 := Box.mk (show Bld w w3 b (linesB (l.take (k + 1))) ∧ ∀ f ∈ l.take (k + 1), fldB f.1 f.2 = true from ⟨by rw [HST.out, ← HLE.out]; exact h3, HALL.out⟩)
        clear h3 HM2 HLE HST HALL
        go_wp2_with fail
        go_roundw
        case rel => exact ⟨k + 1, by omega, by go_num, HM3⟩
        case measure => simp [intOf]; omega
      · have HV := Box.mk (show fldB l[k].1 l[k].2 = false by simpa using hv)
        have HE := Box.mk (fmtF_no hlt HV.out)
        clear hv
        generalize l[k] = f at *
        go_wp2_with fail
        refine (hdrValid_any f.1 f.2 _ (le_maxLen HSZ.out.1) (le_maxLen HSZ.out.2)).mono ?_
        rintro e w1 ⟨he, hb1⟩
        rw [HV.out] at he
        subst he
        have HB1 := Box.mk (HM.out.1.2.trans ((below_trans (below_oneF wr (.cells #[.string f.1, .string f.2] 24)) (below_trans (below_oneF _ (.cells #[.string f.1, .string f.2] 64)) hb1)).mono HM.out.1.2.size))
        clear hb1
        go_wp2_with fail
        go_ret
        exact ⟨ret_str HE.out.symm, HB1.out⟩
    · have HE := Box.mk (fmtF_yes hk hlt HM.out.2)
      have HM1 := Box.mk (show Bld w wr b (linesB l) by have := HM.out.1; rw [List.take_of_length_le (by omega)] at this; exact this)
      clear HM
      go_wp2_with fail
      refine (bld_string w wr b _ HM1.out).mono ?_
      rintro e w2 ⟨rfl, hb⟩
      have HB := Box.mk hb
      clear hb
      go_wp2_with fail
      go_ret
      exact ⟨ret_str HE.out.symm, HB.out⟩

theorem ba_app_list (a b : ByteArray) : (a ++ b).data.toList = a.data.toList ++ b.data.toList := by rw [ByteArray.data_append]; simp

end Go.Proofs.YtcdianojchmgpaaDoor
namespace Go.Proofs.YtcdianojchmgpaaDoor
open Go.RowKit

def colonI (s : ByteArray) : Int := Lib.indexByte s.data.toList 58
theorem colonI_one (s : ByteArray) (h : (⟨#[58]⟩ : ByteArray) = s) : colonI s = 0 := by subst h; rfl

set_option maxRecDepth 100000 in
set_option maxHeartbeats 2000000 in
theorem idxLite_any (s c : ByteArray) (w : World) (hz : c.size = 1) (h0 : ∀ h, c[0]'h = (58 : UInt8)) (hc : c = ⟨#[58]⟩) :
    Calls Tryd.prog 59 #[.string s, .string c] w fun e w' => e = .returned (.int .i64 (colonI s)) ∧ w = w' := by
  by_cases he : c = s
  · have HE := Box.mk (colonI_one s (by rw [← hc]; exact he))
    have h1 : (c.toList == s.toList) = true := by rw [toList_eq]; simp [he]
    clear he hc
    go_enter Tryd.func59, Tryd.ntmps59
    go_wp2_with fail
    go_ret
    exact ⟨ret_int HE.out.symm, rfl⟩
  · have h1 : (c.toList == s.toList) = false := by rw [toList_eq]; simp [he]
    clear he hc
    go_enter Tryd.func59, Tryd.ntmps59
    go_wp2_with fail
    refine (indexByteLite_any s 58 _).mono ?_
    rintro e w1 ⟨rfl, rfl⟩
    go_wp2_with fail
    go_ret
    exact ⟨rfl, rfl⟩

theorem colonI_ge (s : ByteArray) : -1 ≤ colonI s := Lib.indexByte_ge _ _
theorem colonI_lt (s : ByteArray) {k : Nat} (h : colonI s = k) : k < s.size := by
  have := (Lib.indexByte_some h).1
  have := (List.getElem?_eq_some_iff.1 this).1
  simpa using this

set_option maxRecDepth 100000 in
set_option maxHeartbeats 2000000 in
theorem liteCut_yes (s c : ByteArray) (k : Nat) (w : World) (hs : s.size ≤ maxLen) (hz : c.size = 1) (h0 : ∀ h, c[0]'h = (58 : UInt8)) (hc : c = ⟨#[58]⟩) (hk : colonI s = k) :
    Calls Tryd.prog 61 #[.string s, .string c] w fun e w' => e = .returned (.tuple #[.string (s.extract 0 k), .string (s.extract (k + 1) s.size), .bool true]) ∧ Below w.heap.size w w' := by
  have hlt := colonI_lt s hk
  unfold maxLen at hs
  have HK := Box.mk hk
  have H0 := Box.mk (And.intro h0 hc)
  clear hk h0 hc
  go_enter Tryd.func61, Tryd.ntmps61
  go_wp2_with fail
  refine (idxLite_any s c _ hz H0.out.1 H0.out.2).mono ?_
  rintro e w1 ⟨he, rfl⟩
  rw [HK.out] at he
  subst he
  go_wp2_with fail
  go_quiet (fail)
  go_wp2
  go_ret3
  exact ⟨rfl, below_drewN (Below.refl _ _) _⟩

set_option maxRecDepth 100000 in
set_option maxHeartbeats 2000000 in
theorem liteCut_no (s c : ByteArray) (w : World) (hz : c.size = 1) (h0 : ∀ h, c[0]'h = (58 : UInt8)) (hc : c = ⟨#[58]⟩) (hk : colonI s = -1) :
    Calls Tryd.prog 61 #[.string s, .string c] w fun e w' => e = .returned (.tuple #[.string s, .string ⟨#[]⟩, .bool false]) ∧ Below w.heap.size w w' := by
  have HK := Box.mk hk
  have H0 := Box.mk (And.intro h0 hc)
  clear hk h0 hc
  go_enter Tryd.func61, Tryd.ntmps61
  go_wp2_with fail
  refine (idxLite_any s c _ hz H0.out.1 H0.out.2).mono ?_
  rintro e w1 ⟨he, rfl⟩
  rw [HK.out] at he
  subst he
  go_wp2_with fail
  go_ret3
  exact ⟨rfl, Below.refl _ _⟩

set_option maxHeartbeats 2000000 in
theorem cut_yes (s : ByteArray) (k : Nat) (w : World) (hs : s.size ≤ maxLen) (hk : colonI s = k) :
    Calls Tryd.prog 48 #[.string s, .string ⟨#[58]⟩] w fun e w' => e = .returned (.tuple #[.string (s.extract 0 k), .string (s.extract (k + 1) s.size), .bool true]) ∧ Below w.heap.size w w' := by
  have HK := Box.mk hk
  clear hk
  go_enter Tryd.func48, Tryd.ntmps48
  go_wp2_with fail
  refine (liteCut_yes s _ k _ hs rfl (fun _ => rfl) rfl HK.out).mono ?_
  rintro e w1 ⟨rfl, hb⟩
  have HB := Box.mk hb
  clear hb
  go_wp2_with fail
  go_ret3
  exact ⟨rfl, HB.out⟩
set_option maxHeartbeats 2000000 in
theorem cut_no (s : ByteArray) (w : World) (hk : colonI s = -1) :
    Calls Tryd.prog 48 #[.string s, .string ⟨#[58]⟩] w fun e w' => e = .returned (.tuple #[.string s, .string ⟨#[]⟩, .bool false]) ∧ Below w.heap.size w w' := by
  have HK := Box.mk hk
  clear hk
  go_enter Tryd.func48, Tryd.ntmps48
  go_wp2_with fail
  refine (liteCut_no s _ _ rfl (fun _ => rfl) rfl HK.out).mono ?_
  rintro e w1 ⟨rfl, hb⟩
  have HB := Box.mk hb
  clear hb
  go_wp2_with fail
  go_ret3
  exact ⟨rfl, HB.out⟩

/-- What Parse returns. -/
def parseF (s : ByteArray) : Option Fld :=
  if 0 ≤ colonI s then
    (if fldB (s.extract 0 (colonI s).toNat) (trimBA (s.extract ((colonI s).toNat + 1) s.size)) then some (s.extract 0 (colonI s).toNat, trimBA (s.extract ((colonI s).toNat + 1) s.size)) else none)
  else none
def parseV : Option Fld → Value
  | some f => .tuple #[.agg #[.string f.1, .string f.2], .int .i64 0]
  | none => .tuple #[.agg #[.string ⟨#[]⟩, .string ⟨#[]⟩], .int .i64 2]
theorem parseF_no {s : ByteArray} (h : colonI s = -1) : parseF s = none := by unfold parseF; rw [h]; rfl
theorem parseF_at {s : ByteArray} {k : Nat} (h : colonI s = k) : parseF s = if fldB (s.extract 0 k) (trimBA (s.extract (k + 1) s.size)) then some (s.extract 0 k, trimBA (s.extract (k + 1) s.size)) else none := by
  unfold parseF; rw [h]; simp
theorem extract_le (s : ByteArray) (i j : Nat) : (s.extract i j).size ≤ s.size := by
  rw [ByteArray.size_extract]; omega

theorem results_row_tmpF {P : Program} {fn : Func} {q p : Tmp} {ty : TypeId} (h : fn.results = #[.cell p ty, .tmp q]) (tmps : Array Value) (w : World) (g : Nat) (t : TypeId) (cs : Array Value) (fr : Nat × Nat) (d : TypeDesc)
    (hp : tmps.getD p undef = .pointer (some ⟨g, 0, none⟩)) (hg : w.heap[g]? = some (.cells cs t fr))
    (hu : P.underlying ty = some d) (hd : (match d with | .struct _ | .array _ _ => true | _ => false) = true) (hi : (P.info? ty).map (·.size) = some cs.size) :
    (results fn tmps).run P w = .ok (.tuple #[.agg cs, tmps.getD q undef]) w := by
  have hp' : tmps[p]?.getD undef = .pointer (some ⟨g, 0, none⟩) := by simpa using hp
  simp [results, h, hp', asAddr, run_loadVar_row w g t ty cs fr d hg hu hd hi]
theorem sizeF : (Tryd.prog.info? 24).map (·.size) = some 2 := by kernel_rfl
theorem oneF (a b : ByteArray) : (#[Value.string a, .string b] : Array Value).all (·.oneCell') = true := by simp [Value.oneCell']
/-- A field's variable. -/
def FVar (w : World) (g : Nat) (n v : ByteArray) : Prop := w.heap[g]? = some (.cells #[.string n, .string v] 24 (0, 0))
theorem FVar.keep {w w' : World} {g : Nat} {n v : ByteArray} (h : FVar w g n v) (hb : Below w.heap.size w w') : FVar w' g n v := by
  unfold FVar at *
  rw [hb.block g (Array.getElem?_eq_some_iff.1 h).1]; exact h
theorem FVar.new (w : World) (n v : ByteArray) : FVar (w.alloc (.cells #[.string n, .string v] 24)) w.heap.size n v := heap_alloc_new _ _
theorem FVar.c0 {w : World} {g : Nat} {n v : ByteArray} (h : FVar w g n v) : w.cell? ⟨g, 0, none⟩ = some (.string n) := by rw [cell_of_row _ _ _ _ _ _ h]; rfl
theorem FVar.c1 {w : World} {g : Nat} {n v : ByteArray} (h : FVar w g n v) : w.cell? ⟨g, 1, none⟩ = some (.string v) := by rw [cell_of_row _ _ _ _ _ _ h]; rfl
theorem FVar.run {w : World} {g : Nat} {n v : ByteArray} (h : FVar w g n v) : (Instr.loadAt 24 (.pointer (some ⟨g, 0, none⟩))).run Tryd.prog w = .ok (.agg #[.string n, .string v]) w :=
  run_loadF w _ _ _ h.c0 h.c1
theorem FVar.lt {w : World} {g : Nat} {n v : ByteArray} (h : FVar w g n v) : g < w.heap.size := (Array.getElem?_eq_some_iff.1 h).1

set_option maxRecDepth 100000 in
set_option maxHeartbeats 2000000 in
theorem fParse_any (s : ByteArray) (w : World) (hs : s.size ≤ maxLen) :
    Calls Tryd.prog 28 #[.string s] w fun e w' => e = .returned (parseV (parseF s)) ∧ Below w.heap.size w w' := by
  have hge := colonI_ge s
  by_cases hc : colonI s = -1
  · have HP := Box.mk (parseF_no hc)
    have HC := Box.mk hc
    clear hc hge
    go_enter Tryd.func28, Tryd.ntmps28
    go_wp2_with fail
    refine (cut_no s _ HC.out).mono ?_
    rintro e w1 ⟨rfl, hb1⟩
    have HB1 := Box.mk (below_trans (below_oneF w (.cells #[.string ⟨#[]⟩, .string ⟨#[]⟩] 24)) hb1)
    have HR1 := Box.mk ((FVar.new w ⟨#[]⟩ ⟨#[]⟩).keep hb1)
    clear hb1
    go_wp2_with fail
    refine (trim_any _ _ (by decide)).mono ?_
    rintro e w2 ⟨rfl, hb2⟩
    have hb3 := below_trans hb2 (below_oneF w2 (.cells #[.string s, .string (trimBA ⟨#[]⟩)] 64))
    have HB2 := Box.mk (below_trans HB1.out hb3)
    have HR2 := Box.mk (HR1.out.keep hb3)
    clear hb2 hb3 HB1 HR1
    go_wp2_with (refine wpList_store_row rfl 24 _ _ rfl w.heap.size #[.string ⟨#[]⟩, .string ⟨#[]⟩] rfl rfl 24 _ HR2.out sizeF rfl (oneF _ _) ?_)
    (try simp only [Exit.inBlock, Exit.then])
    refine bodyPost_ret (results_row_tmpF rfl _ _ w.heap.size _ _ _ _ rfl (setRow_heap _ _ _ _ _ _ HR2.out) Tryd.underlying24 rfl sizeF) rfl ?_
    exact ⟨by rw [HP.out]; rfl, below_setRow HB2.out (Nat.le_refl _) _⟩
  · obtain ⟨k, hk⟩ : ∃ k : Nat, colonI s = k := ⟨(colonI s).toNat, by omega⟩
    have HC := Box.mk hk
    have HP0 := Box.mk (parseF_at hk)
    have HZ := Box.mk (And.intro (Nat.le_trans (extract_le s 0 k) hs) (Nat.le_trans (extract_le s (k + 1) s.size) hs))
    clear hc hge hk
    go_enter Tryd.func28, Tryd.ntmps28
    go_wp2_with fail
    refine (cut_yes s k _ hs HC.out).mono ?_
    rintro e w1 ⟨rfl, hb1⟩
    have HB1 := Box.mk (below_trans (below_oneF w (.cells #[.string ⟨#[]⟩, .string ⟨#[]⟩] 24)) hb1)
    have HR1 := Box.mk ((FVar.new w ⟨#[]⟩ ⟨#[]⟩).keep hb1)
    clear hb1
    generalize s.extract 0 k = n at *
    generalize s.extract (k + 1) s.size = v0 at *
    go_wp2_with fail
    refine (trim_any v0 _ HZ.out.2).mono ?_
    rintro e w2 ⟨rfl, hb2⟩
    have hvz := Box.mk (Nat.le_trans (trimBA_size v0) HZ.out.2)
    generalize trimBA v0 = v at *
    have hb3 := below_trans hb2 (below_oneF w2 (.cells #[.string n, .string v] 64))
    have HB2 := Box.mk (below_trans HB1.out hb3)
    have HR2 := Box.mk (HR1.out.keep hb3)
    clear hb2 hb3 HB1 HR1
    by_cases hv : fldB n v = true
    · have HP := Box.mk (show parseF s = some (n, v) by rw [HP0.out, if_pos hv])
      have HV := Box.mk hv
      clear hv HP0
      go_wp2_with fail
      refine (hdrValid_any n v _ HZ.out.1 hvz.out).mono ?_
      rintro e w3 ⟨he, hb3⟩
      rw [HV.out] at he
      subst he
      have HB3 := Box.mk (below_trans HB2.out hb3)
      have HR3 := Box.mk (HR2.out.keep hb3)
      have hc0 : w3.cell? ⟨w2.heap.size, 0, none⟩ = some (.string n) := below_cell hb3 (by rw [new_cellF]; rfl)
      have hc1 : w3.cell? ⟨w2.heap.size, 1, none⟩ = some (.string v) := below_cell hb3 (by rw [new_cellF]; rfl)
      clear hb3 HB2 HR2
      go_wp2_with (refine wpList_store_row rfl 24 _ _ rfl w.heap.size #[.string n, .string v] rfl rfl 24 _ HR3.out sizeF rfl (oneF _ _) ?_)
      (try simp only [Exit.inBlock, Exit.then])
      refine bodyPost_ret (results_row_tmpF rfl _ _ w.heap.size _ _ _ _ rfl (setRow_heap _ _ _ _ _ _ HR3.out) Tryd.underlying24 rfl sizeF) rfl ?_
      exact ⟨by rw [HP.out]; rfl, below_setRow HB3.out (Nat.le_refl _) _⟩
    · have HP := Box.mk (show parseF s = none by rw [HP0.out, if_neg hv])
      have HV := Box.mk (show fldB n v = false by simpa using hv)
      clear hv HP0
      go_wp2_with fail
      refine (hdrValid_any n v _ HZ.out.1 hvz.out).mono ?_
      rintro e w3 ⟨he, hb3⟩
      rw [HV.out] at he
      subst he
      have HB3 := Box.mk (below_trans HB2.out hb3)
      have HR3 := Box.mk (HR2.out.keep hb3)
      clear hb3 HB2 HR2
      go_wp2_with (refine wpList_store_row rfl 24 _ _ rfl w.heap.size #[.string ⟨#[]⟩, .string ⟨#[]⟩] rfl rfl 24 _ HR3.out sizeF rfl (oneF _ _) ?_)
      (try simp only [Exit.inBlock, Exit.then])
      refine bodyPost_ret (results_row_tmpF rfl _ _ w.heap.size _ _ _ _ rfl (setRow_heap _ _ _ _ _ _ HR3.out) Tryd.underlying24 rfl sizeF) rfl ?_
      exact ⟨by rw [HP.out]; rfl, below_setRow HB3.out (Nat.le_refl _) _⟩
end Go.Proofs.YtcdianojchmgpaaDoor
namespace Go.Proofs.YtcdianojchmgpaaDoor
open Go.RowKit

theorem colonI_at (s : ByteArray) (k : Nat) (hk : k < s.size) (h : s[k] = (58 : UInt8)) (hp : ∀ j, j < k → s.data.toList[j]? ≠ some 58) : colonI s = k := by
  have hge := colonI_ge s
  have hkk : s.data.toList[k]? = some 58 := by
    rw [List.getElem?_eq_getElem (by simpa using hk)]
    exact congrArg some h
  by_cases h1 : colonI s = -1
  · exact absurd hkk (Lib.indexByte_none h1 k)
  · obtain ⟨o, ho⟩ : ∃ o : Nat, colonI s = o := ⟨(colonI s).toNat, by omega⟩
    have h2 := Lib.indexByte_some ho
    rw [ho]
    congr 1
    rcases Nat.lt_trichotomy o k with h3 | h3 | h3
    · exact absurd h2.1 (hp o h3)
    · exact h3
    · exact absurd hkk (h2.2 k h3)
section
variable {Q : Exit → Act → World → Prop} {a : Act} {w : World} {o : Oper} {s : Spec}
end

end Go.Proofs.YtcdianojchmgpaaDoor
namespace Go.Proofs.YtcdianojchmgpaaDoor
open Go.RowKit

def withI (z : Int) (n : Nat) : Int := (wrap64 (z.tmod n + n)).tmod n
theorem withI_range (z : Int) (n : Nat) (h0 : 0 < n) (hn : n ≤ 1000000000) : ∃ k : Nat, k < n ∧ withI z n = (k : Int) := by
  have h1 : z.tmod n < n := Int.tmod_lt_of_pos z (by omega)
  have h2 : -(n : Int) < z.tmod n := Int.lt_tmod_of_pos z (by omega)
  unfold withI
  generalize z.tmod n = y at *
  have e : wrap64 (y + n) = y + n := by simp only [wrap64]; omega
  rw [e, Int.tmod_eq_emod_of_nonneg (by omega)]
  exact ⟨((y + n) % n).toNat, by have := Int.emod_lt_of_pos (y + n) (show (0 : Int) < n by omega); have := Int.emod_nonneg (y + n) (show (n : Int) ≠ 0 by omega); omega, by have := Int.emod_nonneg (y + n) (show (n : Int) ≠ 0 by omega); omega⟩
theorem withinF (z : Int) (n : Nat) (w : World) (h0 : 0 < n) (hn : n ≤ 1000000000) :
    Calls Tryd.prog 4 #[.int .i64 z, .int .i64 n] w fun e w' => e = .returned (.int .i64 (withI z n)) ∧ w' = w := by
  go_enter Tryd.func4, Tryd.ntmps4
  go_wp2
  go_ret
  exact ⟨rfl, rfl⟩

end Go.Proofs.YtcdianojchmgpaaDoor
namespace Go.Proofs.YtcdianojchmgpaaDoor
open Go.RowKit

theorem FVar.grown {w w' : World} {g : Nat} {n v : ByteArray} {row : Option Nat} (h : FVar w g n v) (hg : w.grownBy w' row) (hne : some g ≠ row) : FVar w' g n v := by
  have hlt := h.lt
  unfold FVar at *
  rw [hg.block g hlt hne]; exact h
end Go.Proofs.YtcdianojchmgpaaDoor
namespace Go.Proofs.YtcdianojchmgpaaDoor
open Go.RowKit

/-- v is a slice with the fields l in a block of its own, at B or beyond. -/
def OwnF (B : Nat) (w : World) (v : Value) (l : List Fld) : Prop := w.ownsRow B 24 2 v l.length (cellsF l)
theorem OwnF.start (B : Nat) (w : World) : OwnF B w (.slice none 0 0) [] := World.ownsRow_nil _ _ _ _
theorem OwnF.lt {B : Nat} {w : World} {v : Value} {l : List Fld} (h : OwnF B w v l) {k : Nat} (hk : v.ownBlock = some k) : B ≤ k ∧ k < w.heap.size := World.ownsRow.lt h k hk
theorem OwnF.same {B : Nat} {w w' : World} {v : Value} {l : List Fld} (h : OwnF B w v l) (hs : ∀ k, v.ownBlock = some k → w'.heap[k]? = w.heap[k]?) : OwnF B w' v l := by
  obtain ⟨h1, h2⟩ := h
  refine ⟨h1, ?_⟩
  rcases h2 with h2 | ⟨g, cap, cur, hv, hg, hc, r⟩
  · exact .inl h2
  · exact .inr ⟨g, cap, cur, hv, hg, by rw [hs g (by rw [hv]; rfl)]; exact hc, r⟩
theorem OwnF.keep {B : Nat} {w w' : World} {v : Value} {l : List Fld} (h : OwnF B w v l) (hb : Below w.heap.size w w') : OwnF B w' v l :=
  h.same fun k hk => hb.block k (h.lt hk).2
theorem OwnF.grown {B : Nat} {w w' : World} {v : Value} {l : List Fld} {row : Option Nat} (h : OwnF B w v l) (hg : w.grownBy w' row) (hne : ∀ k, v.ownBlock = some k → some k ≠ row) : OwnF B w' v l :=
  h.same fun k hk => hg.block k (h.lt hk).2 (hne k hk)
theorem OwnF.shape {B : Nat} {w : World} {v : Value} {l : List Fld} (h : OwnF B w v l) : ∃ a cap, v = .slice a l.length cap ∧ FldsC w a l cap ∧ l.length ≤ cap := by
  obtain ⟨h1, h2⟩ := h
  rcases h2 with ⟨rfl, h2⟩ | ⟨g, cap, cur, rfl, hg, hc, hcap, hm, hsz, ht⟩
  · have : l = [] := List.eq_nil_of_length_eq_zero h2
    subst this
    exact ⟨none, 0, rfl, ⟨FldsIn.nil _ _, fun _ => ⟨rfl, rfl⟩⟩, Nat.le_refl _⟩
  · refine ⟨_, cap, rfl, ⟨FldsIn.of_cells fun j u hj => ?_, fun e => by cases e⟩, hcap⟩
    have e := congrArg (fun x => x[j]?) ht
    have hlt : j < l.length * 2 := by rw [← cellsF_len]; exact (List.getElem?_eq_some_iff.1 hj).1
    rw [hj, List.getElem?_take_of_lt hlt] at e
    rw [Addr.add_lit]
    simp only [World.cell?, hc, Nat.zero_add]
    simpa using e
section
variable {ops : Array Oper} {rest : List Oper} {o : Oper} {act : Act} {Q : Exit → Act → World → Prop}
theorem wpList_append_ownf (w : World) (hgd : o.guard = none) (s x : Operand) (ho : o.op = .call { callee := .builtin .append, args := #[s, x], argTypes := #[25, 25] })
    {B : Nat} {v : Value} {l : List Fld} (hs : act.eval s = v) (h : OwnF B w v l) {b c : Nat} (hx : act.eval x = .slice (some ⟨b, 0, none⟩) 1 c) {y : Fld} (hy : w.cell? ⟨b, 0, none⟩ = some (.string y.1)) (hy2 : w.cell? ⟨b, 1, none⟩ = some (.string y.2))
    (hn : l.length + 1 ≤ 4398046511104) (hB : B ≤ w.heap.size)
    (K : ∀ v' w', OwnF B w' v' (l ++ [y]) → w.grownBy w' v.ownBlock → wpList Tryd.prog ops Q rest (act.put o.dst v') w') : wpList Tryd.prog ops Q (o :: rest) act w := by
  obtain ⟨i0, hi, hz0, hz1, hz2⟩ := info_parts Tryd.info24
  refine wpList_append_lies w hgd s x 25 ho B 24 i0 _ 2 32 Tryd.underlying25 hi hz0 hz1 hz2 rfl (by decide) v l.length (cellsF l) hs h ⟨b, 0, none⟩ 1 c [.string y.1, .string y.2] hx rfl ?_ ?_ (by decide) (by unfold maxLen; omega) (by omega) hB w.heap.size rfl ?_
  · intro j u hj
    match j, hj with
    | 0, hj => simp at hj; subst hj; rw [Addr.add_lit]; exact hy
    | 1, hj => simp at hj; subst hj; rw [Addr.add_lit]; exact hy2
    | j + 2, hj => simp at hj
  · intro u hu; simp at hu; rcases hu with rfl | rfl <;> rfl
  · intro g cap w' hown hgrow hg hlt
    refine K _ w' ?_ hgrow
    unfold OwnF
    rw [List.length_append, cellsF_app]; exact hown
end

end Go.Proofs.YtcdianojchmgpaaDoor
namespace Go.Proofs.YtcdianojchmgpaaDoor
open Go.RowKit

/-- The byte of a digit. -/
def dgc (d : Nat) : UInt8 := if d < 10 then UInt8.ofNat (48 + d) else UInt8.ofNat (87 + d)
/-- The digits of n to base b (the step: f is fuel that is never used up). -/
def digsF (b : Nat) : Nat → Nat → List UInt8
  | 0, n => [dgc (n % b)]
  | f + 1, n => if n < b then [dgc n] else digsF b f (n / b) ++ [dgc (n % b)]
def digs (b n : Nat) : List UInt8 := digsF b n n
def numeral (b n : Nat) : ByteArray := ⟨(digs b n).toArray⟩
end Go.Proofs.YtcdianojchmgpaaDoor
namespace Go.Proofs.YtcdianojchmgpaaDoor
open Go.RowKit

def fmtS (b : Nat) (n : Int) : ByteArray := if n < 0 then ⟨#[]⟩ else numeral b n.toNat
end Go.Proofs.YtcdianojchmgpaaDoor
namespace Go.Proofs.YtcdianojchmgpaaDoor
open Go.RowKit

def tgB (c : UInt8) : Bool := decide (33 ≤ (c.toNat : Int)) && decide ((c.toNat : Int) ≤ 126) && !decide ((c.toNat : Int) = 35)
def targetS (s : ByteArray) : Bool := s.data.toList.all tgB && (s.data.toList.head? == some 47)
theorem targetS_no {s : ByteArray} {k : Nat} (hlt : k < s.size) (hc : tgB s[k] = false) : targetS s = false := by
  unfold targetS
  have : s.data.toList.all tgB = false := by
    rw [Bool.eq_false_iff]; intro h
    have := List.all_eq_true.1 h _ (mem_at s k hlt); rw [hc] at this; cases this
  rw [this]; rfl
theorem head_at (s : ByteArray) (h : 0 < s.size) : s.data.toList.head? = some s[0] := by
  rw [List.head?_eq_getElem?, List.getElem?_eq_getElem (by simpa using h)]; rfl
theorem targetS_end {s : ByteArray} {k : Nat} (hk : k ≤ s.size) (hlt : ¬ k < s.size) (h : (s.data.toList.take k).all tgB = true) : targetS s = (s.data.toList.head? == some 47) := by
  unfold targetS
  rw [take_all s k hk hlt] at h
  rw [h]; rfl

end Go.Proofs.YtcdianojchmgpaaDoor
namespace Go.Proofs.YtcdianojchmgpaaDoor
open Go.RowKit

def v10 : ByteArray := ⟨#[72, 84, 84, 80, 47, 49, 46, 48]⟩
def v11 : ByteArray := ⟨#[72, 84, 84, 80, 47, 49, 46, 49]⟩
theorem lit10 : ([72, 84, 84, 80, 47, 49, 46, 48] : List UInt8) = v10.toList := by rw [ByteArray.toList_eq]; rfl
theorem lit11 : ([72, 84, 84, 80, 47, 49, 46, 49] : List UInt8) = v11.toList := by rw [ByteArray.toList_eq]; rfl
end Go.Proofs.YtcdianojchmgpaaDoor
namespace Go.Proofs.YtcdianojchmgpaaDoor
open Go.RowKit

theorem splitB_lim (sep : ByteArray) (h1 : 1 ≤ sep.size) (save : Nat) : ∀ (k : Nat) (s : ByteArray), Lib.countB s sep ≤ k → Lib.splitB sep save k s = Lib.splitB sep save (Lib.countB s sep) s
  | 0, s, h => by rw [Nat.le_zero.1 h]
  | k + 1, s, h => by
    rcases Lib.indexB_cases s sep with hix | ⟨i, hix, _⟩
    · rw [Lib.splitB_miss sep save _ s hix, Lib.splitB_miss sep save _ s hix]
    · have hc := Lib.countB_hit s sep i h1 hix
      rw [hc, Nat.add_comm 1, Lib.splitB_hit sep save _ s i hix, Lib.splitB_hit sep save _ s i hix, splitB_lim sep h1 save k _ (by omega)]
theorem splitB_more (sep : ByteArray) (h1 : 1 ≤ sep.size) (save : Nat) : ∀ (k : Nat) (s : ByteArray), k ≤ Lib.countB s sep → (Lib.splitB sep save k s).length = k + 1
  | 0, _, _ => rfl
  | k + 1, s, h => by
    rcases Lib.indexB_cases s sep with hix | ⟨i, hix, _⟩
    · rw [Lib.countB_miss s sep hix] at h; omega
    · have hc := Lib.countB_hit s sep i h1 hix
      rw [Lib.splitB_hit sep save _ s i hix, List.length_cons, splitB_more sep h1 save k _ (by omega)]
/-- At most four pieces at blanks. -/
def wordsS (s : ByteArray) : List ByteArray := Lib.splitB ⟨#[32]⟩ 0 (min 4 (s.size + 1) - 1) s
theorem wordsS_eq (s : ByteArray) : wordsS s = splitS 32 s ∨ (wordsS s).length = 4 ∧ (splitS 32 s).length ≠ 3 := by
  unfold wordsS
  rw [← splitB_eq]
  have hz : 1 ≤ (⟨#[32]⟩ : ByteArray).size := by decide
  have hle := Lib.countB_le ⟨#[32]⟩ hz s.size s (Nat.le_refl _)
  by_cases h : Lib.countB s ⟨#[32]⟩ ≤ min 4 (s.size + 1) - 1
  · exact .inl (splitB_lim _ hz _ _ s h)
  · right
    have e : min 4 (s.size + 1) - 1 = 3 := by omega
    rw [e]
    refine ⟨splitB_more _ hz _ 3 s (by omega), ?_⟩
    rw [splitB_more _ hz _ _ s (Nat.le_refl _)]; omega
end Go.Proofs.YtcdianojchmgpaaDoor
namespace Go.Proofs.YtcdianojchmgpaaDoor
open Go.RowKit

def versionS (z : Int) : ByteArray := if z = 0 then v10 else if z = 1 then v11 else ⟨#[]⟩
theorem fmtVersion_any (z : Int) (w : World) :
    Calls Tryd.prog 21 #[.int .i64 z] w fun e w' => e = .returned (.string (versionS z)) ∧ w = w' := by
  have hcase : z = 0 ∨ z = 1 ∨ (¬ z = 0 ∧ ¬ z = 1) := by omega
  rcases hcase with rfl | rfl | ⟨h0, h1⟩
  · go_enter Tryd.func21, Tryd.ntmps21
    go_wp2
    go_ret
    exact ⟨rfl, rfl⟩
  · go_enter Tryd.func21, Tryd.ntmps21
    go_wp2
    go_ret
    exact ⟨rfl, rfl⟩
  · have HR := Box.mk (show versionS z = ⟨#[]⟩ by unfold versionS; rw [if_neg h0, if_neg h1])
    have e0 : (z == 0) = false := by rw [beq_eq_false_iff_ne]; exact h0
    have e1 : (z == 1) = false := by rw [beq_eq_false_iff_ne]; exact h1
    clear h0 h1
    go_enter Tryd.func21, Tryd.ntmps21
    go_wp2
    go_ret
    exact ⟨ret_str HR.out.symm, rfl⟩

theorem projDigit_any (c : Int) (w : World) (h0 : 0 ≤ c) (h1 : c ≤ 255) :
    Calls Tryd.prog 64 #[.int .u8 c] w fun e w' => e = .returned (.bool (digB c)) ∧ w = w' := by
  go_enter Tryd.func64, Tryd.ntmps64
  go_wp2
  all_goals go_ret
  all_goals exact ⟨ret_bool (by unfold digB; rw [Bool.eq_iff_iff]; simp; omega), rfl⟩
end Go.Proofs.YtcdianojchmgpaaDoor
namespace Go.Proofs.YtcdianojchmgpaaDoor
open Go.RowKit

def pfxB (p s : ByteArray) : Bool := decide (p.size ≤ s.size ∧ s.extract 0 p.size = p)
set_option maxHeartbeats 1000000 in
theorem litePrefix_any (p s : ByteArray) (w : World) :
    Calls Tryd.prog 56 #[.string s, .string p] w fun e w' => e = .returned (.bool (pfxB p s)) ∧ w = w' := by
  by_cases h1 : p.size ≤ s.size
  · by_cases h2 : s.extract 0 p.size = p
    · have HR := Box.mk (show pfxB p s = true by unfold pfxB; simp [h1, h2])
      have hb : ((s.extract 0 p.size).toList == p.toList) = true := by rw [toList_eq]; simp [h2]
      clear h2
      go_enter Tryd.func56, Tryd.ntmps56
      go_wp2_with fail
      go_ret
      exact ⟨ret_bool HR.out.symm, rfl⟩
    · have HR := Box.mk (show pfxB p s = false by unfold pfxB; simp [h2])
      have hb : ((s.extract 0 p.size).toList == p.toList) = false := by rw [toList_eq]; simp [h2]
      clear h2
      go_enter Tryd.func56, Tryd.ntmps56
      go_wp2_with fail
      go_ret
      exact ⟨ret_bool HR.out.symm, rfl⟩
  · have HR := Box.mk (show pfxB p s = false by unfold pfxB; simp [h1])
    have h1' : s.size < p.size := by omega
    clear h1
    go_enter Tryd.func56, Tryd.ntmps56
    go_wp2_with fail
    go_ret
    exact ⟨ret_bool HR.out.symm, rfl⟩
theorem prefix_any (p s : ByteArray) (w : World) :
    Calls Tryd.prog 37 #[.string s, .string p] w fun e w' => e = .returned (.bool (pfxB p s)) ∧ w = w' := by
  go_enter Tryd.func37, Tryd.ntmps37
  go_wp2_with fail
  refine (litePrefix_any p s _).mono ?_
  rintro e w1 ⟨rfl, rfl⟩
  go_wp2_with fail
  go_ret
  exact ⟨rfl, rfl⟩
set_option maxHeartbeats 1000000 in
theorem liteCutPrefix_yes (p s : ByteArray) (w : World) (h : pfxB p s = true) :
    Calls Tryd.prog 78 #[.string s, .string p] w fun e w' => e = .returned (.tuple #[.string (s.extract p.size s.size), .bool true]) ∧ w = w' := by
  have HP := Box.mk h
  have hle : p.size ≤ s.size := by unfold pfxB at h; simp at h; exact h.1
  clear h
  go_enter Tryd.func78, Tryd.ntmps78
  go_wp2_with fail
  refine (litePrefix_any p s _).mono ?_
  rintro e w1 ⟨he, rfl⟩
  rw [HP.out] at he
  subst he
  go_wp2_with fail
  go_ret2
  exact ⟨rfl, rfl⟩
set_option maxHeartbeats 1000000 in
theorem liteCutPrefix_no (p s : ByteArray) (w : World) (h : pfxB p s = false) :
    Calls Tryd.prog 78 #[.string s, .string p] w fun e w' => e = .returned (.tuple #[.string s, .bool false]) ∧ w = w' := by
  have HP := Box.mk h
  clear h
  go_enter Tryd.func78, Tryd.ntmps78
  go_wp2_with fail
  refine (litePrefix_any p s _).mono ?_
  rintro e w1 ⟨he, rfl⟩
  rw [HP.out] at he
  subst he
  go_wp2_with fail
  go_ret2
  exact ⟨rfl, rfl⟩
theorem cutPrefix_yes (p s : ByteArray) (w : World) (h : pfxB p s = true) :
    Calls Tryd.prog 63 #[.string s, .string p] w fun e w' => e = .returned (.tuple #[.string (s.extract p.size s.size), .bool true]) ∧ w = w' := by
  have HP := Box.mk h
  clear h
  go_enter Tryd.func63, Tryd.ntmps63
  go_wp2_with fail
  refine (liteCutPrefix_yes p s _ HP.out).mono ?_
  rintro e w1 ⟨rfl, rfl⟩
  go_wp2_with fail
  go_ret2
  exact ⟨rfl, rfl⟩
theorem cutPrefix_no (p s : ByteArray) (w : World) (h : pfxB p s = false) :
    Calls Tryd.prog 63 #[.string s, .string p] w fun e w' => e = .returned (.tuple #[.string s, .bool false]) ∧ w = w' := by
  have HP := Box.mk h
  clear h
  go_enter Tryd.func63, Tryd.ntmps63
  go_wp2_with fail
  refine (liteCutPrefix_no p s _ HP.out).mono ?_
  rintro e w1 ⟨rfl, rfl⟩
  go_wp2_with fail
  go_ret2
  exact ⟨rfl, rfl⟩

theorem pfx_slash (s : ByteArray) : pfxB ⟨#[47]⟩ s = (s.data.toList.head? == some 47) := by
  unfold pfxB
  have h1 : (⟨#[47]⟩ : ByteArray).size = 1 := rfl
  rw [h1]
  by_cases h : 0 < s.size
  · rw [head_at s h]
    have hl : s.data.toList.length = s.size := by rw [Array.length_toList]; rfl
    have e : (s.extract 0 1).data.toList = [s[0]] := by
      rw [Lib.extract_from_zero]
      cases hq : s.data.toList with
      | nil => rw [hq] at hl; simp at hl; omega
      | cons a t =>
        have : s.data.toList.head? = some s[0] := head_at s h
        rw [hq] at this
        simp at this
        simp [this]
    rw [Bool.eq_iff_iff]
    simp only [decide_eq_true_eq, beq_iff_eq, Option.some.injEq]
    constructor
    · rintro ⟨_, h2⟩
      rw [h2] at e
      simpa using e.symm
    · intro h2
      exact ⟨h, ba_ext (by rw [e, h2])⟩
  · have hl : s.data.toList.length = s.size := by rw [Array.length_toList]; rfl
    have e : s.data.toList = [] := List.eq_nil_of_length_eq_zero (by omega)
    rw [e, Bool.eq_iff_iff]
    simp only [decide_eq_true_eq]
    constructor
    · rintro ⟨h2, _⟩; omega
    · intro h2; simp at h2

set_option maxRecDepth 100000 in
set_option maxHeartbeats 2000000 in
theorem projTarget_any (s : ByteArray) (w : World) :
    Calls Tryd.prog 23 #[.string s] w fun e w' => e = .returned (.bool (targetS s)) ∧ Below w.heap.size w w' := by
  go_enter Tryd.func23, Tryd.ntmps23
  go_wp2_with fail
  go_loopw [] (fun w' => ∃ pos : Nat, w' = w.iter s pos ∧ pos ≤ s.size ∧ Box ((s.data.toList.take pos).all tgB = true)) (fun w' => s.size - w'.iterPos w.heap.size)
  case atStart => exact ⟨0, rfl, Nat.zero_le _, ⟨by simp⟩⟩
  case round =>
    obtain ⟨pos, rfl, hk, HP⟩ := hrel
    by_cases hp : pos < s.size
    · by_cases ha : s[pos].toNat < 128
      · have hnx : ∀ ty, (Instr.next (.pointer (some ⟨w.heap.size, 0, none⟩)) true ty).run Tryd.prog (w.iter s pos) = _ := fun ty => run_next_ascii w s pos ty hp ha
        have hcase : Box (tgB s[pos] = true) ∧ 33 ≤ (s[pos].toNat : Int) ∧ (s[pos].toNat : Int) ≤ 126 ∧ ((s[pos].toNat : Int) == 35) = false ∨ Box (tgB s[pos] = false) ∧ (s[pos].toNat : Int) < 33
            ∨ Box (tgB s[pos] = false) ∧ 33 ≤ (s[pos].toNat : Int) ∧ 126 < (s[pos].toNat : Int) ∨ Box (tgB s[pos] = false) ∧ 33 ≤ (s[pos].toNat : Int) ∧ (s[pos].toNat : Int) ≤ 126 ∧ ((s[pos].toNat : Int) == 35) = true := by
          by_cases h1 : 33 ≤ (s[pos].toNat : Int)
          · by_cases h2 : (s[pos].toNat : Int) ≤ 126
            · by_cases h3 : (s[pos].toNat : Int) = 35
              · exact .inr (.inr (.inr ⟨⟨by simp [tgB, h3]⟩, h1, h2, by simp [h3]⟩))
              · exact .inl ⟨⟨by simp [tgB, h1, h2, h3]⟩, h1, h2, by rw [beq_eq_false_iff_ne]; exact h3⟩
            · exact .inr (.inr (.inl ⟨⟨by simp [tgB, h2]⟩, h1, by omega⟩))
          · exact .inr (.inl ⟨⟨by simp [tgB, h1]⟩, by omega⟩)
        rcases hcase with ⟨HC, h1, h2, h3⟩ | ⟨HC, h1⟩ | ⟨HC, h1, h2⟩ | ⟨HC, h1, h2, h3⟩
        · go_wp2_with fail
          go_roundw
          case rel => exact ⟨pos + 1, rfl, by omega, ⟨by rw [take_snoc s pos hp, List.all_append, HP.out]; simpa using HC.out⟩⟩
          case measure => simp; omega
        all_goals
          go_wp2_with fail
          go_ret
          exact ⟨ret_bool (targetS_no hp HC.out).symm, below_oneF w _⟩
      · have hd := (decode_high s pos hp (by omega)).1
        have hnx : ∀ ty, (Instr.next (.pointer (some ⟨w.heap.size, 0, none⟩)) true ty).run Tryd.prog (w.iter s pos) = _ := fun ty => run_next_any w s pos ty hp
        have HC := Box.mk (show tgB s[pos] = false by unfold tgB; simp; omega)
        generalize (Utf8.decode s pos).1 = r at *
        generalize (Utf8.decode s pos).2 = wd at *
        clear ha
        have h1 : 33 ≤ (r : Int) := by omega
        have h2 : 126 < (r : Int) := by omega
        go_wp2_with fail
        go_ret
        exact ⟨ret_bool (targetS_no hp HC.out).symm, below_oneF w _⟩
    · have hnx : ∀ ty, (Instr.next (.pointer (some ⟨w.heap.size, 0, none⟩)) true ty).run Tryd.prog (w.iter s pos) = _ := fun ty => run_next_end w s pos ty hp
      have HE := Box.mk (targetS_end hk hp HP.out)
      go_wp2_with fail
      refine (prefix_any ⟨#[47]⟩ s _).mono ?_
      rintro e w1 ⟨rfl, rfl⟩
      go_wp2_with fail
      go_ret
      exact ⟨ret_bool (by rw [HE.out]; exact pfx_slash s), below_oneF w _⟩

end Go.Proofs.YtcdianojchmgpaaDoor
namespace Go.Proofs.YtcdianojchmgpaaDoor
open Go.RowKit

def hslash : ByteArray := ⟨#[72, 84, 84, 80, 47]⟩
def bAt (s : ByteArray) (k : Nat) : UInt8 := s.data.toList.getD k 0
theorem bAt_get (s : ByteArray) (k : Nat) (h : k < s.size) : s[k] = bAt s k := by
  unfold bAt
  rw [List.getD_eq_getElem?_getD, List.getElem?_eq_getElem (by simpa using h)]; rfl
theorem bAt_extract (s : ByteArray) (a b k : Nat) (h : k < (s.extract a b).size) : (s.extract a b)[k]'h = bAt s (a + k) := by
  rw [bAt_get]
  unfold bAt
  rw [Lib.extract_data]
  have h2 : k < b - a := by rw [ByteArray.size_extract] at h; omega
  rw [List.getD_eq_getElem?_getD, List.getD_eq_getElem?_getD, List.getElem?_take_of_lt h2, List.getElem?_drop]
/-- HTTP/, a digit, a point, a digit. -/
def verB (s : ByteArray) : Bool := pfxB hslash s && decide (s.size = 8) && digB (bAt s 5).toNat && decide (bAt s 6 = 46) && digB (bAt s 7).toNat
theorem eq46 {c : UInt8} (h : c = 46) : ((c.toNat : Int) == 46) = true := by rw [h]; rfl
theorem ne46 {c : UInt8} (h : ¬ c = 46) : ((c.toNat : Int) == 46) = false := by
  rw [Bool.eq_false_iff]; intro h2; exact h (UInt8.toNat_inj.1 (by simp at h2; show c.toNat = 46; omega))
theorem u8_le (c : UInt8) : (c.toNat : Int) ≤ 255 := by have := c.toNat_lt; omega

set_option maxRecDepth 100000 in
set_option maxHeartbeats 1000000 in
theorem isVersion_any (s : ByteArray) (w : World) :
    Calls Tryd.prog 50 #[.string s] w fun e w' => e = .returned (.bool (verB s)) ∧ w = w' := by
  by_cases hp : pfxB hslash s = true
  · have HP := Box.mk hp
    have hle : 5 ≤ s.size := by unfold pfxB at hp; simp at hp; exact hp.1
    clear hp
    by_cases h8 : s.size = 8
    · have hg0 := bAt_extract s 5 s.size 0
      have hg1 := bAt_extract s 5 s.size 1
      have hg2 := bAt_extract s 5 s.size 2
      have hz : (s.extract 5 s.size).size = 3 := by rw [ByteArray.size_extract]; omega
      have HD := Box.mk (show ∀ b : Bool, verB s = (digB (bAt s 5).toNat && decide (bAt s 6 = 46) && digB (bAt s 7).toNat) from fun _ => by unfold verB; rw [HP.out]; simp [h8])
      simp only [Nat.add_zero, Nat.reduceAdd] at hg0 hg1 hg2
      generalize bAt s 5 = c5 at *
      generalize bAt s 6 = c6 at *
      generalize bAt s 7 = c7 at *
      generalize hd : s.extract 5 s.size = d at *
      have HDD := Box.mk hd
      have u5 := u8_le c5
      have u6 := u8_le c6
      have u7 := u8_le c7
      clear hd h8
      by_cases q0 : digB c5.toNat = true
      · have Q0 := Box.mk q0
        clear q0
        by_cases q1 : c6 = 46
        · have e1 := eq46 q1
          have Q1 := Box.mk q1
          clear q1
          go_enter Tryd.func50, Tryd.ntmps50
          go_wp2_with fail
          refine (cutPrefix_yes hslash s _ HP.out).mono ?_
          rintro e w1 ⟨he, rfl⟩
          change e = .returned (.tuple #[.string (s.extract 5 s.size), .bool true]) at he
          rw [HDD.out] at he
          subst he
          go_wp2_with fail
          refine (projDigit_any _ _ (by omega) u5).mono ?_
          rintro e w1 ⟨he, rfl⟩
          rw [Q0.out] at he
          subst he
          go_wp2_with fail
          refine (projDigit_any _ _ (by omega) u7).mono ?_
          rintro e w1 ⟨rfl, rfl⟩
          generalize hq : digB c7.toNat = q
          have HQ := Box.mk hq
          clear hq
          go_wp2_with fail
          go_ret
          exact ⟨ret_bool (by rw [HD.out true, Q0.out, Q1.out, HQ.out]; rfl), rfl⟩
        · have e1 := ne46 q1
          have Q1 := Box.mk q1
          clear q1
          go_enter Tryd.func50, Tryd.ntmps50
          go_wp2_with fail
          refine (cutPrefix_yes hslash s _ HP.out).mono ?_
          rintro e w1 ⟨he, rfl⟩
          change e = .returned (.tuple #[.string (s.extract 5 s.size), .bool true]) at he
          rw [HDD.out] at he
          subst he
          go_wp2_with fail
          refine (projDigit_any _ _ (by omega) u5).mono ?_
          rintro e w1 ⟨he, rfl⟩
          rw [Q0.out] at he
          subst he
          go_wp2_with fail
          go_ret
          exact ⟨ret_bool (by rw [HD.out true, Q0.out, decide_eq_false Q1.out]; rfl), rfl⟩
      · have Q0 := Box.mk (show digB c5.toNat = false by simpa using q0)
        clear q0
        go_enter Tryd.func50, Tryd.ntmps50
        go_wp2_with fail
        refine (cutPrefix_yes hslash s _ HP.out).mono ?_
        rintro e w1 ⟨he, rfl⟩
        change e = .returned (.tuple #[.string (s.extract 5 s.size), .bool true]) at he
        rw [HDD.out] at he
        subst he
        go_wp2_with fail
        refine (projDigit_any _ _ (by omega) u5).mono ?_
        rintro e w1 ⟨he, rfl⟩
        rw [Q0.out] at he
        subst he
        go_wp2_with fail
        go_ret
        exact ⟨ret_bool (by rw [HD.out true, Q0.out]; rfl), rfl⟩
    · have HR := Box.mk (show verB s = false by unfold verB; rw [decide_eq_false h8]; simp)
      have hz : ((((s.extract 5 s.size).size : Nat) : Int) == 3) = false := by rw [beq_eq_false_iff_ne, ByteArray.size_extract]; omega
      generalize hd : s.extract 5 s.size = d at *
      have HDD := Box.mk hd
      clear hd h8
      go_enter Tryd.func50, Tryd.ntmps50
      go_wp2_with fail
      refine (cutPrefix_yes hslash s _ HP.out).mono ?_
      rintro e w1 ⟨he, rfl⟩
      change e = .returned (.tuple #[.string (s.extract 5 s.size), .bool true]) at he
      rw [HDD.out] at he
      subst he
      go_wp2_with fail
      go_ret
      exact ⟨ret_bool HR.out.symm, rfl⟩
  · have HP := Box.mk (show pfxB hslash s = false by simpa using hp)
    have HR := Box.mk (show verB s = false by unfold verB; rw [HP.out]; rfl)
    clear hp
    go_enter Tryd.func50, Tryd.ntmps50
    go_wp2_with fail
    refine (cutPrefix_no hslash s _ HP.out).mono ?_
    rintro e w1 ⟨rfl, rfl⟩
    go_wp2_with fail
    go_ret
    exact ⟨ret_bool HR.out.symm, rfl⟩

/-- The minor number of a version, and the error. -/
def verZ (s : ByteArray) : Int × Int := if s = v10 then (0, 0) else if s = v11 then (1, 0) else if verB s then (0, 6) else (0, 2)
set_option maxHeartbeats 1000000 in
theorem parseVersion_any (s : ByteArray) (w : World) :
    Calls Tryd.prog 29 #[.string s] w fun e w' => e = .returned (.tuple #[.int .i64 (verZ s).1, .int .i64 (verZ s).2]) ∧ w = w' := by
  by_cases h0 : s = v10
  · have HR := Box.mk (show verZ s = (0, 0) by unfold verZ; rw [if_pos h0])
    have h1 : (s.toList == [72, 84, 84, 80, 47, 49, 46, 48]) = true := by rw [lit10, toList_eq]; simp; exact h0
    clear h0
    go_enter Tryd.func29, Tryd.ntmps29
    go_wp2_with fail
    go_ret2
    exact ⟨by rw [HR.out]; rfl, rfl⟩
  · have h1 : (s.toList == [72, 84, 84, 80, 47, 49, 46, 48]) = false := by rw [lit10, toList_eq]; simp; exact h0
    by_cases h2 : s = v11
    · have HR := Box.mk (show verZ s = (1, 0) by unfold verZ; rw [if_neg h0, if_pos h2])
      have h3 : (s.toList == [72, 84, 84, 80, 47, 49, 46, 49]) = true := by rw [lit11, toList_eq]; simp; exact h2
      clear h0 h2
      go_enter Tryd.func29, Tryd.ntmps29
      go_wp2_with fail
      go_ret2
      exact ⟨by rw [HR.out]; rfl, rfl⟩
    · have h3 : (s.toList == [72, 84, 84, 80, 47, 49, 46, 49]) = false := by rw [lit11, toList_eq]; simp; exact h2
      by_cases h4 : verB s = true
      · have HR := Box.mk (show verZ s = (0, 6) by unfold verZ; rw [if_neg h0, if_neg h2, if_pos h4])
        have H4 := Box.mk h4
        clear h0 h2 h4
        go_enter Tryd.func29, Tryd.ntmps29
        go_wp2_with fail
        refine (isVersion_any s _).mono ?_
        rintro e w1 ⟨he, rfl⟩
        rw [H4.out] at he
        subst he
        go_wp2_with fail
        go_ret2
        exact ⟨by rw [HR.out]; rfl, rfl⟩
      · have HR := Box.mk (show verZ s = (0, 2) by unfold verZ; rw [if_neg h0, if_neg h2, if_neg h4])
        have H4 := Box.mk (show verB s = false by simpa using h4)
        clear h0 h2 h4
        go_enter Tryd.func29, Tryd.ntmps29
        go_wp2_with fail
        refine (isVersion_any s _).mono ?_
        rintro e w1 ⟨he, rfl⟩
        rw [H4.out] at he
        subst he
        go_wp2_with fail
        go_ret2
        exact ⟨by rw [HR.out]; rfl, rfl⟩

end Go.Proofs.YtcdianojchmgpaaDoor
namespace Go.Proofs.YtcdianojchmgpaaDoor
open Go.RowKit

section
variable {Q : Exit → Act → World → Prop} {a : Act} {w : World} {o : Oper} {s : Spec}
theorem loc_cell {x : Operand} {t : TypeId} (ho : o.op = .load t x) {p : Addr} (hx : a.eval x = .pointer (some p)) {v : Value} (hc : w.cell? p = some v) (ht : (isAgg t).run Tryd.prog w = .ok false w) (hs : s.p v w) :
    o.wp Tryd.prog a w (fun a' w' => ∃ v, a' = a.put o.dst v ∧ Below w.heap.size w w' ∧ s.p v w') Q :=
  loc_load ho (v := v) (by
    rw [hx]
    simp [Instr.loadAt, Instr.sureAddr, loadVar, hc, ht]) hs
theorem agg_string (w : World) : (isAgg 9).run Tryd.prog w = .ok false w := by
  unfold isAgg; rw [Sem.run_bind, run_underlying Tryd.underlying9 w]; rfl
theorem run_fieldR (W : World) (g i : Nat) (h : i < 6) : (Instr.fieldAt 28 (.pointer (some ⟨g, 0, none⟩)) i).run Tryd.prog W = .ok (.pointer (some ⟨g, i, none⟩)) W := by
  match i, h with
  | 0, _ => simp [Instr.fieldAt, run_underlying Tryd.underlying28, Instr.sureAddr, fieldPlace, Addr.add]
  | 1, _ => simp [Instr.fieldAt, run_underlying Tryd.underlying28, Instr.sureAddr, fieldPlace, Addr.add]
  | 2, _ => simp [Instr.fieldAt, run_underlying Tryd.underlying28, Instr.sureAddr, fieldPlace, Addr.add]
  | 3, _ => simp [Instr.fieldAt, run_underlying Tryd.underlying28, Instr.sureAddr, fieldPlace, Addr.add]
  | 4, _ => simp [Instr.fieldAt, run_underlying Tryd.underlying28, Instr.sureAddr, fieldPlace, Addr.add]
  | 5, _ => simp [Instr.fieldAt, run_underlying Tryd.underlying28, Instr.sureAddr, fieldPlace, Addr.add]
theorem loc_fieldR {x : Operand} {i : Nat} (ho : o.op = .fieldAddr 28 x i) {g : Nat} (hx : a.eval x = .pointer (some ⟨g, 0, none⟩)) (hi : i < 6) (hs : s.p (.pointer (some ⟨g, i, none⟩)) w) :
    o.wp Tryd.prog a w (fun a' w' => ∃ v, a' = a.put o.dst v ∧ Below w.heap.size w w' ∧ s.p v w') Q :=
  loc_run (v := .pointer (some ⟨g, i, none⟩)) (by unfold execOp; rw [ho]; simp only [hx, Sem.run_bind, run_fieldR _ _ _ hi, Result.andThen_ok, Sem.run_pure]) (Below.refl _ _) hs
end

def http1 : ByteArray := ⟨#[32, 72, 84, 84, 80, 47, 49, 46]⟩
def fmtReq (m t : ByteArray) (z : Int) : ByteArray :=
  if tokS m = true ∧ targetS t = true ∧ 0 ≤ z ∧ z ≤ 1 then m ++ ⟨#[32]⟩ ++ t ++ http1 ++ fmtS 10 z else ⟨#[]⟩
end Go.Proofs.YtcdianojchmgpaaDoor
namespace Go.Proofs.YtcdianojchmgpaaDoor
open Go.RowKit

section
variable {Q : Exit → Act → World → Prop} {a : Act} {w : World} {o : Oper} {s : Spec}
end

def http0 : ByteArray := ⟨#[72, 84, 84, 80, 47, 49, 46]⟩
end Go.Proofs.YtcdianojchmgpaaDoor
namespace Go.Proofs.YtcdianojchmgpaaDoor
open Go.RowKit

/-- A request's line: method, target, minor. -/
def RVar (w : World) (g : Nat) (m t : ByteArray) (z : Int) : Prop := w.heap[g]? = some (.cells #[.string m, .string t, .int .i64 z, .slice none 0 0, .bool false, .slice none 0 0] 28 (0, 0))
theorem RVar.keep {w w' : World} {g : Nat} {m t : ByteArray} {z : Int} (h : RVar w g m t z) (hb : Below w.heap.size w w') : RVar w' g m t z := by
  unfold RVar at *
  rw [hb.block g (Array.getElem?_eq_some_iff.1 h).1]; exact h
theorem sizeR : (Tryd.prog.info? 28).map (·.size) = some 6 := by kernel_rfl
theorem oneR (m t : ByteArray) (z : Int) : (#[.string m, .string t, .int .i64 z, .slice none 0 0, .bool false, .slice none 0 0] : Array Value).all (·.oneCell') = true := by simp [Value.oneCell']
def reqV : Option (ByteArray × ByteArray × Int) × Int → Value
  | (some f, _) => .tuple #[.agg #[.string f.1, .string f.2.1, .int .i64 f.2.2, .slice none 0 0, .bool false, .slice none 0 0], .int .i64 0]
  | (none, e) => .tuple #[.agg #[.string ⟨#[]⟩, .string ⟨#[]⟩, .int .i64 0, .slice none 0 0, .bool false, .slice none 0 0], .int .i64 e]
def lineR : List ByteArray → Option (ByteArray × ByteArray × Int) × Int
  | [m, t, v] => if tokS m = true ∧ targetS t = true then (if (verZ v).2 = 0 then (some (m, t, (verZ v).1), 0) else (none, (verZ v).2)) else (none, 2)
  | _ => (none, 2)
theorem lineR_no {l : List ByteArray} (h : ¬ l.length = 3) : lineR l = (none, 2) := by
  unfold lineR
  split
  · exact absurd rfl h
  · rfl
theorem lineR_ok {m t v : ByteArray} (h1 : tokS m = true) (h2 : targetS t = true) (h4 : (verZ v).2 = 0) : lineR [m, t, v] = (some (m, t, (verZ v).1), 0) := by
  show (if tokS m = true ∧ targetS t = true then (if (verZ v).2 = 0 then (some (m, t, (verZ v).1), 0) else (none, (verZ v).2)) else (none, 2)) = (_ : Option (ByteArray × ByteArray × Int) × Int)
  rw [if_pos ⟨h1, h2⟩, if_pos h4]
theorem lineR_err {m t v : ByteArray} (h1 : tokS m = true) (h2 : targetS t = true) (h4 : ¬ (verZ v).2 = 0) : lineR [m, t, v] = (none, (verZ v).2) := by
  show (if tokS m = true ∧ targetS t = true then (if (verZ v).2 = 0 then (some (m, t, (verZ v).1), 0) else (none, (verZ v).2)) else (none, 2)) = (_ : Option (ByteArray × ByteArray × Int) × Int)
  rw [if_pos ⟨h1, h2⟩, if_neg h4]
theorem lineR_bad {m t v : ByteArray} (h : ¬ (tokS m = true ∧ targetS t = true)) : lineR [m, t, v] = (none, 2) := by
  show (if tokS m = true ∧ targetS t = true then (if (verZ v).2 = 0 then (some (m, t, (verZ v).1), 0) else (none, (verZ v).2)) else (none, 2)) = (_ : Option (ByteArray × ByteArray × Int) × Int)
  rw [if_neg h]
theorem lineR_words (s : ByteArray) : lineR (wordsS s) = lineR (splitS 32 s) := by
  rcases wordsS_eq s with h | ⟨h1, h2⟩
  · rw [h]
  · rw [lineR_no (by omega), lineR_no h2]
theorem three {l : List ByteArray} (h : l.length = 3) : ∃ a b c, l = [a, b, c] := by
  match l, h with
  | [a, b, c], _ => exact ⟨a, b, c, rfl⟩
theorem wordsS_small {s : ByteArray} (h : (wordsS s).length = 3) (x : ByteArray) (hx : x ∈ wordsS s) : x.size ≤ s.size := by
  rcases wordsS_eq s with h1 | ⟨h1, _⟩
  · rw [h1] at hx; exact splitS_small 32 s x hx
  · omega
theorem cellsOf_at (l : List ByteArray) (n j : Nat) (hj : j < l.length) : (Lib.cellsOf l n)[j]? = some (.string l[j]) := by
  unfold Lib.cellsOf
  rw [List.getElem?_toArray, List.getElem?_append_left (by simpa using hj)]; simp [hj]
theorem splitN_any (s : ByteArray) (w : World) (m : Int) (hs : s.size < 4294967281) (hm : w.cell? ⟨0, 0, none⟩ = some (.int .i64 m)) :
    Calls Tryd.prog 15 #[.string s, .string ⟨#[32]⟩, .int .i64 4] w fun e w' => ∃ cap, e = .returned (.slice (some ⟨w.heap.size, 0, none⟩) (wordsS s).length cap) ∧
      (∀ j (hj : j < (wordsS s).length), w'.cell? ⟨w.heap.size, j, none⟩ = some (.string (wordsS s)[j])) ∧ Below w.heap.size w w' := by
  refine (Any.strings_SplitN { Tryd.laysM147 with } Tryd.laysM147.i9 s ⟨#[32]⟩ 4 m w hs hm (by decide) (by decide) (by decide)).mono ?_
  rintro e w' ⟨he, hw⟩
  refine ⟨_, he, fun j hj => ?_, by rw [hw]; exact (Below.refl _ _).alloc (Nat.le_refl _) _⟩
  rw [hw, new_cellF]
  exact cellsOf_at _ _ j hj

section
variable {Q : Exit → Act → World → Prop} {a : Act} {w : World} {o : Oper} {s : Spec}
theorem loc_index_s {x y : Operand} (ho : o.op = .indexAddr 45 x y) {ad : Addr} {n c k : Nat} (hx : a.eval x = .slice (some ad) n c) (hy : a.eval y = .int .i64 k) (hk : k < n) (hs : s.p (.pointer (some (ad.add k))) w) :
    o.wp Tryd.prog a w (fun a' w' => ∃ v, a' = a.put o.dst v ∧ Below w.heap.size w w' ∧ s.p v w') Q :=
  loc_run (v := .pointer (some (ad.add k))) (by
    have es : (sizeOf (Tryd.prog.elem 45)).run Tryd.prog w = .ok 1 w := by
      rw [show Tryd.prog.elem 45 = 9 by kernel_rfl]
      have h : (Tryd.prog.info? 9).map (·.size) = some 1 := by kernel_rfl
      cases hq : Tryd.prog.info? 9 with
      | none => rw [hq] at h; cases h
      | some i => rw [hq] at h; simp at h; simp [sizeOf, typeInfo, hq, h]
    have h := run_indexAt_slice (P := Tryd.prog) (w := w) 45 ad n c .i64 (k : Int) (by kernel_rfl)
    rw [if_pos ⟨by omega, by omega⟩, es] at h
    simp only [Result.andThen, Int.toNat_natCast, Nat.mul_one] at h
    unfold execOp
    simp only [ho, hx, hy, Sem.run_bind, h, Result.andThen_ok, Sem.run_pure]) (Below.refl _ _) hs
theorem loc_buildR {x y z : Operand} (ho : o.op = .build 28 #[(0, x), (1, y), (2, z)]) {m t : ByteArray} {n : Int} (hx : a.eval x = .string m) (hy : a.eval y = .string t) (hz : a.eval z = .int .i64 n)
    (hs : s.p (.agg #[.string m, .string t, .int .i64 n, .slice none 0 0, .bool false, .slice none 0 0]) w) :
    o.wp Tryd.prog a w (fun a' w' => ∃ v, a' = a.put o.dst v ∧ Below w.heap.size w w' ∧ s.p v w') Q := by
  refine loc_run (v := .agg #[.string m, .string t, .int .i64 n, .slice none 0 0, .bool false, .slice none 0 0]) ?_ (Below.refl _ _) hs
  have hb := run_build (P := Tryd.prog) w 28 #[(0, .string m), (1, .string t), (2, .int .i64 n)] #[.string m, .string t, .int .i64 n, .slice none 0 0, .bool false, .slice none 0 0] (by kernel_rfl)
  unfold execOp
  simp only [ho, List.map_toArray, List.map_cons, List.map_nil, hx, hy, hz, Sem.run_bind, hb, Result.andThen_ok, Sem.run_pure]
end

set_option maxRecDepth 100000 in
set_option maxHeartbeats 2000000 in
theorem projParseReq_any (s : ByteArray) (w : World) (mm : Int) (hs : s.size < 4294967281) (hm : w.cell? ⟨0, 0, none⟩ = some (.int .i64 mm)) :
    Calls Tryd.prog 18 #[.string s] w fun e w' => e = .returned (reqV (lineR (splitS 32 s))) ∧ Below w.heap.size w w' := by
  have HW := Box.mk (lineR_words s)
  have HB := Box.mk (below_oneF w (.cells #[.string ⟨#[]⟩, .string ⟨#[]⟩, .int .i64 0, .slice none 0 0, .bool false, .slice none 0 0] 28))
  have HR := Box.mk (show RVar (w.alloc (.cells #[.string ⟨#[]⟩, .string ⟨#[]⟩, .int .i64 0, .slice none 0 0, .bool false, .slice none 0 0] 28)) w.heap.size ⟨#[]⟩ ⟨#[]⟩ 0 from heap_alloc_new _ _)
  have HM := Box.mk (below_cell HB.out hm)
  have HSM := Box.mk (fun h => wordsS_small (s := s) h)
  clear hm
  go_enter Tryd.func18, Tryd.ntmps18
  go_wp2_with fail
  refine (splitN_any s _ mm hs HM.out).mono ?_
  rintro e w1 ⟨cap, rfl, hcell, hb1⟩
  have HB1 := Box.mk (below_trans HB.out hb1)
  have HR1 := Box.mk (HR.out.keep hb1)
  have HC := Box.mk hcell
  have hg1 : (w.alloc (.cells #[.string ⟨#[]⟩, .string ⟨#[]⟩, .int .i64 0, .slice none 0 0, .bool false, .slice none 0 0] 28)).heap.size = w.heap.size + 1 := World.size_alloc _ _
  rw [hg1] at HC ⊢
  clear hb1 hcell HM HB HR hg1
  generalize hws : wordsS s = ws at *
  clear hws
  by_cases h3 : ws.length = 3
  · obtain ⟨m, t, v, rfl⟩ := three h3
    have hc0 := HC.out 0 (by simp)
    have hc1 := HC.out 1 (by simp)
    have hc2 := HC.out 2 (by simp)
    simp only [List.getElem_cons_zero, List.getElem_cons_succ] at hc0 hc1 hc2
    have HZ := Box.mk (show m.size ≤ maxLen by have := HSM.out rfl m (by simp); unfold maxLen; omega)
    clear h3 HC HSM
    rw [show ([m, t, v] : List ByteArray).length = 3 from rfl]
    by_cases h1 : tokS m = true
    · have H1 := Box.mk h1
      clear h1
      by_cases h2 : targetS t = true
      · have H2 := Box.mk h2
        clear h2
        by_cases h4 : (verZ v).2 = 0
        · have HP := Box.mk (show lineR (splitS 32 s) = (some (m, t, (verZ v).1), 0) by rw [← HW.out]; exact lineR_ok H1.out H2.out h4)
          have H4 := Box.mk h4
          clear h4
          go_wp2_with fail
          refine (token_any m _ HZ.out).mono ?_
          rintro e w2 ⟨he, rfl⟩
          rw [H1.out] at he
          subst he
          go_wp2_with fail
          refine (projTarget_any t _).mono ?_
          rintro e w3 ⟨he, hb3⟩
          rw [H2.out] at he
          subst he
          have HB3 := Box.mk (below_trans HB1.out hb3)
          have HR3 := Box.mk (HR1.out.keep hb3)
          have hd0 := below_cell hb3 hc0
          have hd1 := below_cell hb3 hc1
          have hd2 := below_cell hb3 hc2
          clear hb3 hc0 hc1 hc2 HB1 HR1
          go_wp2_with fail
          refine (parseVersion_any v _).mono ?_
          rintro e w4 ⟨he, rfl⟩
          rw [H4.out] at he
          generalize hzz : (verZ v).1 = z at *
          clear hzz
          subst he
          go_wp2_with fail
          generalize hg : w.heap.size = g at *
          have HG := Box.mk hg
          clear hg
          rename_i K hK
          refine wp_region_store (S := [some (.val (.slice (some ⟨g + 1, 0, none⟩) 3 cap)), some (.val (.pointer (some ⟨g + 1, 0, none⟩))), some (.val (.string m)), some (.val (.slice (some ⟨g + 1, 0, none⟩) 3 cap)), some (.val (.pointer (some ⟨g + 1, 1, none⟩))), some (.val (.string t)), some (.val (.int .i64 z)),
            some (.val (.agg #[.string m, .string t, .int .i64 z, .slice none 0 0, .bool false, .slice none 0 0])), none, some (.val (.int .i64 0))]) 8 [9]
            (fun w' => Below g w w' ∧ RVar w' g m t z) (by kernel_rfl) (by kernel_rfl) (by kernel_rfl) (by kernel_rfl) rfl rfl rfl ?_ ?_ ?_ ?_
          · refine ⟨?_, ?_, ?_, ?_, ?_, ?_, ?_, ?_, ?_, trivial⟩ <;> intro a w5 hb hf hd
            · exact ⟨wanted_none rfl, loc_move rfl (hf.base 4 rfl)⟩
            · exact ⟨wanted_none rfl, loc_index_s (k := 0) rfl (hd 0 rfl) rfl (by decide) rfl⟩
            · exact ⟨wanted_none rfl, loc_cell rfl (hd 1 rfl) (below_cell hb hd0) (agg_string _) rfl⟩
            · exact ⟨wanted_none rfl, loc_move rfl (hf.base 4 rfl)⟩
            · exact ⟨wanted_none rfl, loc_index_s (k := 1) rfl (hd 3 rfl) rfl (by decide) rfl⟩
            · exact ⟨wanted_none rfl, loc_cell rfl (hd 4 rfl) (below_cell hb hd1) (agg_string _) rfl⟩
            · exact ⟨wanted_none rfl, loc_move rfl (hf.base 5 rfl)⟩
            · exact ⟨wanted_none rfl, loc_buildR rfl (hd 2 rfl) (hd 5 rfl) (hd 6 rfl) rfl⟩
            · exact ⟨wanted_none rfl, loc_assign rfl rfl⟩
          · exact ⟨fun a w5 hf hd => ⟨wanted_none rfl, late_assign rfl rfl⟩, trivial⟩
          · refine ⟨rfl, fun a w5 hb hf hd => ⟨wanted_none rfl, ?_⟩⟩
            refine wp_store_row 28 _ _ rfl g #[.string m, .string t, .int .i64 z, .slice none 0 0, .bool false, .slice none 0 0] (hf.base 2 rfl) (hd 7 rfl) 28 _ (HR3.out.keep hb) sizeR rfl (oneR _ _ _) ⟨rfl, ?_, ?_⟩
            · have h8 := HG.out
              exact below_setRow (HB3.out.trans (hb.mono (by have := HB3.out.size; omega))) (Nat.le_refl _) _
            · exact setRow_heap _ _ _ _ _ _ (HR3.out.keep hb)
          · intro a w5 hp hf hh
            refine hK a w5 ?_
            go_wp2_with fail
            refine bodyPost_ret (results_row_tmpF rfl _ w5 g _ _ _ _ (hf.base 2 rfl) hp.2 Tryd.underlying28 rfl sizeR) hf.defers ?_
            rw [show a.tmps.getD 3 undef = .int .i64 0 from hh 9 (by decide)]
            exact ⟨by rw [HP.out]; rfl, by rw [HG.out]; exact hp.1⟩
        · have HP := Box.mk (show lineR (splitS 32 s) = (none, (verZ v).2) by rw [← HW.out]; exact lineR_err H1.out H2.out h4)
          have hb4 : ((verZ v).2 != 0) = true := by rw [bne_iff_ne]; exact h4
          clear h4
          go_wp2_with fail
          refine (token_any m _ HZ.out).mono ?_
          rintro e w2 ⟨he, rfl⟩
          rw [H1.out] at he
          subst he
          go_wp2_with fail
          refine (projTarget_any t _).mono ?_
          rintro e w3 ⟨he, hb3⟩
          rw [H2.out] at he
          subst he
          have HB3 := Box.mk (below_trans HB1.out hb3)
          have HR3 := Box.mk (HR1.out.keep hb3)
          have hd2 := below_cell hb3 hc2
          clear hb3 hc0 hc1 hc2 HB1 HR1
          go_wp2_with fail
          refine (parseVersion_any v _).mono ?_
          rintro e w4 ⟨he, rfl⟩
          generalize (verZ v).1 = z at *
          generalize (verZ v).2 = er at *
          subst he
          go_wp2_with (refine wpList_store_row rfl 28 _ _ rfl w.heap.size #[.string ⟨#[]⟩, .string ⟨#[]⟩, .int .i64 0, .slice none 0 0, .bool false, .slice none 0 0] rfl rfl 28 _ HR3.out sizeR rfl (oneR _ _ _) ?_)
          (try simp only [Exit.inBlock, Exit.then])
          refine bodyPost_ret (results_row_tmpF rfl _ _ w.heap.size _ _ _ _ rfl (setRow_heap _ _ _ _ _ _ HR3.out) Tryd.underlying28 rfl sizeR) rfl ?_
          exact ⟨by rw [HP.out]; rfl, below_setRow HB3.out (Nat.le_refl _) _⟩
      · have H2 := Box.mk (show targetS t = false by simpa using h2)
        have HP := Box.mk (show lineR (splitS 32 s) = (none, 2) by rw [← HW.out]; exact lineR_bad (fun h => h2 h.2))
        clear h2
        go_wp2_with fail
        refine (token_any m _ HZ.out).mono ?_
        rintro e w2 ⟨he, rfl⟩
        rw [H1.out] at he
        subst he
        go_wp2_with fail
        refine (projTarget_any t _).mono ?_
        rintro e w3 ⟨he, hb3⟩
        rw [H2.out] at he
        subst he
        have HB3 := Box.mk (below_trans HB1.out hb3)
        have HR3 := Box.mk (HR1.out.keep hb3)
        clear hb3 hc0 hc1 hc2 HB1 HR1
        go_wp2_with (refine wpList_store_row rfl 28 _ _ rfl w.heap.size #[.string ⟨#[]⟩, .string ⟨#[]⟩, .int .i64 0, .slice none 0 0, .bool false, .slice none 0 0] rfl rfl 28 _ HR3.out sizeR rfl (oneR _ _ _) ?_)
        (try simp only [Exit.inBlock, Exit.then])
        refine bodyPost_ret (results_row_tmpF rfl _ _ w.heap.size _ _ _ _ rfl (setRow_heap _ _ _ _ _ _ HR3.out) Tryd.underlying28 rfl sizeR) rfl ?_
        exact ⟨by rw [HP.out]; rfl, below_setRow HB3.out (Nat.le_refl _) _⟩
    · have H1 := Box.mk (show tokS m = false by simpa using h1)
      have HP := Box.mk (show lineR (splitS 32 s) = (none, 2) by rw [← HW.out]; exact lineR_bad (fun h => h1 h.1))
      clear h1
      go_wp2_with fail
      refine (token_any m _ HZ.out).mono ?_
      rintro e w2 ⟨he, rfl⟩
      rw [H1.out] at he
      subst he
      go_wp2_with (refine wpList_store_row rfl 28 _ _ rfl w.heap.size #[.string ⟨#[]⟩, .string ⟨#[]⟩, .int .i64 0, .slice none 0 0, .bool false, .slice none 0 0] rfl rfl 28 _ HR1.out sizeR rfl (oneR _ _ _) ?_)
      (try simp only [Exit.inBlock, Exit.then])
      refine bodyPost_ret (results_row_tmpF rfl _ _ w.heap.size _ _ _ _ rfl (setRow_heap _ _ _ _ _ _ HR1.out) Tryd.underlying28 rfl sizeR) rfl ?_
      exact ⟨by rw [HP.out]; rfl, below_setRow HB1.out (Nat.le_refl _) _⟩
  · have HP := Box.mk (show lineR (splitS 32 s) = (none, 2) by rw [← HW.out]; exact lineR_no h3)
    have hb3 : (((ws.length : Nat) : Int) != 3) = true := by rw [bne_iff_ne]; omega
    clear h3 HC HSM
    go_wp2_with (refine wpList_store_row rfl 28 _ _ rfl w.heap.size #[.string ⟨#[]⟩, .string ⟨#[]⟩, .int .i64 0, .slice none 0 0, .bool false, .slice none 0 0] rfl rfl 28 _ HR1.out sizeR rfl (oneR _ _ _) ?_)
    (try simp only [Exit.inBlock, Exit.then])
    refine bodyPost_ret (results_row_tmpF rfl _ _ w.heap.size _ _ _ _ rfl (setRow_heap _ _ _ _ _ _ HR1.out) Tryd.underlying28 rfl sizeR) rfl ?_
    exact ⟨by rw [HP.out]; rfl, below_setRow HB1.out (Nat.le_refl _) _⟩
end Go.Proofs.YtcdianojchmgpaaDoor
namespace Go.Proofs.YtcdianojchmgpaaDoor
open Go.RowKit

theorem versionS_dec {z : Int} (h0 : 0 ≤ z) (h1 : z ≤ 1) : ⟨#[32]⟩ ++ versionS z = http1 ++ fmtS 10 z ∧ versionS z = http0 ++ fmtS 10 z := by
  have : z = 0 ∨ z = 1 := by omega
  rcases this with rfl | rfl
  · decide +kernel
  · decide +kernel
theorem versionS_size {z : Int} (h0 : 0 ≤ z) (h1 : z ≤ 1) : (versionS z).size = 8 := by
  have : z = 0 ∨ z = 1 := by omega
  rcases this with rfl | rfl <;> rfl
theorem versionS_no {z : Int} (h : ¬ (0 ≤ z ∧ z ≤ 1)) : versionS z = ⟨#[]⟩ := by
  unfold versionS; rw [if_neg (by omega), if_neg (by omega)]
theorem isEmpty_no {s : ByteArray} (h : 0 < s.size) : s.toList.isEmpty = false := by
  rw [toList_isEmpty]
  cases hq : s.data with
  | mk l => cases l with
    | nil => have : s.size = 0 := by show s.data.size = 0; rw [hq]; rfl
             omega
    | cons _ _ => rfl
set_option maxRecDepth 100000 in
set_option maxHeartbeats 2000000 in
theorem projFormatReq_any (m t : ByteArray) (z : Int) (fa ba : Option Addr) (fn fc bn bc : Nat) (fr : Bool) (w : World) (hm : m.size ≤ 1000000000) (ht : t.size ≤ 1000000000) :
    Calls Tryd.prog 12 #[.agg #[.string m, .string t, .int .i64 z, .slice fa fn fc, .bool fr, .slice ba bn bc]] w fun e w' => e = .returned (.string (fmtReq m t z)) ∧ Below w.heap.size w w' := by
  have HB0 := Box.mk (below_oneF w (.cells #[.string m, .string t, .int .i64 z, .slice fa fn fc, .bool fr, .slice ba bn bc] 28))
  have HRow := Box.mk (show (w.alloc (.cells #[.string m, .string t, .int .i64 z, .slice fa fn fc, .bool fr, .slice ba bn bc] 28)).heap[w.heap.size]? = some (.cells #[.string m, .string t, .int .i64 z, .slice fa fn fc, .bool fr, .slice ba bn bc] 28 (0, 0)) from heap_alloc_new _ _)
  have hml : m.size ≤ maxLen := by unfold maxLen; omega
  by_cases h1 : tokS m = true
  · by_cases h2 : targetS t = true
    · by_cases h3 : 0 ≤ z ∧ z ≤ 1
      · have HR := Box.mk (show fmtReq m t z = m ++ ⟨#[32]⟩ ++ t ++ ⟨#[32]⟩ ++ versionS z by
          unfold fmtReq; rw [if_pos ⟨h1, h2, h3⟩]
          have h := (versionS_dec h3.1 h3.2).1
          rw [ByteArray.append_assoc, ← h, ← ByteArray.append_assoc])
        have hz8 := versionS_size h3.1 h3.2
        have hne := isEmpty_no (s := versionS z) (by omega)
        have H1 := Box.mk h1
        have H2 := Box.mk h2
        clear h1 h2 h3
        have s1 : (m ++ ⟨#[32]⟩).size = m.size + 1 := by rw [ByteArray.size_append]; rfl
        have s2 : (m ++ ⟨#[32]⟩ ++ t).size = m.size + 1 + t.size := by rw [ByteArray.size_append, s1]
        have s3 : (m ++ ⟨#[32]⟩ ++ t ++ ⟨#[32]⟩).size = m.size + 1 + t.size + 1 := by rw [ByteArray.size_append, s2]; rfl
        have a1 := fun W => run_string_add_sum (P := Tryd.prog) (w := W) m ⟨#[32]⟩ (by show m.size + 1 ≤ _; omega)
        have a2 := fun W => run_string_add_sum (P := Tryd.prog) (w := W) (m ++ ⟨#[32]⟩) t (by rw [s1]; omega)
        have a3 := fun W => run_string_add_sum (P := Tryd.prog) (w := W) (m ++ ⟨#[32]⟩ ++ t) ⟨#[32]⟩ (by rw [s2]; show _ + 1 ≤ _; omega)
        have a4 := fun W => run_string_add_sum (P := Tryd.prog) (w := W) (m ++ ⟨#[32]⟩ ++ t ++ ⟨#[32]⟩) (versionS z) (by rw [s3]; omega)
        clear s1 s2 s3 hz8
        generalize hv : versionS z = v at *
        have HV := Box.mk hv
        clear hv
        generalize m ++ ⟨#[32]⟩ = x1 at *
        generalize x1 ++ t = x2 at *
        generalize x2 ++ ⟨#[32]⟩ = x3 at *
        generalize x3 ++ v = x4 at *
        go_enter Tryd.func12, Tryd.ntmps12
        go_wp2_with fail
        refine (fmtVersion_any z _).mono ?_
        rintro e w1 ⟨he, rfl⟩
        rw [HV.out] at he
        subst he
        go_wp2_with fail
        refine (token_any m _ hml).mono ?_
        rintro e w1 ⟨he, rfl⟩
        rw [H1.out] at he
        subst he
        go_wp2_with fail
        refine (projTarget_any t _).mono ?_
        rintro e w2 ⟨he, hb2⟩
        rw [H2.out] at he
        subst he
        have HB2 := Box.mk (below_trans HB0.out hb2)
        have hc0 : w2.cell? ⟨w.heap.size, 0, none⟩ = some (.string m) := below_cell hb2 (by rw [cell_of_row _ _ _ _ _ _ HRow.out]; rfl)
        have hc1 : w2.cell? ⟨w.heap.size, 1, none⟩ = some (.string t) := below_cell hb2 (by rw [cell_of_row _ _ _ _ _ _ HRow.out]; rfl)
        clear hb2 HB0 HRow
        go_wp2_with fail
        go_ret
        exact ⟨ret_str HR.out.symm, HB2.out⟩
      · have HR := Box.mk (show fmtReq m t z = ⟨#[]⟩ by unfold fmtReq; rw [if_neg (fun h => h3 h.2.2)])
        have HV := Box.mk (versionS_no h3)
        have H1 := Box.mk h1
        have H2 := Box.mk h2
        clear h1 h2 h3
        go_enter Tryd.func12, Tryd.ntmps12
        go_wp2_with fail
        refine (fmtVersion_any z _).mono ?_
        rintro e w1 ⟨he, rfl⟩
        rw [HV.out] at he
        subst he
        go_wp2_with fail
        refine (token_any m _ hml).mono ?_
        rintro e w1 ⟨he, rfl⟩
        rw [H1.out] at he
        subst he
        go_wp2_with fail
        refine (projTarget_any t _).mono ?_
        rintro e w2 ⟨he, hb2⟩
        rw [H2.out] at he
        subst he
        have HB2 := Box.mk (below_trans HB0.out hb2)
        clear hb2 HB0 HRow
        go_wp2_with fail
        go_ret
        exact ⟨ret_str HR.out.symm, HB2.out⟩
    · have HR := Box.mk (show fmtReq m t z = ⟨#[]⟩ by unfold fmtReq; rw [if_neg (fun h => h2 h.2.1)])
      have H1 := Box.mk h1
      have H2 := Box.mk (show targetS t = false by simpa using h2)
      clear h1 h2
      go_enter Tryd.func12, Tryd.ntmps12
      go_wp2_with fail
      refine (fmtVersion_any z _).mono ?_
      rintro e w1 ⟨rfl, rfl⟩
      generalize versionS z = v at *
      go_wp2_with fail
      refine (token_any m _ hml).mono ?_
      rintro e w1 ⟨he, rfl⟩
      rw [H1.out] at he
      subst he
      go_wp2_with fail
      refine (projTarget_any t _).mono ?_
      rintro e w2 ⟨he, hb2⟩
      rw [H2.out] at he
      subst he
      have HB2 := Box.mk (below_trans HB0.out hb2)
      clear hb2 HB0 HRow
      go_wp2_with fail
      go_ret
      exact ⟨ret_str HR.out.symm, HB2.out⟩
  · have HR := Box.mk (show fmtReq m t z = ⟨#[]⟩ by unfold fmtReq; rw [if_neg (fun h => h1 h.1)])
    have H1 := Box.mk (show tokS m = false by simpa using h1)
    clear h1
    go_enter Tryd.func12, Tryd.ntmps12
    go_wp2_with fail
    refine (fmtVersion_any z _).mono ?_
    rintro e w1 ⟨rfl, rfl⟩
    generalize versionS z = v at *
    go_wp2_with fail
    refine (token_any m _ hml).mono ?_
    rintro e w1 ⟨he, rfl⟩
    rw [H1.out] at he
    subst he
    go_wp2_with fail
    go_ret
    exact ⟨ret_str HR.out.symm, HB0.out⟩
end Go.Proofs.YtcdianojchmgpaaDoor
namespace Go.Proofs.YtcdianojchmgpaaDoor
open Go.RowKit

def crlf2 : List UInt8 := [13, 10, 13, 10]
/-- The place behind the first CR, LF, CR, LF of l, which begins at i; -1: there is none. -/
def endGo : Nat → List UInt8 → Int
  | _, [] => -1
  | i, x :: r => if (x :: r).take 4 = crlf2 then ((i + 4 : Nat) : Int) else endGo (i + 1) r
def endZ (l : List UInt8) : Int := endGo 0 l
theorem endGo_range : ∀ (l : List UInt8) (i : Nat), endGo i l = -1 ∨ ∃ k : Nat, endGo i l = k ∧ i + 4 ≤ k ∧ k ≤ i + l.length
  | [], _ => .inl rfl
  | x :: r, i => by
    unfold endGo
    by_cases h : (x :: r).take 4 = crlf2
    · rw [if_pos h]
      have h2 := congrArg List.length h
      rw [List.length_take] at h2
      simp only [crlf2, List.length_cons, List.length_nil] at h2
      exact .inr ⟨i + 4, rfl, Nat.le_refl _, by rw [List.length_cons]; omega⟩
    · rw [if_neg h]
      rcases endGo_range r (i + 1) with h | ⟨k, h1, h2, h3⟩
      · exact .inl h
      · exact .inr ⟨k, h1, by omega, by rw [List.length_cons]; omega⟩
/-- What End returns. -/
def endS (b : List UInt8) (most : Int) : Int × Int :=
  if 0 ≤ endZ b ∧ endZ b ≤ most then (endZ b, 0) else if most ≤ b.length then (0, 3) else (0, 4)
/-- The lines of l behind the bytes cur of a line; none where CR or LF stand alone. -/
def linesGo : List UInt8 → List UInt8 → Option (List ByteArray)
  | _, [] => some []
  | cur, x :: r =>
    if (x = 13 ∧ ¬ r.head? = some 10) ∨ (x = 10 ∧ ¬ cur.getLast? = some 13) then none
    else if x = 10 then (linesGo [] r).map (⟨cur.dropLast.toArray⟩ :: ·) else linesGo (cur ++ [x]) r
def linesS (b : List UInt8) : Option (List ByteArray) := if endZ b = b.length ∧ 4 ≤ b.length then (linesGo [] b).map List.dropLast else none
/-- The fields of lines; 3: too many, 2: a line is none of a field. -/
def fieldsGo : List ByteArray → Option (List Fld)
  | [] => some []
  | s :: r => match parseF s with
    | some f => (fieldsGo r).map (f :: ·)
    | none => none
def fieldsS (l : List ByteArray) : Int × List Fld := if 64 < l.length then (3, []) else match fieldsGo l with | some x => (0, x) | none => (2, [])
theorem fieldsGo_snoc : ∀ (l : List ByteArray) (s : ByteArray) (x : List Fld), fieldsGo l = some x → fieldsGo (l ++ [s]) = (parseF s).map fun f => x ++ [f]
  | [], s, x, h => by
    cases h
    show (match parseF s with | some f => (fieldsGo []).map (f :: ·) | none => none) = _
    cases parseF s <;> rfl
  | t :: l, s, x, h => by
    rw [List.cons_append]
    unfold fieldsGo at h ⊢
    cases ht : parseF t with
    | none => rw [ht] at h; cases h
    | some f =>
      rw [ht] at h
      simp only at h ⊢
      cases hx : fieldsGo l with
      | none => rw [hx] at h; cases h
      | some y =>
        rw [hx] at h
        simp only [Option.map_some, Option.some.injEq] at h
        subst h
        rw [fieldsGo_snoc l s y hx]
        cases parseF s <;> rfl
theorem fieldsGo_none : ∀ (l r : List ByteArray), fieldsGo l = none → fieldsGo (l ++ r) = none
  | [], _, h => by cases h
  | t :: l, r, h => by
    rw [List.cons_append]
    unfold fieldsGo at h ⊢
    cases ht : parseF t with
    | none => rfl
    | some f =>
      rw [ht] at h
      simp only at h ⊢
      cases hx : fieldsGo l with
      | none => rw [fieldsGo_none l r hx]; rfl
      | some y => rw [hx] at h; cases h
end Go.Proofs.YtcdianojchmgpaaDoor
namespace Go.Proofs.YtcdianojchmgpaaDoor
open Go.RowKit

theorem isBytes_cap {w : World} {a : Option Addr} {l : List UInt8} {c : Nat} (h : IsBytes w a l c) : l.length ≤ c := by
  rcases h with ⟨_, e, e2⟩ | ⟨_, _, h1, _, _⟩
  · subst e; simp
  · exact h1
end Go.Proofs.YtcdianojchmgpaaDoor
namespace Go.Proofs.YtcdianojchmgpaaDoor
open Go.RowKit

theorem lines_nil (cur : List UInt8) : linesGo cur [] = some [] := by unfold linesGo; rfl
theorem lines_bad {cur : List UInt8} {x : UInt8} {r : List UInt8} (h : (x = 13 ∧ ¬ r.head? = some 10) ∨ (x = 10 ∧ ¬ cur.getLast? = some 13)) : linesGo cur (x :: r) = none := by
  unfold linesGo; rw [if_pos h]
theorem lines_end {cur : List UInt8} {r : List UInt8} (h : cur.getLast? = some 13) : linesGo cur (10 :: r) = (linesGo [] r).map (⟨cur.dropLast.toArray⟩ :: ·) := by
  conv => lhs; unfold linesGo
  rw [if_neg (by rintro (h2 | h2); · exact absurd h2.1 (by decide)
                 · exact h2.2 h), if_pos rfl]
theorem lines_more {cur : List UInt8} {x : UInt8} {r : List UInt8} (hx : ¬ x = 10) (h : x = 13 → r.head? = some 10) : linesGo cur (x :: r) = linesGo (cur ++ [x]) r := by
  conv => lhs; unfold linesGo
  rw [if_neg (by rintro (h2 | h2); · exact h2.2 (h h2.1)
                 · exact hx h2.1), if_neg hx]
theorem end_suffix : ∀ (l : List UInt8) (i : Nat), endGo i l = ((i + l.length : Nat) : Int) → 4 ≤ l.length ∧ l.drop (l.length - 4) = crlf2
  | [], i, h => by
    unfold endGo at h
    omega
  | x :: r, i, h => by
    unfold endGo at h
    by_cases hm : (x :: r).take 4 = crlf2
    · rw [if_pos hm] at h
      have hl : (x :: r).length = 4 := by omega
      refine ⟨by omega, ?_⟩
      rw [hl, Nat.sub_self, List.drop_zero, ← hm, List.take_of_length_le (by omega)]
    · rw [if_neg hm] at h
      obtain ⟨h1, h2⟩ := end_suffix r (i + 1) (by rw [h, List.length_cons]; omega)
      refine ⟨by rw [List.length_cons]; omega, ?_⟩
      rw [List.length_cons, show r.length + 1 - 4 = (r.length - 4) + 1 by omega, List.drop_succ_cons]
      exact h2
theorem StrsAt.dropLast {w : World} {a : Option Addr} {l : List ByteArray} (h : StrsAt w a l) : StrsAt w a l.dropLast := fun j hj => by
  rw [List.length_dropLast] at hj
  obtain ⟨b, off, e, hc⟩ := h j (by omega)
  exact ⟨b, off, e, by rw [List.getElem_dropLast]; exact hc⟩
end Go.Proofs.YtcdianojchmgpaaDoor
namespace Go.Proofs.YtcdianojchmgpaaDoor
open Go.RowKit

theorem take4_prefix (l : List UInt8) : (crlf2.isPrefixOf l = true) ↔ l.take 4 = crlf2 := by
  rw [List.isPrefixOf_iff_prefix, List.prefix_iff_eq_take]
  exact ⟨fun h => h.symm, fun h => h.symm⟩
theorem endGo_index : ∀ (l : List UInt8) (i : Nat), endGo i l = if Lib.index l crlf2 = -1 then -1 else Lib.index l crlf2 + 4 + i
  | [], i => by
    have e : Lib.index [] crlf2 = -1 := rfl
    rw [if_pos e]; rfl
  | x :: r, i => by
    have ih := endGo_index r (i + 1)
    have hge := Lib.index_ge r crlf2
    unfold endGo Lib.index
    by_cases h : (x :: r).take 4 = crlf2
    · rw [if_pos h, if_pos ((take4_prefix _).2 h), if_neg (by decide)]
      omega
    · rw [if_neg h, if_neg (fun e => h ((take4_prefix _).1 e)), ih]
      by_cases h1 : Lib.index r crlf2 = -1
      · rw [if_pos h1, if_pos (beq_iff_eq.2 h1), if_pos rfl]
      · rw [if_neg h1, if_neg (fun e => h1 (beq_iff_eq.1 e)), if_neg (by omega)]
        omega
theorem endGo_take : ∀ (l : List UInt8) (q i : Nat), endGo i (l.take q) = if endGo i l ≤ ((i + q : Nat) : Int) then endGo i l else -1
  | [], q, i => by
    rw [List.take_nil]
    have e : endGo i [] = -1 := rfl
    rw [e, if_pos (by omega)]
  | x :: r, 0, i => by
    rw [List.take_zero]
    have e : endGo i [] = -1 := rfl
    rw [e]
    split
    · rename_i h
      rcases endGo_range (x :: r) i with h2 | ⟨k, h1, h2, _⟩
      · exact h2.symm
      · rw [h1] at h; omega
    · rfl
  | x :: r, q + 1, i => by
    have ih := endGo_take r q (i + 1)
    rw [List.take_succ_cons]
    conv => lhs; unfold endGo
    conv => rhs; unfold endGo
    have e1 : (x :: r.take q).take 4 = ((x :: r).take 4).take (q + 1) := by
      rw [List.take_take, ← List.take_succ_cons, List.take_take, Nat.min_comm]
    by_cases h : (x :: r).take 4 = crlf2
    · rw [if_pos h]
      by_cases hq : 4 ≤ q + 1
      · rw [if_pos (by rw [e1, h, List.take_of_length_le (by simp [crlf2]; omega)]), if_pos (by omega)]
      · rw [if_neg (fun e => by
          rw [e1, h] at e
          have := congrArg List.length e
          rw [List.length_take] at this
          simp [crlf2] at this
          omega), ih]
        rw [if_neg (show ¬ (((i + 4 : Nat) : Int) ≤ ((i + (q + 1) : Nat) : Int)) by omega)]
        split
        · rename_i h3
          rcases endGo_range r (i + 1) with h2 | ⟨k, h1, h2, _⟩
          · exact h2
          · rw [h1] at h3; omega
        · rfl
    · rw [if_neg h, ih]
      by_cases hn : (x :: r.take q).take 4 = crlf2
      · exfalso
        rw [e1] at hn
        have hl := congrArg List.length hn
        rw [List.length_take, List.length_take] at hl
        simp only [crlf2, List.length_cons, List.length_nil] at hl
        rw [List.take_of_length_le (by rw [List.length_take]; omega)] at hn
        exact h hn
      · rw [if_neg hn]
        rw [show i + 1 + q = i + (q + 1) by omega]
/-- Where the library finds the end of the first q bytes. -/
theorem index_endZ (b : List UInt8) (q : Nat) : Lib.index (b.take q) crlf2 = if 0 ≤ endZ b ∧ endZ b ≤ q then endZ b - 4 else -1 := by
  have h1 := endGo_index (b.take q) 0
  have h2 := endGo_take b q 0
  have hge := Lib.index_ge (b.take q) crlf2
  rw [h2] at h1
  unfold endZ
  rw [show ((0 + q : Nat) : Int) = (q : Int) by omega] at h1
  rcases endGo_range b 0 with h | ⟨k, hk, hk1, hk2⟩
  · rw [h] at h1 ⊢
    rw [if_pos (by omega)] at h1
    rw [if_neg (by omega)]
    split at h1
    · assumption
    · omega
  · rw [hk] at h1 ⊢
    by_cases hq : (k : Int) ≤ q
    · rw [if_pos hq] at h1
      rw [if_pos ⟨by omega, hq⟩]
      split at h1 <;> omega
    · rw [if_neg hq] at h1
      rw [if_neg (fun h => hq h.2)]
      split at h1
      · assumption
      · omega

/-- Line ends in l. -/
def prs : List UInt8 → Nat
  | 13 :: 10 :: r => 1 + prs r
  | _ :: r => prs r
  | [] => 0
def crlf1 : List UInt8 := [13, 10]
theorem crlf1_pre (l : List UInt8) : crlf1.isPrefixOf l = true ↔ ∃ r, l = 13 :: 10 :: r := by
  rw [List.isPrefixOf_iff_prefix]
  constructor
  · rintro ⟨t, h⟩; exact ⟨t, h.symm⟩
  · rintro ⟨r, rfl⟩; exact ⟨r, rfl⟩
theorem count_crlf_hit (r : List UInt8) : Lib.count (13 :: 10 :: r) crlf1 = 1 + Lib.count r crlf1 := by
  have h : Lib.index (13 :: 10 :: r) crlf1 = ((0 : Nat) : Int) := by
    unfold Lib.index
    rw [if_pos ((crlf1_pre _).2 ⟨r, rfl⟩)]; rfl
  rw [Lib.count_hit (by simp [crlf1]) h]
  rfl
theorem count_crlf_miss (x : UInt8) (r : List UInt8) (hn : ¬ ∃ t, x :: r = 13 :: 10 :: t) : Lib.count (x :: r) crlf1 = Lib.count r crlf1 := by
  have hix : Lib.index (x :: r) crlf1 = if Lib.index r crlf1 == -1 then -1 else Lib.index r crlf1 + 1 := by
    conv => lhs; unfold Lib.index
    rw [if_neg (fun e => hn ((crlf1_pre _).1 e))]
  by_cases hm : Lib.index r crlf1 = -1
  · rw [Lib.count_miss hm, Lib.count_miss (by rw [hix, if_pos (beq_iff_eq.2 hm)])]
  · have hge := Lib.index_ge r crlf1
    obtain ⟨j, hj⟩ : ∃ j : Nat, Lib.index r crlf1 = j := ⟨(Lib.index r crlf1).toNat, by omega⟩
    have hix' : Lib.index (x :: r) crlf1 = ((j + 1 : Nat) : Int) := by rw [hix, if_neg (fun e => hm (beq_iff_eq.1 e)), hj]; omega
    rw [Lib.count_hit (by simp [crlf1]) hj, Lib.count_hit (by simp [crlf1]) hix']
    rw [show j + 1 + crlf1.length = (j + crlf1.length) + 1 by omega, List.drop_succ_cons]
theorem prs_hit (r : List UInt8) : prs (13 :: 10 :: r) = 1 + prs r := rfl
theorem prs_miss (x : UInt8) (r : List UInt8) (hn : ¬ ∃ t, x :: r = 13 :: 10 :: t) : prs (x :: r) = prs r := by
  conv => lhs; unfold prs
  split
  · rename_i h; cases h; exact absurd ⟨_, rfl⟩ hn
  · rename_i h; cases h; rfl
  · rename_i h; cases h
theorem count_prs (n : Nat) : ∀ l : List UInt8, l.length ≤ n → Lib.count l crlf1 = prs l := by
  induction n with
  | zero => intro l h; obtain rfl := List.eq_nil_of_length_eq_zero (Nat.le_zero.1 h); rfl
  | succ n ih =>
    intro l h
    cases l with
    | nil => rfl
    | cons x r =>
      by_cases hp : ∃ t, x :: r = 13 :: 10 :: t
      · obtain ⟨t, e⟩ := hp
        rw [e, count_crlf_hit, prs_hit, ih t (by rw [e] at h; simp at h; omega)]
      · rw [count_crlf_miss x r hp, prs_miss x r hp, ih r (by simpa using h)]
theorem prs_le (n : Nat) : ∀ l : List UInt8, l.length ≤ n → prs l ≤ l.count 10 ∧ prs l ≤ l.count 13 := by
  induction n with
  | zero => intro l h; obtain rfl := List.eq_nil_of_length_eq_zero (Nat.le_zero.1 h); exact ⟨Nat.zero_le _, Nat.zero_le _⟩
  | succ n ih =>
    intro l h
    cases l with
    | nil => exact ⟨Nat.zero_le _, Nat.zero_le _⟩
    | cons x r =>
      by_cases hp : ∃ t, x :: r = 13 :: 10 :: t
      · obtain ⟨t, e⟩ := hp
        rw [e]
        obtain ⟨h1, h2⟩ := ih t (by rw [e] at h; simp at h; omega)
        rw [prs_hit]
        simp
        omega
      · obtain ⟨h1, h2⟩ := ih r (by simpa using h)
        rw [prs_miss x r hp, List.count_cons, List.count_cons]
        omega
/-- Lines are whole: as the project counts, as the reference reads. -/
theorem lines_whole : ∀ (l cur : List UInt8), (cur.getLast? = some 13 → l.head? = some 10) →
    ((linesGo cur l).isSome = true ↔ (l.count 13 + (if cur.getLast? = some 13 then 1 else 0) = prs (if cur.getLast? = some 13 then 13 :: l else l) ∧ l.count 10 = prs (if cur.getLast? = some 13 then 13 :: l else l)))
  | [], cur, hp => by
    have hn : ¬ cur.getLast? = some 13 := fun e => by have := hp e; cases this
    rw [lines_nil, if_neg hn, if_neg hn]
    simp [prs]
  | x :: r, cur, hp => by
    by_cases hc : cur.getLast? = some 13
    · have hx : x = 10 := by have := hp hc; simpa using this
      subst hx
      have ih := lines_whole r [] (by simp)
      rw [if_neg (by simp)] at ih
      rw [lines_end hc, if_pos hc, if_pos hc, prs_hit, Option.isSome_map, ih, List.count_cons, List.count_cons]
      rw [if_neg (by simp)]
      simp
      omega
    · rw [if_neg hc, if_neg hc]
      obtain ⟨hl1, hl2⟩ := prs_le r.length r (Nat.le_refl _)
      by_cases h10 : x = 10
      · subst h10
        rw [lines_bad (.inr ⟨rfl, hc⟩), prs_miss 10 r (fun ⟨t, e⟩ => by injection e with e1 _; exact absurd e1 (by decide)), List.count_cons, List.count_cons]
        simp
        omega
      · by_cases h13 : x = 13
        · subst h13
          by_cases hr : r.head? = some 10
          · rw [lines_more h10 (fun _ => hr)]
            have ih := lines_whole r (cur ++ [13]) (fun _ => hr)
            rw [if_pos (by simp), if_pos (by simp)] at ih
            rw [ih, List.count_cons, List.count_cons]
            simp
          · rw [lines_bad (.inl ⟨rfl, hr⟩), prs_miss 13 r (fun ⟨t, e⟩ => by injection e with _ e2; rw [e2] at hr; exact hr rfl), List.count_cons, List.count_cons]
            simp
            omega
        · rw [lines_more h10 (fun e => absurd e h13)]
          have hl : ¬ (cur ++ [x]).getLast? = some 13 := by simpa using h13
          have ih := lines_whole r (cur ++ [x]) (fun e => absurd e hl)
          rw [if_neg hl, if_neg hl] at ih
          rw [ih, prs_miss x r (fun ⟨t, e⟩ => by injection e with e1 _; exact h13 e1), List.count_cons, List.count_cons]
          simp [h10, h13]
theorem lines_counts (b : List UInt8) : (linesGo [] b).isSome = true ↔ (b.count 13 = Lib.count b crlf1 ∧ b.count 10 = Lib.count b crlf1) := by
  have h := lines_whole b [] (by simp)
  rw [if_neg (by simp), if_neg (by simp)] at h
  rw [h, count_prs b.length b (Nat.le_refl _)]
  simp

/-- The pieces of l at line ends, behind the bytes cur of the first. -/
def spl : List UInt8 → List UInt8 → List ByteArray
  | cur, [] => [⟨cur.toArray⟩]
  | cur, x :: r => if x = 10 ∧ cur.getLast? = some 13 then ⟨cur.dropLast.toArray⟩ :: spl [] r else spl (cur ++ [x]) r
theorem lines_spl : ∀ (t cur : List UInt8) (L : List ByteArray), linesGo cur (t ++ crlf2) = some L → L = spl cur t ++ [⟨#[]⟩]
  | [], cur, L, h => by
    have e : linesGo cur ([] ++ crlf2) = some [⟨cur.toArray⟩, ⟨#[]⟩] := by
      show linesGo cur [13, 10, 13, 10] = _
      rw [lines_more (by decide) (fun _ => rfl), lines_end (by simp), lines_more (by decide) (fun _ => rfl), lines_end (by simp), lines_nil]
      simp
    rw [e] at h
    cases h
    rfl
  | x :: r, cur, L, h => by
    rw [List.cons_append] at h
    unfold spl
    by_cases hb : (x = 13 ∧ ¬ (r ++ crlf2).head? = some 10) ∨ (x = 10 ∧ ¬ cur.getLast? = some 13)
    · rw [lines_bad hb] at h; cases h
    · by_cases h10 : x = 10
      · have hc : cur.getLast? = some 13 := Classical.byContradiction fun e => hb (.inr ⟨h10, e⟩)
        subst h10
        rw [if_pos ⟨rfl, hc⟩]
        rw [lines_end hc] at h
        cases hr : linesGo [] (r ++ crlf2) with
        | none => rw [hr] at h; cases h
        | some y =>
          rw [hr] at h
          cases h
          rw [lines_spl r [] y hr]
          rfl
      · rw [if_neg (fun e => h10 e.1)]
        rw [lines_more h10 (fun e => Classical.byContradiction fun e2 => hb (.inl ⟨e, e2⟩))] at h
        exact lines_spl r _ L h
def crlfB : ByteArray := ⟨#[13, 10]⟩
theorem occ_crlf {l : List UInt8} {j : Nat} : Lib.occAt l crlf1 j = true ↔ l[j]? = some 13 ∧ l[j + 1]? = some 10 := by
  unfold Lib.occAt
  rw [crlf1_pre]
  constructor
  · rintro ⟨r, h⟩
    have h0 : (l.drop j)[0]? = some 13 := by rw [h]; rfl
    have h1 : (l.drop j)[1]? = some 10 := by rw [h]; rfl
    rw [List.getElem?_drop] at h0 h1
    exact ⟨h0, h1⟩
  · rintro ⟨h0, h1⟩
    have e0 : (l.drop j)[0]? = some 13 := by rw [List.getElem?_drop]; exact h0
    have e1 : (l.drop j)[1]? = some 10 := by rw [List.getElem?_drop]; exact h1
    match hd : l.drop j, e0, e1 with
    | x :: y :: r, e0, e1 =>
      simp at e0 e1
      exact ⟨r, by rw [e0, e1]⟩
/-- No line end lies in cur. -/
def NoEnd (cur : List UInt8) : Prop := ∀ j, Lib.occAt cur crlf1 j = false
theorem NoEnd.nil : NoEnd [] := fun j => by
  rw [Bool.eq_false_iff]; intro h
  have := (occ_crlf.1 h).1
  simp at this
theorem NoEnd.snoc {cur : List UInt8} {x : UInt8} (h : NoEnd cur) (hx : ¬ (x = 10 ∧ cur.getLast? = some 13)) : NoEnd (cur ++ [x]) := fun j => by
  rw [Bool.eq_false_iff]; intro hj
  obtain ⟨h0, h1⟩ := occ_crlf.1 hj
  by_cases hl : j + 1 < cur.length
  · rw [List.getElem?_append_left (by omega)] at h0
    rw [List.getElem?_append_left hl] at h1
    have := h j
    rw [occ_crlf.2 ⟨h0, h1⟩] at this
    cases this
  · by_cases he : j + 1 = cur.length
    · apply hx
      rw [List.getElem?_append_right (by omega), he, Nat.sub_self] at h1
      refine ⟨by simpa using h1, ?_⟩
      rw [List.getElem?_append_left (by omega)] at h0
      rw [List.getLast?_eq_getElem?, ← he]
      exact h0
    · rw [List.getElem?_append_right (by omega)] at h1
      have hk : j + 1 - cur.length ≠ 0 := by omega
      obtain ⟨k, hk2⟩ := Nat.exists_eq_succ_of_ne_zero hk
      rw [hk2] at h1
      simp at h1
theorem indexB_list (s : List UInt8) : Lib.indexB ⟨s.toArray⟩ crlfB = Lib.index s crlf1 := rfl
theorem spl_split : ∀ (s cur : List UInt8) (k : Nat), NoEnd cur → Lib.countB ⟨(cur ++ s).toArray⟩ crlfB ≤ k → Lib.splitB crlfB 0 k ⟨(cur ++ s).toArray⟩ = spl cur s
  | [], cur, k, hn, _ => by
    rw [List.append_nil]
    rw [Lib.splitB_miss]
    · rfl
    · rw [indexB_list]
      exact Lib.index_none fun j _ => hn j
  | x :: r, cur, k, hn, hk => by
    unfold spl
    by_cases hx : x = 10 ∧ cur.getLast? = some 13
    · rw [if_pos hx]
      obtain ⟨rfl, hc⟩ := hx
      obtain ⟨c, rfl⟩ : ∃ c, cur = c ++ [13] := by
        obtain ⟨ys, h⟩ := List.getLast?_eq_some_iff.1 hc
        exact ⟨ys, h⟩
      rw [List.dropLast_concat]
      have hi : Lib.index (c ++ [13] ++ 10 :: r) crlf1 = (c.length : Int) := by
        refine Lib.index_first (by simp) ?_ ?_
        · rw [occ_crlf]
          constructor
          · simp
          · simp
        · intro j hj
          rw [Bool.eq_false_iff]; intro ho
          obtain ⟨h0, h1⟩ := occ_crlf.1 ho
          rw [List.getElem?_append_left (by simp; omega)] at h0 h1
          have := hn j
          rw [occ_crlf.2 ⟨h0, h1⟩] at this
          cases this
      have hib : Lib.indexB ⟨(c ++ [13] ++ 10 :: r).toArray⟩ crlfB = (c.length : Int) := hi
      have e2 : (⟨(c ++ [13] ++ 10 :: r).toArray⟩ : ByteArray).extract (c.length + crlfB.size) (⟨(c ++ [13] ++ 10 :: r).toArray⟩ : ByteArray).size = ⟨r.toArray⟩ := by
        apply ByteArray.ext
        apply Array.ext'
        rw [Lib.extract_to_end]
        show (c ++ [13] ++ 10 :: r).drop (c.length + 2) = r
        rw [show c ++ [13] ++ 10 :: r = (c ++ [13, 10]) ++ r by simp, List.drop_append_of_le_length (by simp)]
        rw [show c.length + 2 = (c ++ [13, 10]).length by simp, List.drop_length, List.nil_append]
      have hc2 := Lib.countB_hit _ crlfB c.length (by decide) hib
      rw [e2] at hc2
      obtain ⟨k', rfl⟩ : ∃ k', k = k' + 1 := ⟨k - 1, by omega⟩
      rw [Lib.splitB_hit crlfB 0 k' _ c.length hib, e2]
      have ih := spl_split r [] k' NoEnd.nil (by rw [List.nil_append]; omega)
      rw [List.nil_append] at ih
      rw [ih]
      congr 1
      apply ByteArray.ext
      apply Array.ext'
      rw [ByteArray.data_extract, Array.toList_extract]
      show List.extract (c ++ [13] ++ 10 :: r) 0 (c.length + 0) = c
      simp [List.extract]
    · rw [if_neg hx]
      have ih := spl_split r (cur ++ [x]) k (hn.snoc hx) (by rw [List.append_assoc]; exact hk)
      rw [List.append_assoc] at ih
      exact ih
end Go.Proofs.YtcdianojchmgpaaDoor
namespace Go.Proofs.YtcdianojchmgpaaDoor
open Go.RowKit

theorem fieldsGo_stop {l : List ByteArray} {k : Nat} {x : List Fld} {s : ByteArray} (hk : k < l.length) (hs : l[k] = s) (h : fieldsGo (l.take k) = some x) : fieldsGo (l.take (k + 1)) = (parseF s).map fun f => x ++ [f] := by
  rw [List.take_succ_eq_append_getElem hk, hs]
  exact fieldsGo_snoc _ _ _ h
theorem AccF.fresh {w0 w : World} {a : Option Addr} {n c : Nat} {l : List Fld} (h : AccF w0 w (.slice a n c) l) : ∀ y, a = some y → w0.heap.size ≤ y.block := fun y hy => by
  obtain ⟨⟨_, h2⟩, _⟩ := h
  rcases h2 with ⟨e, _⟩ | ⟨g, cap, cur, hv, hg, _⟩
  · injection e with e1 _ _
    rw [e1] at hy; cases hy
  · injection hv with e1 _ _
    rw [e1] at hy
    obtain rfl := Option.some.inj hy
    exact hg
theorem fieldsS_big {l : List ByteArray} (h : 64 < l.length) : fieldsS l = (3, []) := by unfold fieldsS; rw [if_pos h]
theorem fieldsS_some {l : List ByteArray} {x : List Fld} (h : ¬ 64 < l.length) (hx : fieldsGo l = some x) : fieldsS l = (0, x) := by unfold fieldsS; rw [if_neg h, hx]
theorem fieldsS_none {l : List ByteArray} (h : ¬ 64 < l.length) (hx : fieldsGo l = none) : fieldsS l = (2, []) := by unfold fieldsS; rw [if_neg h, hx]
end Go.Proofs.YtcdianojchmgpaaDoor
namespace Go.Proofs.YtcdianojchmgpaaDoor
open Go.RowKit

theorem cell_same {w w' : World} {p : Addr} (h : w'.heap[p.block]? = w.heap[p.block]?) : w'.cell? p = w.cell? p := by
  unfold World.cell?
  rw [h]
theorem add_block (x : Addr) (j : Nat) : (x.add j).block = x.block := by unfold Addr.add; split <;> rfl
theorem IsBytes.same {w w' : World} {a : Option Addr} {l : List UInt8} {c : Nat} (h : IsBytes w a l c) (hs : ∀ x, a = some x → l ≠ [] → w'.heap[x.block]? = w.heap[x.block]?) : IsBytes w' a l c := by
  rcases h with h | ⟨x, h1, h2, h3, h4⟩
  · exact .inl h
  · refine .inr ⟨x, h1, h2, h3, fun j hj => ?_⟩
    have e : w'.heap[(x.add j).block]? = w.heap[(x.add j).block]? := by
      rw [add_block]
      exact hs x h1 (fun e => by rw [e] at hj; exact absurd hj (Nat.not_lt_zero _))
    rw [cell_same e]
    exact h4 j hj
theorem IsBytes.lt {w : World} {x : Addr} {l : List UInt8} {c : Nat} (h : IsBytes w (some x) l c) (hl : l ≠ []) : x.block < w.heap.size := by
  rcases h with ⟨h, _⟩ | ⟨y, h1, h2, h3, h4⟩
  · cases h
  · obtain rfl := Option.some.inj h1
    have h0 : 0 < l.length := List.length_pos_iff.2 hl
    have := h4 0 h0
    have h5 := World.block_lt_of_cell? w _ this
    rw [add_block] at h5; exact h5
section
variable {ops : Array Oper} {rest : List Oper} {o : Oper} {act : Act} {Q : Exit → Act → World → Prop}
end
end Go.Proofs.YtcdianojchmgpaaDoor
namespace Go.Proofs.YtcdianojchmgpaaDoor
open Go.RowKit

theorem lineR_ne (l : List ByteArray) (h : (lineR l).1 = none) : ¬ (lineR l).2 = 0 := by
  unfold lineR at h ⊢
  split at h
  · rename_i m t v
    by_cases h1 : tokS m = true ∧ targetS t = true
    · rw [if_pos h1] at h ⊢
      by_cases h2 : (verZ v).2 = 0
      · rw [if_pos h2] at h; cases h
      · rw [if_neg h2]; exact h2
    · rw [if_neg h1]; decide
  · decide
theorem parseF_small {s : ByteArray} {f : Fld} (h : parseF s = some f) : f.1.size ≤ s.size ∧ f.2.size ≤ s.size := by
  unfold parseF at h
  split at h
  · split at h
    · cases h
      exact ⟨extract_le _ _ _, Nat.le_trans (trimBA_size _) (extract_le _ _ _)⟩
    · cases h
  · cases h
theorem fieldsGo_small : ∀ (l : List ByteArray) (x : List Fld), fieldsGo l = some x → (∀ s ∈ l, s.size ≤ maxLen) → ShortF x ∧ x.length = l.length
  | [], x, h, _ => by
    cases h
    exact ⟨fun f hf => absurd hf (by simp), rfl⟩
  | t :: l, x, h, hz => by
    unfold fieldsGo at h
    cases ht : parseF t with
    | none => rw [ht] at h; cases h
    | some f =>
      rw [ht] at h
      simp only at h
      cases hx : fieldsGo l with
      | none => rw [hx] at h; cases h
      | some y =>
        rw [hx] at h
        simp only [Option.map_some, Option.some.injEq] at h
        subst h
        obtain ⟨h1, h2⟩ := fieldsGo_small l y hx (fun s hs => hz s (List.mem_cons_of_mem _ hs))
        have h3 := parseF_small ht
        have h4 := hz t (List.mem_cons_self ..)
        refine ⟨fun g hg => ?_, by simp [h2]⟩
        rcases List.mem_cons.1 hg with rfl | hg
        · exact ⟨Nat.le_trans h3.1 h4, Nat.le_trans h3.2 h4⟩
        · exact h1 g hg
theorem fieldsS_small {l : List ByteArray} {x : List Fld} {er : Int} (h : fieldsS l = (er, x)) (hz : ∀ s ∈ l, s.size ≤ maxLen) : ShortF x ∧ x.length ≤ 64 ∧ (¬ er = 0 → x = []) := by
  unfold fieldsS at h
  split at h
  · cases h
    exact ⟨fun f hf => absurd hf (by simp), by simp, fun _ => rfl⟩
  · rename_i h64
    cases hx : fieldsGo l with
    | none =>
      rw [hx] at h
      cases h
      exact ⟨fun f hf => absurd hf (by simp), by simp, fun _ => rfl⟩
    | some y =>
      rw [hx] at h
      cases h
      obtain ⟨h1, h2⟩ := fieldsGo_small l x hx hz
      exact ⟨h1, by omega, fun e => absurd rfl e⟩
def hostN : ByteArray := ⟨#[104, 111, 115, 116]⟩
/-- What ParseRequest returns: error, method, target, minor version, fields. -/
def headR (b : List UInt8) : Int × ByteArray × ByteArray × Int × List Fld :=
  match linesS b with
  | some (l0 :: ls) =>
    match lineR (splitS 32 l0) with
    | (some f, _) =>
      if (fieldsS ls).1 = 0 then (if 1 < (valuesL (fieldsS ls).2 hostN).length ∨ ((valuesL (fieldsS ls).2 hostN).length = 0 ∧ f.2.2 = 1) then (2, ⟨#[]⟩, ⟨#[]⟩, 0, []) else (0, f.1, f.2.1, f.2.2, (fieldsS ls).2))
      else ((fieldsS ls).1, ⟨#[]⟩, ⟨#[]⟩, 0, [])
    | (none, e) => (e, ⟨#[]⟩, ⟨#[]⟩, 0, [])
  | _ => (2, ⟨#[]⟩, ⟨#[]⟩, 0, [])
def RetReqH (w : World) (r : Int × ByteArray × ByteArray × Int × List Fld) (e : Ending) (w' : World) : Prop :=
  ∃ fa fc, e = .returned (.tuple #[.agg #[.string r.2.1, .string r.2.2.1, .int .i64 r.2.2.2.1, .slice fa r.2.2.2.2.length fc, .bool false, .slice none 0 0], .int .i64 r.1]) ∧ FldsIn w' fa r.2.2.2.2 ∧ Below w.heap.size w w'
def QVarH (w : World) (g : Nat) (m t : ByteArray) (z : Int) (v : Value) : Prop := w.heap[g]? = some (.cells #[.string m, .string t, .int .i64 z, v, .bool false, .slice none 0 0] 28 (0, 0))
theorem QVarH.keep {w w' : World} {g : Nat} {m t : ByteArray} {z : Int} {v : Value} (h : QVarH w g m t z v) (hb : Below w.heap.size w w') : QVarH w' g m t z v := by
  unfold QVarH at *
  rw [hb.block g (Array.getElem?_eq_some_iff.1 h).1]; exact h
theorem oneQH (m t : ByteArray) (z : Int) (a : Option Addr) (n c : Nat) : (#[.string m, .string t, .int .i64 z, .slice a n c, .bool false, .slice none 0 0] : Array Value).all (·.oneCell') = true := by simp [Value.oneCell']
theorem QVarH.cells {w : World} {g : Nat} {m t : ByteArray} {z : Int} {v : Value} (h : QVarH w g m t z v) : w.cell? ⟨g, 2, none⟩ = some (.int .i64 z) ∧ w.cell? ⟨g, 3, none⟩ = some v := by
  refine ⟨?_, ?_⟩ <;> rw [cell_of_row _ _ _ _ _ _ h] <;> rfl
theorem QVarH.put {w : World} {g : Nat} {m t : ByteArray} {z : Int} {v u : Value} (h : QVarH w g m t z v) : QVarH (w.setCell ⟨g, 3, none⟩ u) g m t z u := by
  unfold QVarH; rw [heap_setCell_same _ _ _ _ _ _ h]; rfl
theorem QVarH.frozen {w : World} {g i : Nat} {m t : ByteArray} {z : Int} {v : Value} (h : QVarH w g m t z v) : w.frozen? ⟨g, i, none⟩ = false := by
  unfold QVarH at h; simp [World.frozen?, h]
theorem QVarH.cells6 {w : World} {g : Nat} {m t : ByteArray} {z : Int} {v : Value} (h : QVarH w g m t z v) : w.cell? ⟨g, 0, none⟩ = some (.string m) ∧ w.cell? ⟨g, 1, none⟩ = some (.string t) ∧ w.cell? ⟨g, 2, none⟩ = some (.int .i64 z) ∧ w.cell? ⟨g, 3, none⟩ = some v ∧ w.cell? ⟨g, 4, none⟩ = some (.bool false) ∧ w.cell? ⟨g, 5, none⟩ = some (.slice none 0 0) := by
  refine ⟨?_, ?_, ?_, ?_, ?_, ?_⟩ <;> rw [cell_of_row _ _ _ _ _ _ h] <;> rfl
theorem FldsIn.same {w w' : World} {a : Option Addr} {l : List Fld} (h : FldsIn w a l) (hs : ∀ y, a = some y → w'.heap[y.block]? = w.heap[y.block]?) : FldsIn w' a l := fun j hj => by
  obtain ⟨x, e, h1, h2⟩ := h j hj
  have hx := hs x e
  exact ⟨x, e, (cell_same (w := w) (w' := w') (by rw [add_block]; exact hx)).trans h1, (cell_same (w := w) (w' := w') (by rw [add_block]; exact hx)).trans h2⟩
theorem StrsAt.tail {w : World} {g : Nat} {s : ByteArray} {l : List ByteArray} (h : StrsAt w (some ⟨g, 0, none⟩) (s :: l)) : StrsAt w (some ⟨g, 1, none⟩) l := fun j hj => by
  obtain ⟨b, off, e, hc⟩ := h (j + 1) (by rw [List.length_cons]; omega)
  cases e
  refine ⟨g, 1, rfl, ?_⟩
  rw [show 1 + j = 0 + (j + 1) by omega]
  exact hc
theorem StrsAt.head {w : World} {g : Nat} {s : ByteArray} {l : List ByteArray} (h : StrsAt w (some ⟨g, 0, none⟩) (s :: l)) : w.cell? ⟨g, 0, none⟩ = some (.string s) := by
  obtain ⟨b, off, e, hc⟩ := h 0 (by simp)
  cases e
  exact hc
end Go.Proofs.YtcdianojchmgpaaDoor
namespace Go.Proofs.YtcdianojchmgpaaDoor
open Go.RowKit

theorem allB_yes {l : List Fld} (h : ∀ f ∈ l, fldB f.1 f.2 = true) : allB l = true := by
  unfold allB
  exact List.all_eq_true.2 h
/-- The bytes of a head with the start line s and the fields x; none if one of them cannot be written. -/
def headB (s : ByteArray) (x : List Fld) : List UInt8 := if s.size = 0 ∨ allB x = false then [] else s.data.toList ++ [13, 10] ++ linesB x ++ [13, 10]
theorem headB_no {s : ByteArray} {x : List Fld} (h : s.size = 0 ∨ allB x = false) : headB s x = [] := by unfold headB; rw [if_pos h]
theorem headB_yes {s : ByteArray} {x : List Fld} (h : ¬ s.size = 0) (h2 : allB x = true) : headB s x = s.data.toList ++ [13, 10] ++ linesB x ++ [13, 10] := by
  unfold headB
  rw [if_neg (fun e => e.elim h (fun e => by rw [h2] at e; cases e))]
theorem empty_s {y : ByteArray} (h : y.size = 0) : y.toList.isEmpty = true := by
  rw [ByteArray.toList_eq, List.isEmpty_iff, ← List.length_eq_zero_iff, Array.length_toList]; exact h
theorem full_s {y : ByteArray} (h : ¬ y.size = 0) : y.toList.isEmpty = false := by
  rw [← Bool.not_eq_true, ByteArray.toList_eq, List.isEmpty_iff, ← List.length_eq_zero_iff, Array.length_toList]; exact h
end Go.Proofs.YtcdianojchmgpaaDoor
