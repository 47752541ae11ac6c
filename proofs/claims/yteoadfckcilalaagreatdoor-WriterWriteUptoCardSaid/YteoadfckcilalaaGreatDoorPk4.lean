/- The version of a line, of package startline. FormatRequestLine of the reference. FormatStatusLine of the reference. ParseStatusLine of the reference. The request line, parsed: package startline and the reference. The request line, parsed by the reference. The status line, parsed by package startline: the same as the reference's. fields, name and awake of the laws; Short. The law FieldWithout. Contracts of strconv.FormatInt at base 16, and of the functions of package number that write a number. SameReply and SameRequest of the reference, at equal messages; FormatRequest and FormatStatus of package startline. Heads of messages: where a head ends, its lines. The reference's End. The reference's lines. Heads by the library's search: index, count, pieces at line ends. Plain mathematics. The reference's fields of lines. -/
import Derived.Test.YteoadfckcilalaaGreatDoorPk1
import Derived.Test.YteoadfckcilalaaGreatDoorPk2
import Derived.Test.YteoadfckcilalaaGreatDoorPk3
import Derived.Test.YteoadfckcilalaaGreatDoorRows
import Derived.WalkKit
import Derived.WalkSpells
import Derived.WalkLawsBesides
import Derived.BigQuiet
import Derived.Deep.QuietTactic
import Derived.Lib.Bytealg
import Derived.Lib.IndexLaws
import Derived.Lib.Hide
import Derived.Laws.IdiomStrings
import Derived.Lib.SlTrimSet
import Derived.Lib.IndexBytes
import Derived.Lib.Split
import Derived.Deep.AppendLies
import Derived.Shelf.Strings.SlTrimAscii
import Derived.Shelf.Strings.SplitShaped
import Derived.Shelf.LaysM
import Derived.Shelf.Strings.BuilderK
import Derived.Shelf.Strconv.Itoa4
import Derived.Shelf.Strings.Prefix
import Derived.Shelf.Bytes.SlIndexWhole
import Derived.Test.YteoadfckcilalaaGreatDoorProg
import Derived.Lib.SplitLaws
import Derived.WalkSmall
import Derived.ProofKit
import Derived.OpenShut
import Derived.Lib.Strings
import Derived.SliceStrings
import Derived.Deep.Quiet
import Derived.Tactics
import Derived.KernelRfl
import Derived.Below
import Derived.Laws.Bits64
import Derived.Lib.SlBytesConst
import Derived.Maps.AppendAt
import Derived.Laws.AppendOwnNone
import Derived.Great.BuildSlice
import Derived.Laws.Rows
import Derived.Laws.BitsAllLaws
import Derived.Laws.Shifts
import Derived.Maps.OwnOps
import Derived.Maps.OwnSet
import Derived.Deep.SlicePairs
import Derived.Lib.AppendZerosOnto
import Derived.Lib.AppendStr
import Derived.Laws.CopyOwn
import Derived.OwnWalk
import Derived.Laws.Strings3
import Derived.Laws.Concat
import Derived.Lib.ItoaMem
import Derived.IntWalk
import Derived.Laws.RangeAny
import Derived.LoopTactic
import Derived.Sort.Grow
namespace Go.Proofs.YteoadfckcilalaaGreatDoor
open Go.RowKit

def hslash : ByteArray := ⟨#[72, 84, 84, 80, 47]⟩
def bAt (s : ByteArray) (k : Nat) : UInt8 := s.data.toList.getD k 0
theorem bAt_get (s : ByteArray) (k : Nat) (h : k < s.size) : s[k] = bAt s k := by
  unfold bAt
  rw [List.getD_eq_getElem?_getD, List.getElem?_eq_getElem (by simpa using h)]; rfl
theorem bAt_extract (s : ByteArray) (a b k : Nat) (h : k < (s.extract a b).size) : (s.extract a b)[k]'h = bAt s (a + k) := by
  rw [bAt_get]
  unfold bAt
  rw [Lib.extract_data]
  have h2 : k < b - a := by rw [ByteArray.size_extract] at h; omega
  rw [List.getD_eq_getElem?_getD, List.getD_eq_getElem?_getD, List.getElem?_take_of_lt h2, List.getElem?_drop]
/-- HTTP/, a digit, a point, a digit. -/
def verB (s : ByteArray) : Bool := pfxB hslash s && decide (s.size = 8) && digB (bAt s 5).toNat && decide (bAt s 6 = 46) && digB (bAt s 7).toNat
theorem eq46 {c : UInt8} (h : c = 46) : ((c.toNat : Int) == 46) = true := by rw [h]; rfl
theorem ne46 {c : UInt8} (h : ¬ c = 46) : ((c.toNat : Int) == 46) = false := by
  rw [Bool.eq_false_iff]; intro h2; exact h (UInt8.toNat_inj.1 (by simp at h2; show c.toNat = 46; omega))
theorem u8_le (c : UInt8) : (c.toNat : Int) ≤ 255 := by have := c.toNat_lt; omega

set_option maxRecDepth 100000 in
set_option maxHeartbeats 1000000 in
theorem isVersion_any (s : ByteArray) (w : World) :
    Calls Tryz.prog 214 #[.string s] w fun e w' => e = .returned (.bool (verB s)) ∧ w = w' := by
  by_cases hp : pfxB hslash s = true
  · have HP := Box.mk hp
    have hle : 5 ≤ s.size := by unfold pfxB at hp; simp at hp; exact hp.1
    clear hp
    by_cases h8 : s.size = 8
    · have hg0 := bAt_extract s 5 s.size 0
      have hg1 := bAt_extract s 5 s.size 1
      have hg2 := bAt_extract s 5 s.size 2
      have hz : (s.extract 5 s.size).size = 3 := by rw [ByteArray.size_extract]; omega
      have HD := Box.mk (show ∀ b : Bool, verB s = (digB (bAt s 5).toNat && decide (bAt s 6 = 46) && digB (bAt s 7).toNat) from fun _ => by unfold verB; rw [HP.out]; simp [h8])
      simp only [Nat.add_zero, Nat.reduceAdd] at hg0 hg1 hg2
      generalize bAt s 5 = c5 at *
      generalize bAt s 6 = c6 at *
      generalize bAt s 7 = c7 at *
      generalize hd : s.extract 5 s.size = d at *
      have HDD := Box.mk hd
      have u5 := u8_le c5
      have u6 := u8_le c6
      have u7 := u8_le c7
      clear hd h8
      by_cases q0 : digB c5.toNat = true
      · have Q0 := Box.mk q0
        clear q0
        by_cases q1 : c6 = 46
        · have e1 := eq46 q1
          have Q1 := Box.mk q1
          clear q1
          go_enter Tryz.func214, Tryz.ntmps214
          go_wp2_with fail
          refine (cutPrefix_yes hslash s _ HP.out).mono ?_
          rintro e w1 ⟨he, rfl⟩
          change e = .returned (.tuple #[.string (s.extract 5 s.size), .bool true]) at he
          rw [HDD.out] at he
          subst he
          go_wp2_with fail
          refine (projDigit_any _ _ (by omega) u5).mono ?_
          rintro e w1 ⟨he, rfl⟩
          rw [Q0.out] at he
          subst he
          go_wp2_with fail
          refine (projDigit_any _ _ (by omega) u7).mono ?_
          rintro e w1 ⟨rfl, rfl⟩
          generalize hq : digB c7.toNat = q
          have HQ := Box.mk hq
          clear hq
          go_wp2_with fail
          go_ret
          exact ⟨ret_bool (by rw [HD.out true, Q0.out, Q1.out, HQ.out]; rfl), rfl⟩
        · have e1 := ne46 q1
          have Q1 := Box.mk q1
          clear q1
          go_enter Tryz.func214, Tryz.ntmps214
          go_wp2_with fail
          refine (cutPrefix_yes hslash s _ HP.out).mono ?_
          rintro e w1 ⟨he, rfl⟩
          change e = .returned (.tuple #[.string (s.extract 5 s.size), .bool true]) at he
          rw [HDD.out] at he
          subst he
          go_wp2_with fail
          refine (projDigit_any _ _ (by omega) u5).mono ?_
          rintro e w1 ⟨he, rfl⟩
          rw [Q0.out] at he
          subst he
          go_wp2_with fail
          go_ret
          exact ⟨ret_bool (by rw [HD.out true, Q0.out, decide_eq_false Q1.out]; rfl), rfl⟩
      · have Q0 := Box.mk (show digB c5.toNat = false by simpa using q0)
        clear q0
        go_enter Tryz.func214, Tryz.ntmps214
        go_wp2_with fail
        refine (cutPrefix_yes hslash s _ HP.out).mono ?_
        rintro e w1 ⟨he, rfl⟩
        change e = .returned (.tuple #[.string (s.extract 5 s.size), .bool true]) at he
        rw [HDD.out] at he
        subst he
        go_wp2_with fail
        refine (projDigit_any _ _ (by omega) u5).mono ?_
        rintro e w1 ⟨he, rfl⟩
        rw [Q0.out] at he
        subst he
        go_wp2_with fail
        go_ret
        exact ⟨ret_bool (by rw [HD.out true, Q0.out]; rfl), rfl⟩
    · have HR := Box.mk (show verB s = false by unfold verB; rw [decide_eq_false h8]; simp)
      have hz : ((((s.extract 5 s.size).size : Nat) : Int) == 3) = false := by rw [beq_eq_false_iff_ne, ByteArray.size_extract]; omega
      generalize hd : s.extract 5 s.size = d at *
      have HDD := Box.mk hd
      clear hd h8
      go_enter Tryz.func214, Tryz.ntmps214
      go_wp2_with fail
      refine (cutPrefix_yes hslash s _ HP.out).mono ?_
      rintro e w1 ⟨he, rfl⟩
      change e = .returned (.tuple #[.string (s.extract 5 s.size), .bool true]) at he
      rw [HDD.out] at he
      subst he
      go_wp2_with fail
      go_ret
      exact ⟨ret_bool HR.out.symm, rfl⟩
  · have HP := Box.mk (show pfxB hslash s = false by simpa using hp)
    have HR := Box.mk (show verB s = false by unfold verB; rw [HP.out]; rfl)
    clear hp
    go_enter Tryz.func214, Tryz.ntmps214
    go_wp2_with fail
    refine (cutPrefix_no hslash s _ HP.out).mono ?_
    rintro e w1 ⟨rfl, rfl⟩
    go_wp2_with fail
    go_ret
    exact ⟨ret_bool HR.out.symm, rfl⟩

/-- The minor number of a version, and the error. -/
def verZ (s : ByteArray) : Int × Int := if s = v10 then (0, 0) else if s = v11 then (1, 0) else if verB s then (0, 6) else (0, 2)
set_option maxHeartbeats 1000000 in
theorem parseVersion_any (s : ByteArray) (w : World) :
    Calls Tryz.prog 191 #[.string s] w fun e w' => e = .returned (.tuple #[.int .i64 (verZ s).1, .int .i64 (verZ s).2]) ∧ w = w' := by
  by_cases h0 : s = v10
  · have HR := Box.mk (show verZ s = (0, 0) by unfold verZ; rw [if_pos h0])
    have h1 : (s.toList == [72, 84, 84, 80, 47, 49, 46, 48]) = true := by rw [lit10, toList_eq]; simp; exact h0
    clear h0
    go_enter Tryz.func191, Tryz.ntmps191
    go_wp2_with fail
    go_ret2
    exact ⟨by rw [HR.out]; rfl, rfl⟩
  · have h1 : (s.toList == [72, 84, 84, 80, 47, 49, 46, 48]) = false := by rw [lit10, toList_eq]; simp; exact h0
    by_cases h2 : s = v11
    · have HR := Box.mk (show verZ s = (1, 0) by unfold verZ; rw [if_neg h0, if_pos h2])
      have h3 : (s.toList == [72, 84, 84, 80, 47, 49, 46, 49]) = true := by rw [lit11, toList_eq]; simp; exact h2
      clear h0 h2
      go_enter Tryz.func191, Tryz.ntmps191
      go_wp2_with fail
      go_ret2
      exact ⟨by rw [HR.out]; rfl, rfl⟩
    · have h3 : (s.toList == [72, 84, 84, 80, 47, 49, 46, 49]) = false := by rw [lit11, toList_eq]; simp; exact h2
      by_cases h4 : verB s = true
      · have HR := Box.mk (show verZ s = (0, 6) by unfold verZ; rw [if_neg h0, if_neg h2, if_pos h4])
        have H4 := Box.mk h4
        clear h0 h2 h4
        go_enter Tryz.func191, Tryz.ntmps191
        go_wp2_with fail
        refine (isVersion_any s _).mono ?_
        rintro e w1 ⟨he, rfl⟩
        rw [H4.out] at he
        subst he
        go_wp2_with fail
        go_ret2
        exact ⟨by rw [HR.out]; rfl, rfl⟩
      · have HR := Box.mk (show verZ s = (0, 2) by unfold verZ; rw [if_neg h0, if_neg h2, if_neg h4])
        have H4 := Box.mk (show verB s = false by simpa using h4)
        clear h0 h2 h4
        go_enter Tryz.func191, Tryz.ntmps191
        go_wp2_with fail
        refine (isVersion_any s _).mono ?_
        rintro e w1 ⟨he, rfl⟩
        rw [H4.out] at he
        subst he
        go_wp2_with fail
        go_ret2
        exact ⟨by rw [HR.out]; rfl, rfl⟩

def codeZ (s : ByteArray) : Int := if s.size = 3 then (parseS 10 599 s).1 else 0
set_option maxHeartbeats 1000000 in
theorem parseCode_any (s : ByteArray) (w : World) (hs : s.size ≤ maxLen) :
    Calls Tryz.prog 200 #[.string s] w fun e w' => e = .returned (.int .i64 (codeZ s)) ∧ w = w' := by
  by_cases h3 : s.size = 3
  · have HR := Box.mk (show codeZ s = (parseS 10 599 s).1 by unfold codeZ; rw [if_pos h3])
    have hb : (((s.size : Nat) : Int) != 3) = false := by rw [h3]; rfl
    clear h3
    go_enter Tryz.func200, Tryz.ntmps200
    go_wp2_with fail
    refine (parseDecimal_any s 599 _ hs (by decide) (by decide)).mono ?_
    rintro e w1 ⟨he, rfl⟩
    generalize hq : parseS 10 599 s = q at he
    have HQ := Box.mk hq
    clear hq
    subst he
    go_wp2_with fail
    go_ret
    exact ⟨ret_int (by rw [HR.out, HQ.out]), rfl⟩
  · have HR := Box.mk (show codeZ s = 0 by unfold codeZ; rw [if_neg h3])
    have hb : (((s.size : Nat) : Int) != 3) = true := by rw [bne_iff_ne]; omega
    clear h3
    go_enter Tryz.func200, Tryz.ntmps200
    go_wp2_with fail
    go_ret
    exact ⟨ret_int HR.out.symm, rfl⟩
end Go.Proofs.YteoadfckcilalaaGreatDoor
namespace Go.Proofs.YteoadfckcilalaaGreatDoor
open Go.RowKit

section
variable {Q : Exit → Act → World → Prop} {a : Act} {w : World} {o : Oper} {s : Spec}
theorem loc_addS {x y : Operand} {t : TypeId} (ho : o.op = .binOp .add 9 x y t) {b c : ByteArray} (hx : a.eval x = .string b) (hy : a.eval y = .string c) (hn : b.size + c.size ≤ 4000000000) (hs : s.p (.string (b ++ c)) w) :
    o.wp Tryz.prog a w (fun a' w' => ∃ v, a' = a.put o.dst v ∧ Below w.heap.size w w' ∧ s.p v w') Q :=
  loc_run (v := .string (b ++ c)) (by
    have h := run_string_add_sum (P := Tryz.prog) (w := w) b c (by omega)
    unfold execOp
    simp [ho, hx, hy, eqGuard, binOp, h, Result.andThen]) (Below.refl _ _) hs
theorem loc_cell {x : Operand} {t : TypeId} (ho : o.op = .load t x) {p : Addr} (hx : a.eval x = .pointer (some p)) {v : Value} (hc : w.cell? p = some v) (ht : (isAgg t).run Tryz.prog w = .ok false w) (hs : s.p v w) :
    o.wp Tryz.prog a w (fun a' w' => ∃ v, a' = a.put o.dst v ∧ Below w.heap.size w w' ∧ s.p v w') Q :=
  loc_load ho (v := v) (by
    rw [hx]
    simp [Instr.loadAt, Instr.sureAddr, loadVar, hc, ht]) hs
theorem agg_string (w : World) : (isAgg 9).run Tryz.prog w = .ok false w := by
  unfold isAgg; rw [Sem.run_bind, run_underlying Tryz.underlying9 w]; rfl
theorem agg_int (w : World) : (isAgg 3).run Tryz.prog w = .ok false w := by
  unfold isAgg; rw [Sem.run_bind, run_underlying Tryz.underlying3 w]; rfl
theorem run_fieldR (W : World) (g i : Nat) (h : i < 6) : (Instr.fieldAt 29 (.pointer (some ⟨g, 0, none⟩)) i).run Tryz.prog W = .ok (.pointer (some ⟨g, i, none⟩)) W := by
  match i, h with
  | 0, _ => simp [Instr.fieldAt, run_underlying Tryz.underlying29, Instr.sureAddr, fieldPlace, Addr.add]
  | 1, _ => simp [Instr.fieldAt, run_underlying Tryz.underlying29, Instr.sureAddr, fieldPlace, Addr.add]
  | 2, _ => simp [Instr.fieldAt, run_underlying Tryz.underlying29, Instr.sureAddr, fieldPlace, Addr.add]
  | 3, _ => simp [Instr.fieldAt, run_underlying Tryz.underlying29, Instr.sureAddr, fieldPlace, Addr.add]
  | 4, _ => simp [Instr.fieldAt, run_underlying Tryz.underlying29, Instr.sureAddr, fieldPlace, Addr.add]
  | 5, _ => simp [Instr.fieldAt, run_underlying Tryz.underlying29, Instr.sureAddr, fieldPlace, Addr.add]
theorem loc_fieldR {x : Operand} {i : Nat} (ho : o.op = .fieldAddr 29 x i) {g : Nat} (hx : a.eval x = .pointer (some ⟨g, 0, none⟩)) (hi : i < 6) (hs : s.p (.pointer (some ⟨g, i, none⟩)) w) :
    o.wp Tryz.prog a w (fun a' w' => ∃ v, a' = a.put o.dst v ∧ Below w.heap.size w w' ∧ s.p v w') Q :=
  loc_run (v := .pointer (some ⟨g, i, none⟩)) (by unfold execOp; rw [ho]; simp only [hx, Sem.run_bind, run_fieldR _ _ _ hi, Result.andThen_ok, Sem.run_pure]) (Below.refl _ _) hs
end

def http1 : ByteArray := ⟨#[32, 72, 84, 84, 80, 47, 49, 46]⟩
def fmtReq (m t : ByteArray) (z : Int) : ByteArray :=
  if tokS m = true ∧ targetS t = true ∧ 0 ≤ z ∧ z ≤ 1 then m ++ ⟨#[32]⟩ ++ t ++ http1 ++ fmtS 10 z else ⟨#[]⟩
theorem fmtS_small {z : Int} (h0 : 0 ≤ z) (h1 : z ≤ 1) : (fmtS 10 z).size ≤ 1000 := by
  have : z = 0 ∨ z = 1 := by omega
  rcases this with rfl | rfl
  · decide +kernel
  · decide +kernel

set_option maxRecDepth 100000 in
set_option maxHeartbeats 2000000 in
theorem refFormatReq_any (m t : ByteArray) (z : Int) (fa ba : Option Addr) (fn fc bn bc : Nat) (fr : Bool) (w : World) (hm : m.size ≤ 1000000000) (ht : t.size ≤ 1000000000) :
    Calls Tryz.prog 70 #[.agg #[.string m, .string t, .int .i64 z, .slice fa fn fc, .bool fr, .slice ba bn bc]] w fun e w' => e = .returned (.string (fmtReq m t z)) ∧ Below w.heap.size w w' := by
  have HB0 := Box.mk (below_oneF w (.cells #[.string m, .string t, .int .i64 z, .slice fa fn fc, .bool fr, .slice ba bn bc] 29))
  have hml : m.size ≤ maxLen := by unfold maxLen; omega
  have htl : t.size ≤ maxLen := by unfold maxLen; omega
  by_cases h1 : tokS m = true
  · by_cases h2 : targetS t = true
    · by_cases h3 : 0 ≤ z ∧ z ≤ 1
      · have HR := Box.mk (show fmtReq m t z = m ++ ⟨#[32]⟩ ++ t ++ http1 ++ fmtS 10 z by unfold fmtReq; rw [if_pos ⟨h1, h2, h3⟩])
        obtain ⟨z0, z1⟩ := h3
        have HD := Box.mk (fmtS_small z0 z1)
        have HRow := Box.mk (show (w.alloc (.cells #[.string m, .string t, .int .i64 z, .slice fa fn fc, .bool fr, .slice ba bn bc] 29)).heap[w.heap.size]? = some (.cells #[.string m, .string t, .int .i64 z, .slice fa fn fc, .bool fr, .slice ba bn bc] 29 (0, 0)) from heap_alloc_new _ _)
        go_enter Tryz.func70, Tryz.ntmps70
        go_wp2_with fail
        refine (refToken_any m _ hml).mono ?_
        rintro e w1 ⟨rfl, rfl⟩
        go_wp2_with fail
        refine (refTarget_any t _ htl).mono ?_
        rintro e w1 ⟨rfl, rfl⟩
        go_wp2_with fail
        have HRW := HRow
        generalize (w.alloc (.cells #[.string m, .string t, .int .i64 z, .slice fa fn fc, .bool fr, .slice ba bn bc] 29)) = W at *
        generalize hg : w.heap.size = g at *
        have HG := Box.mk hg
        clear hg
        rename_i K hK
        have s1 : (m ++ ⟨#[32]⟩).size = m.size + 1 := by rw [ByteArray.size_append]; rfl
        have s2 : (m ++ ⟨#[32]⟩ ++ t).size = m.size + 1 + t.size := by rw [ByteArray.size_append, s1]
        have s3 : (m ++ ⟨#[32]⟩ ++ t ++ http1).size = m.size + 1 + t.size + 8 := by rw [ByteArray.size_append, s2]; rfl
        refine wp_region_local (S := [.val (.pointer (some ⟨g, 0, none⟩)), .val (.string m), .val (.string (m ++ ⟨#[32]⟩)), .val (.pointer (some ⟨g, 1, none⟩)), .val (.string t), .val (.string (m ++ ⟨#[32]⟩ ++ t)), .val (.string (m ++ ⟨#[32]⟩ ++ t ++ http1)),
          .val (.pointer (some ⟨g, 2, none⟩)), .val (.int .i64 z), .val (.string (fmtS 10 z)), .val (.string (m ++ ⟨#[32]⟩ ++ t ++ http1 ++ fmtS 10 z)), .val (.string (m ++ ⟨#[32]⟩ ++ t ++ http1 ++ fmtS 10 z))])
          (by kernel_rfl) (by kernel_rfl) (by kernel_rfl) ?_ ?_
        · have cell : ∀ w' i v, Below W.heap.size W w' → (#[.string m, .string t, .int .i64 z, .slice fa fn fc, .bool fr, .slice ba bn bc] : Array Value)[i]? = some v → w'.cell? ⟨g, i, none⟩ = some v := fun w' i v hb hv => below_cell hb (by rw [cell_of_row _ _ _ _ _ _ HRW.out]; exact hv)
          refine ⟨?_, ?_, ?_, ?_, ?_, ?_, ?_, ?_, ?_, ?_, ?_, ?_, trivial⟩ <;> intro a w3 hb hf hd
          · exact ⟨wanted_none rfl, loc_fieldR rfl (hf.base 1 rfl) (by decide) rfl⟩
          · exact ⟨wanted_none rfl, loc_cell rfl (hd 0 rfl) (cell w3 0 _ hb rfl) (agg_string _) rfl⟩
          · exact ⟨wanted_none rfl, loc_addS rfl (hd 1 rfl) rfl (by show m.size + 1 ≤ _; omega) rfl⟩
          · exact ⟨wanted_none rfl, loc_fieldR rfl (hf.base 1 rfl) (by decide) rfl⟩
          · exact ⟨wanted_none rfl, loc_cell rfl (hd 3 rfl) (cell w3 1 _ hb rfl) (agg_string _) rfl⟩
          · exact ⟨wanted_none rfl, loc_addS rfl (hd 2 rfl) (hd 4 rfl) (by rw [s1]; omega) rfl⟩
          · exact ⟨wanted_none rfl, loc_addS (c := http1) rfl (hd 5 rfl) rfl (by rw [s2]; show _ + 8 ≤ _; omega) rfl⟩
          · exact ⟨wanted_none rfl, loc_fieldR rfl (hf.base 1 rfl) (by decide) rfl⟩
          · exact ⟨wanted_none rfl, loc_cell rfl (hd 7 rfl) (cell w3 2 _ hb rfl) (agg_int _) rfl⟩
          · refine ⟨wanted_none rfl, loc_call rfl (by kernel_rfl) ?_⟩
            show Calls _ _ #[a.eval (.tmp 31)] w3 _
            rw [show a.eval (.tmp 31) = .int .i64 z from hd 8 rfl]
            refine (refDecimal_any z w3 (by omega) (by omega)).mono ?_
            rintro e w' ⟨rfl, hb'⟩
            exact ⟨_, rfl, hb', rfl⟩
          · exact ⟨wanted_none rfl, loc_addS rfl (hd 6 rfl) (hd 9 rfl) (by rw [s3]; have := HD.out; omega) rfl⟩
          · exact ⟨wanted_none rfl, loc_assign rfl (hd 10 rfl)⟩
        · intro a w3 hb hf hh
          refine hK a w3 ?_
          go_wp2_with fail
          exact local_ret rfl hf.defers (show a.eval (.tmp 2) = .string (m ++ ⟨#[32]⟩ ++ t ++ http1 ++ fmtS 10 z) from hh 11 (by decide)) ⟨ret_str HR.out.symm, by have := HG.out; have h9 := HB0.out; rw [← this] at h9; exact below_trans h9 hb⟩
      · have HR := Box.mk (show fmtReq m t z = ⟨#[]⟩ by unfold fmtReq; rw [if_neg (fun h => h3 h.2.2)])
        have hz : z < 0 ∨ 0 ≤ z ∧ 1 < z := by omega
        clear h3
        rcases hz with hz | ⟨hz0, hz1⟩
        all_goals
          go_enter Tryz.func70, Tryz.ntmps70
          go_wp2_with fail
          refine (refToken_any m _ hml).mono ?_
          rintro e w1 ⟨rfl, rfl⟩
          go_wp2_with fail
          refine (refTarget_any t _ htl).mono ?_
          rintro e w1 ⟨rfl, rfl⟩
          go_wp2_with fail
          go_ret
          exact ⟨ret_str HR.out.symm, HB0.out⟩
    · have h2' : targetS t = false := by simpa using h2
      have HR := Box.mk (show fmtReq m t z = ⟨#[]⟩ by unfold fmtReq; rw [if_neg (fun h => h2 h.2.1)])
      clear h2
      go_enter Tryz.func70, Tryz.ntmps70
      go_wp2_with fail
      refine (refToken_any m _ hml).mono ?_
      rintro e w1 ⟨rfl, rfl⟩
      go_wp2_with fail
      refine (refTarget_any t _ htl).mono ?_
      rintro e w1 ⟨rfl, rfl⟩
      go_wp2_with fail
      go_ret
      exact ⟨ret_str HR.out.symm, HB0.out⟩
  · have h1' : tokS m = false := by simpa using h1
    have HR := Box.mk (show fmtReq m t z = ⟨#[]⟩ by unfold fmtReq; rw [if_neg (fun h => h1 h.1)])
    clear h1
    go_enter Tryz.func70, Tryz.ntmps70
    go_wp2_with fail
    refine (refToken_any m _ hml).mono ?_
    rintro e w1 ⟨rfl, rfl⟩
    go_wp2_with fail
    go_ret
    exact ⟨ret_str HR.out.symm, HB0.out⟩
end Go.Proofs.YteoadfckcilalaaGreatDoor
namespace Go.Proofs.YteoadfckcilalaaGreatDoor
open Go.RowKit

section
variable {Q : Exit → Act → World → Prop} {a : Act} {w : World} {o : Oper} {s : Spec}
theorem run_fieldA (W : World) (g i : Nat) (h : i < 5) : (Instr.fieldAt 31 (.pointer (some ⟨g, 0, none⟩)) i).run Tryz.prog W = .ok (.pointer (some ⟨g, i, none⟩)) W := by
  match i, h with
  | 0, _ => simp [Instr.fieldAt, run_underlying Tryz.underlying31, Instr.sureAddr, fieldPlace, Addr.add]
  | 1, _ => simp [Instr.fieldAt, run_underlying Tryz.underlying31, Instr.sureAddr, fieldPlace, Addr.add]
  | 2, _ => simp [Instr.fieldAt, run_underlying Tryz.underlying31, Instr.sureAddr, fieldPlace, Addr.add]
  | 3, _ => simp [Instr.fieldAt, run_underlying Tryz.underlying31, Instr.sureAddr, fieldPlace, Addr.add]
  | 4, _ => simp [Instr.fieldAt, run_underlying Tryz.underlying31, Instr.sureAddr, fieldPlace, Addr.add]
theorem loc_fieldA {x : Operand} {i : Nat} (ho : o.op = .fieldAddr 31 x i) {g : Nat} (hx : a.eval x = .pointer (some ⟨g, 0, none⟩)) (hi : i < 5) (hs : s.p (.pointer (some ⟨g, i, none⟩)) w) :
    o.wp Tryz.prog a w (fun a' w' => ∃ v, a' = a.put o.dst v ∧ Below w.heap.size w w' ∧ s.p v w') Q :=
  loc_run (v := .pointer (some ⟨g, i, none⟩)) (by unfold execOp; rw [ho]; simp only [hx, Sem.run_bind, run_fieldA _ _ _ hi, Result.andThen_ok, Sem.run_pure]) (Below.refl _ _) hs
end

def http0 : ByteArray := ⟨#[72, 84, 84, 80, 47, 49, 46]⟩
def fmtRep (st : Int) (r : ByteArray) (z : Int) : ByteArray :=
  if 100 ≤ st ∧ st ≤ 599 ∧ 0 ≤ z ∧ z ≤ 1 ∧ visS r = true then http0 ++ fmtS 10 z ++ ⟨#[32]⟩ ++ fmtS 10 st ++ ⟨#[32]⟩ ++ r else ⟨#[]⟩
theorem fmtS_code {z : Int} (h0 : 0 ≤ z) (h1 : z ≤ 599) : (fmtS 10 z).size ≤ 1000 := by
  obtain ⟨k, rfl⟩ : ∃ k : Nat, z = k := ⟨z.toNat, by omega⟩
  have hk : k < 600 := by omega
  have h : ∀ m : Fin 600, (fmtS 10 (m.val : Int)).size ≤ 1000 := by decide +kernel
  exact h ⟨k, hk⟩

set_option maxRecDepth 100000 in
set_option maxHeartbeats 2000000 in
theorem refFormatRep_any (st : Int) (r : ByteArray) (z : Int) (fa ba : Option Addr) (fn fc bn bc : Nat) (w : World) (hr : r.size ≤ 1000000000) :
    Calls Tryz.prog 74 #[.agg #[.int .i64 st, .string r, .int .i64 z, .slice fa fn fc, .slice ba bn bc]] w fun e w' => e = .returned (.string (fmtRep st r z)) ∧ Below w.heap.size w w' := by
  have HB0 := Box.mk (below_oneF w (.cells #[.int .i64 st, .string r, .int .i64 z, .slice fa fn fc, .slice ba bn bc] 31))
  have hrl : r.size ≤ maxLen := by unfold maxLen; omega
  by_cases h0 : (100 ≤ st ∧ st ≤ 599) ∧ 0 ≤ z ∧ z ≤ 1
  · obtain ⟨⟨t0, t1⟩, z0, z1⟩ := h0
    by_cases h1 : visS r = true
    · have HR := Box.mk (show fmtRep st r z = http0 ++ fmtS 10 z ++ ⟨#[32]⟩ ++ fmtS 10 st ++ ⟨#[32]⟩ ++ r by unfold fmtRep; rw [if_pos ⟨t0, t1, z0, z1, h1⟩])
      have HD := Box.mk (And.intro (fmtS_small z0 z1) (fmtS_code (by omega) t1))
      have HRow := Box.mk (show (w.alloc (.cells #[.int .i64 st, .string r, .int .i64 z, .slice fa fn fc, .slice ba bn bc] 31)).heap[w.heap.size]? = some (.cells #[.int .i64 st, .string r, .int .i64 z, .slice fa fn fc, .slice ba bn bc] 31 (0, 0)) from heap_alloc_new _ _)
      go_enter Tryz.func74, Tryz.ntmps74
      go_wp2_with fail
      refine (visible_any r _ hrl).mono ?_
      rintro e w1 ⟨rfl, rfl⟩
      go_wp2_with fail
      have HRW := HRow
      generalize (w.alloc (.cells #[.int .i64 st, .string r, .int .i64 z, .slice fa fn fc, .slice ba bn bc] 31)) = W at *
      generalize hg : w.heap.size = g at *
      have HG := Box.mk hg
      clear hg
      rename_i K hK
      have s1 : (http0 ++ fmtS 10 z).size ≤ 1007 := by rw [ByteArray.size_append]; show 7 + _ ≤ _; have := HD.out.1; omega
      have s2 : (http0 ++ fmtS 10 z ++ ⟨#[32]⟩).size ≤ 1008 := by rw [ByteArray.size_append]; show _ + 1 ≤ _; omega
      have s3 : (http0 ++ fmtS 10 z ++ ⟨#[32]⟩ ++ fmtS 10 st).size ≤ 2008 := by rw [ByteArray.size_append]; have := HD.out.2; omega
      have s4 : (http0 ++ fmtS 10 z ++ ⟨#[32]⟩ ++ fmtS 10 st ++ ⟨#[32]⟩).size ≤ 2009 := by rw [ByteArray.size_append]; show _ + 1 ≤ _; omega
      refine wp_region_local (S := [.val (.pointer (some ⟨g, 2, none⟩)), .val (.int .i64 z), .val (.string (fmtS 10 z)), .val (.string (http0 ++ fmtS 10 z)), .val (.string (http0 ++ fmtS 10 z ++ ⟨#[32]⟩)),
        .val (.pointer (some ⟨g, 0, none⟩)), .val (.int .i64 st), .val (.string (fmtS 10 st)), .val (.string (http0 ++ fmtS 10 z ++ ⟨#[32]⟩ ++ fmtS 10 st)), .val (.string (http0 ++ fmtS 10 z ++ ⟨#[32]⟩ ++ fmtS 10 st ++ ⟨#[32]⟩)),
        .val (.pointer (some ⟨g, 1, none⟩)), .val (.string r), .val (.string (http0 ++ fmtS 10 z ++ ⟨#[32]⟩ ++ fmtS 10 st ++ ⟨#[32]⟩ ++ r)), .val (.string (http0 ++ fmtS 10 z ++ ⟨#[32]⟩ ++ fmtS 10 st ++ ⟨#[32]⟩ ++ r))])
        (by kernel_rfl) (by kernel_rfl) (by kernel_rfl) ?_ ?_
      · have cell : ∀ w' i v, Below W.heap.size W w' → (#[.int .i64 st, .string r, .int .i64 z, .slice fa fn fc, .slice ba bn bc] : Array Value)[i]? = some v → w'.cell? ⟨g, i, none⟩ = some v := fun w' i v hb hv => below_cell hb (by rw [cell_of_row _ _ _ _ _ _ HRW.out]; exact hv)
        refine ⟨?_, ?_, ?_, ?_, ?_, ?_, ?_, ?_, ?_, ?_, ?_, ?_, ?_, ?_, trivial⟩ <;> intro a w3 hb hf hd
        · exact ⟨wanted_none rfl, loc_fieldA rfl (hf.base 1 rfl) (by decide) rfl⟩
        · exact ⟨wanted_none rfl, loc_cell rfl (hd 0 rfl) (cell w3 2 _ hb rfl) (agg_int _) rfl⟩
        · refine ⟨wanted_none rfl, loc_call rfl (by kernel_rfl) ?_⟩
          show Calls _ _ #[a.eval (.tmp 28)] w3 _
          rw [show a.eval (.tmp 28) = .int .i64 z from hd 1 rfl]
          refine (refDecimal_any z w3 (by omega) (by omega)).mono ?_
          rintro e w' ⟨rfl, hb'⟩
          exact ⟨_, rfl, hb', rfl⟩
        · exact ⟨wanted_none rfl, loc_addS (b := http0) rfl rfl (hd 2 rfl) (by show 7 + _ ≤ _; have := HD.out.1; omega) rfl⟩
        · exact ⟨wanted_none rfl, loc_addS rfl (hd 3 rfl) rfl (by show _ + 1 ≤ _; omega) rfl⟩
        · exact ⟨wanted_none rfl, loc_fieldA rfl (hf.base 1 rfl) (by decide) rfl⟩
        · exact ⟨wanted_none rfl, loc_cell rfl (hd 5 rfl) (cell w3 0 _ hb rfl) (agg_int _) rfl⟩
        · refine ⟨wanted_none rfl, loc_call rfl (by kernel_rfl) ?_⟩
          show Calls _ _ #[a.eval (.tmp 33)] w3 _
          rw [show a.eval (.tmp 33) = .int .i64 st from hd 6 rfl]
          refine (refDecimal_any st w3 (by omega) (by omega)).mono ?_
          rintro e w' ⟨rfl, hb'⟩
          exact ⟨_, rfl, hb', rfl⟩
        · exact ⟨wanted_none rfl, loc_addS rfl (hd 4 rfl) (hd 7 rfl) (by have := HD.out.2; omega) rfl⟩
        · exact ⟨wanted_none rfl, loc_addS rfl (hd 8 rfl) rfl (by show _ + 1 ≤ _; omega) rfl⟩
        · exact ⟨wanted_none rfl, loc_fieldA rfl (hf.base 1 rfl) (by decide) rfl⟩
        · exact ⟨wanted_none rfl, loc_cell rfl (hd 10 rfl) (cell w3 1 _ hb rfl) (agg_string _) rfl⟩
        · exact ⟨wanted_none rfl, loc_addS rfl (hd 9 rfl) (hd 11 rfl) (by omega) rfl⟩
        · exact ⟨wanted_none rfl, loc_assign rfl (hd 12 rfl)⟩
      · intro a w3 hb hf hh
        refine hK a w3 ?_
        go_wp2_with fail
        exact local_ret rfl hf.defers (show a.eval (.tmp 2) = .string (http0 ++ fmtS 10 z ++ ⟨#[32]⟩ ++ fmtS 10 st ++ ⟨#[32]⟩ ++ r) from hh 13 (by decide)) ⟨ret_str HR.out.symm, by have := HG.out; have h9 := HB0.out; rw [← this] at h9; exact below_trans h9 hb⟩
    · have h1' : visS r = false := by simpa using h1
      have HR := Box.mk (show fmtRep st r z = ⟨#[]⟩ by unfold fmtRep; rw [if_neg (fun h => h1 h.2.2.2.2)])
      clear h1
      go_enter Tryz.func74, Tryz.ntmps74
      go_wp2_with fail
      refine (visible_any r _ hrl).mono ?_
      rintro e w1 ⟨rfl, rfl⟩
      go_wp2_with fail
      go_ret
      exact ⟨ret_str HR.out.symm, HB0.out⟩
  · have HR := Box.mk (show fmtRep st r z = ⟨#[]⟩ by unfold fmtRep; rw [if_neg (fun h => h0 ⟨⟨h.1, h.2.1⟩, h.2.2.1, h.2.2.2.1⟩)])
    have hz : st < 100 ∨ (100 ≤ st ∧ 599 < st) ∨ (100 ≤ st ∧ st ≤ 599 ∧ z < 0) ∨ (100 ≤ st ∧ st ≤ 599 ∧ 0 ≤ z ∧ 1 < z) := by omega
    clear h0
    rcases hz with hz | ⟨t0, hz⟩ | ⟨t0, t1, hz⟩ | ⟨t0, t1, z0, hz⟩
    all_goals
      go_enter Tryz.func74, Tryz.ntmps74
      go_wp2_with fail
      go_ret
      exact ⟨ret_str HR.out.symm, HB0.out⟩
end Go.Proofs.YteoadfckcilalaaGreatDoor
namespace Go.Proofs.YteoadfckcilalaaGreatDoor
open Go.RowKit

def AVar (w : World) (g : Nat) (st : Int) (r : ByteArray) (z : Int) : Prop := w.heap[g]? = some (.cells #[.int .i64 st, .string r, .int .i64 z, .slice none 0 0, .slice none 0 0] 31 (0, 0))
theorem AVar.keep {w w' : World} {g : Nat} {st : Int} {r : ByteArray} {z : Int} (h : AVar w g st r z) (hb : Below w.heap.size w w') : AVar w' g st r z := by
  unfold AVar at *
  rw [hb.block g (Array.getElem?_eq_some_iff.1 h).1]; exact h
theorem sizeA : (Tryz.prog.info? 31).map (·.size) = some 5 := by kernel_rfl
theorem oneA (st : Int) (r : ByteArray) (z : Int) : (#[.int .i64 st, .string r, .int .i64 z, .slice none 0 0, .slice none 0 0] : Array Value).all (·.oneCell') = true := by simp [Value.oneCell']
def replyV : Option (Int × ByteArray × Int) → Value
  | some f => .tuple #[.agg #[.int .i64 f.1, .string f.2.1, .int .i64 f.2.2, .slice none 0 0, .slice none 0 0], .int .i64 0]
  | none => .tuple #[.agg #[.int .i64 0, .string ⟨#[]⟩, .int .i64 0, .slice none 0 0, .slice none 0 0], .int .i64 2]
def reasonS (s : ByteArray) : ByteArray := if 12 < s.size then s.extract 13 s.size else ⟨#[]⟩
def parseA (s : ByteArray) : Option (Int × ByteArray × Int) :=
  if 12 ≤ s.size ∧ 0 ≤ minorZ (s.extract 0 8) ∧ s.data.toList[8]? = some 32 ∧ (12 < s.size → s.data.toList[12]? = some 32) ∧ (parseS 10 599 (s.extract 9 12)).2 = 0 ∧ 100 ≤ (parseS 10 599 (s.extract 9 12)).1 ∧ visS (reasonS s) = true then
    some ((parseS 10 599 (s.extract 9 12)).1, reasonS s, minorZ (s.extract 0 8)) else none

end Go.Proofs.YteoadfckcilalaaGreatDoor
namespace Go.Proofs.YteoadfckcilalaaGreatDoor
open Go.RowKit

/-- A request's line: method, target, minor. -/
def RVar (w : World) (g : Nat) (m t : ByteArray) (z : Int) : Prop := w.heap[g]? = some (.cells #[.string m, .string t, .int .i64 z, .slice none 0 0, .bool false, .slice none 0 0] 29 (0, 0))
theorem RVar.keep {w w' : World} {g : Nat} {m t : ByteArray} {z : Int} (h : RVar w g m t z) (hb : Below w.heap.size w w') : RVar w' g m t z := by
  unfold RVar at *
  rw [hb.block g (Array.getElem?_eq_some_iff.1 h).1]; exact h
theorem sizeR : (Tryz.prog.info? 29).map (·.size) = some 6 := by kernel_rfl
theorem oneR (m t : ByteArray) (z : Int) : (#[.string m, .string t, .int .i64 z, .slice none 0 0, .bool false, .slice none 0 0] : Array Value).all (·.oneCell') = true := by simp [Value.oneCell']
def reqV : Option (ByteArray × ByteArray × Int) × Int → Value
  | (some f, _) => .tuple #[.agg #[.string f.1, .string f.2.1, .int .i64 f.2.2, .slice none 0 0, .bool false, .slice none 0 0], .int .i64 0]
  | (none, e) => .tuple #[.agg #[.string ⟨#[]⟩, .string ⟨#[]⟩, .int .i64 0, .slice none 0 0, .bool false, .slice none 0 0], .int .i64 e]
def lineR : List ByteArray → Option (ByteArray × ByteArray × Int) × Int
  | [m, t, v] => if tokS m = true ∧ targetS t = true then (if (verZ v).2 = 0 then (some (m, t, (verZ v).1), 0) else (none, (verZ v).2)) else (none, 2)
  | _ => (none, 2)
theorem lineR_no {l : List ByteArray} (h : ¬ l.length = 3) : lineR l = (none, 2) := by
  unfold lineR
  split
  · exact absurd rfl h
  · rfl
theorem lineR_ok {m t v : ByteArray} (h1 : tokS m = true) (h2 : targetS t = true) (h4 : (verZ v).2 = 0) : lineR [m, t, v] = (some (m, t, (verZ v).1), 0) := by
  show (if tokS m = true ∧ targetS t = true then (if (verZ v).2 = 0 then (some (m, t, (verZ v).1), 0) else (none, (verZ v).2)) else (none, 2)) = (_ : Option (ByteArray × ByteArray × Int) × Int)
  rw [if_pos ⟨h1, h2⟩, if_pos h4]
theorem lineR_err {m t v : ByteArray} (h1 : tokS m = true) (h2 : targetS t = true) (h4 : ¬ (verZ v).2 = 0) : lineR [m, t, v] = (none, (verZ v).2) := by
  show (if tokS m = true ∧ targetS t = true then (if (verZ v).2 = 0 then (some (m, t, (verZ v).1), 0) else (none, (verZ v).2)) else (none, 2)) = (_ : Option (ByteArray × ByteArray × Int) × Int)
  rw [if_pos ⟨h1, h2⟩, if_neg h4]
theorem lineR_bad {m t v : ByteArray} (h : ¬ (tokS m = true ∧ targetS t = true)) : lineR [m, t, v] = (none, 2) := by
  show (if tokS m = true ∧ targetS t = true then (if (verZ v).2 = 0 then (some (m, t, (verZ v).1), 0) else (none, (verZ v).2)) else (none, 2)) = (_ : Option (ByteArray × ByteArray × Int) × Int)
  rw [if_neg h]
theorem lineR_words (s : ByteArray) : lineR (wordsS s) = lineR (splitS 32 s) := by
  rcases wordsS_eq s with h | ⟨h1, h2⟩
  · rw [h]
  · rw [lineR_no (by omega), lineR_no h2]
theorem three {l : List ByteArray} (h : l.length = 3) : ∃ a b c, l = [a, b, c] := by
  match l, h with
  | [a, b, c], _ => exact ⟨a, b, c, rfl⟩
theorem wordsS_small {s : ByteArray} (h : (wordsS s).length = 3) (x : ByteArray) (hx : x ∈ wordsS s) : x.size ≤ s.size := by
  rcases wordsS_eq s with h1 | ⟨h1, _⟩
  · rw [h1] at hx; exact splitS_small 32 s x hx
  · omega
theorem cellsOf_at (l : List ByteArray) (n j : Nat) (hj : j < l.length) : (Lib.cellsOf l n)[j]? = some (.string l[j]) := by
  unfold Lib.cellsOf
  rw [List.getElem?_toArray, List.getElem?_append_left (by simpa using hj)]; simp [hj]
theorem splitN_any (s : ByteArray) (w : World) (m : Int) (hs : s.size < 4294967281) (hm : w.cell? ⟨1, 0, none⟩ = some (.int .i64 m)) :
    Calls Tryz.prog 167 #[.string s, .string ⟨#[32]⟩, .int .i64 4] w fun e w' => ∃ cap, e = .returned (.slice (some ⟨w.heap.size, 0, none⟩) (wordsS s).length cap) ∧
      (∀ j (hj : j < (wordsS s).length), w'.cell? ⟨w.heap.size, j, none⟩ = some (.string (wordsS s)[j])) ∧ Below w.heap.size w w' := by
  refine (Any.strings_SplitN { Tryz.laysM147 with } Tryz.laysM147.i9 s ⟨#[32]⟩ 4 m w hs hm (by decide) (by decide) (by decide)).mono ?_
  rintro e w' ⟨he, hw⟩
  refine ⟨_, he, fun j hj => ?_, by rw [hw]; exact (Below.refl _ _).alloc (Nat.le_refl _) _⟩
  rw [hw, new_cellF]
  exact cellsOf_at _ _ j hj

section
variable {Q : Exit → Act → World → Prop} {a : Act} {w : World} {o : Oper} {s : Spec}
theorem loc_index_s {x y : Operand} (ho : o.op = .indexAddr 71 x y) {ad : Addr} {n c k : Nat} (hx : a.eval x = .slice (some ad) n c) (hy : a.eval y = .int .i64 k) (hk : k < n) (hs : s.p (.pointer (some (ad.add k))) w) :
    o.wp Tryz.prog a w (fun a' w' => ∃ v, a' = a.put o.dst v ∧ Below w.heap.size w w' ∧ s.p v w') Q :=
  loc_run (v := .pointer (some (ad.add k))) (by
    have es : (sizeOf (Tryz.prog.elem 71)).run Tryz.prog w = .ok 1 w := by
      rw [show Tryz.prog.elem 71 = 9 by kernel_rfl]
      have h : (Tryz.prog.info? 9).map (·.size) = some 1 := by kernel_rfl
      cases hq : Tryz.prog.info? 9 with
      | none => rw [hq] at h; cases h
      | some i => rw [hq] at h; simp at h; simp [sizeOf, typeInfo, hq, h]
    have h := run_indexAt_slice (P := Tryz.prog) (w := w) 71 ad n c .i64 (k : Int) (by kernel_rfl)
    rw [if_pos ⟨by omega, by omega⟩, es] at h
    simp only [Result.andThen, Int.toNat_natCast, Nat.mul_one] at h
    unfold execOp
    simp only [ho, hx, hy, Sem.run_bind, h, Result.andThen_ok, Sem.run_pure]) (Below.refl _ _) hs
theorem loc_buildR {x y z : Operand} (ho : o.op = .build 29 #[(0, x), (1, y), (2, z)]) {m t : ByteArray} {n : Int} (hx : a.eval x = .string m) (hy : a.eval y = .string t) (hz : a.eval z = .int .i64 n)
    (hs : s.p (.agg #[.string m, .string t, .int .i64 n, .slice none 0 0, .bool false, .slice none 0 0]) w) :
    o.wp Tryz.prog a w (fun a' w' => ∃ v, a' = a.put o.dst v ∧ Below w.heap.size w w' ∧ s.p v w') Q := by
  refine loc_run (v := .agg #[.string m, .string t, .int .i64 n, .slice none 0 0, .bool false, .slice none 0 0]) ?_ (Below.refl _ _) hs
  have hb := run_build (P := Tryz.prog) w 29 #[(0, .string m), (1, .string t), (2, .int .i64 n)] #[.string m, .string t, .int .i64 n, .slice none 0 0, .bool false, .slice none 0 0] (by kernel_rfl)
  unfold execOp
  simp only [ho, List.map_toArray, List.map_cons, List.map_nil, hx, hy, hz, Sem.run_bind, hb, Result.andThen_ok, Sem.run_pure]
end

set_option maxRecDepth 100000 in
set_option maxHeartbeats 2000000 in
theorem projParseReq_any (s : ByteArray) (w : World) (mm : Int) (hs : s.size < 4294967281) (hm : w.cell? ⟨1, 0, none⟩ = some (.int .i64 mm)) :
    Calls Tryz.prog 170 #[.string s] w fun e w' => e = .returned (reqV (lineR (splitS 32 s))) ∧ Below w.heap.size w w' := by
  have HW := Box.mk (lineR_words s)
  have HB := Box.mk (below_oneF w (.cells #[.string ⟨#[]⟩, .string ⟨#[]⟩, .int .i64 0, .slice none 0 0, .bool false, .slice none 0 0] 29))
  have HR := Box.mk (show RVar (w.alloc (.cells #[.string ⟨#[]⟩, .string ⟨#[]⟩, .int .i64 0, .slice none 0 0, .bool false, .slice none 0 0] 29)) w.heap.size ⟨#[]⟩ ⟨#[]⟩ 0 from heap_alloc_new _ _)
  have HM := Box.mk (below_cell HB.out hm)
  have HSM := Box.mk (fun h => wordsS_small (s := s) h)
  clear hm
  go_enter Tryz.func170, Tryz.ntmps170
  go_wp2_with fail
  refine (splitN_any s _ mm hs HM.out).mono ?_
  rintro e w1 ⟨cap, rfl, hcell, hb1⟩
  have HB1 := Box.mk (below_trans HB.out hb1)
  have HR1 := Box.mk (HR.out.keep hb1)
  have HC := Box.mk hcell
  have hg1 : (w.alloc (.cells #[.string ⟨#[]⟩, .string ⟨#[]⟩, .int .i64 0, .slice none 0 0, .bool false, .slice none 0 0] 29)).heap.size = w.heap.size + 1 := World.size_alloc _ _
  rw [hg1] at HC ⊢
  clear hb1 hcell HM HB HR hg1
  generalize hws : wordsS s = ws at *
  clear hws
  by_cases h3 : ws.length = 3
  · obtain ⟨m, t, v, rfl⟩ := three h3
    have hc0 := HC.out 0 (by simp)
    have hc1 := HC.out 1 (by simp)
    have hc2 := HC.out 2 (by simp)
    simp only [List.getElem_cons_zero, List.getElem_cons_succ] at hc0 hc1 hc2
    have HZ := Box.mk (show m.size ≤ maxLen by have := HSM.out rfl m (by simp); unfold maxLen; omega)
    clear h3 HC HSM
    rw [show ([m, t, v] : List ByteArray).length = 3 from rfl]
    by_cases h1 : tokS m = true
    · have H1 := Box.mk h1
      clear h1
      by_cases h2 : targetS t = true
      · have H2 := Box.mk h2
        clear h2
        by_cases h4 : (verZ v).2 = 0
        · have HP := Box.mk (show lineR (splitS 32 s) = (some (m, t, (verZ v).1), 0) by rw [← HW.out]; exact lineR_ok H1.out H2.out h4)
          have H4 := Box.mk h4
          clear h4
          go_wp2_with fail
          refine (token_any m _ HZ.out).mono ?_
          rintro e w2 ⟨he, rfl⟩
          rw [H1.out] at he
          subst he
          go_wp2_with fail
          refine (projTarget_any t _).mono ?_
          rintro e w3 ⟨he, hb3⟩
          rw [H2.out] at he
          subst he
          have HB3 := Box.mk (below_trans HB1.out hb3)
          have HR3 := Box.mk (HR1.out.keep hb3)
          have hd0 := below_cell hb3 hc0
          have hd1 := below_cell hb3 hc1
          have hd2 := below_cell hb3 hc2
          clear hb3 hc0 hc1 hc2 HB1 HR1
          go_wp2_with fail
          refine (parseVersion_any v _).mono ?_
          rintro e w4 ⟨he, rfl⟩
          rw [H4.out] at he
          generalize hzz : (verZ v).1 = z at *
          clear hzz
          subst he
          go_wp2_with fail
          generalize hg : w.heap.size = g at *
          have HG := Box.mk hg
          clear hg
          rename_i K hK
          refine wp_region_store (S := [some (.val (.slice (some ⟨g + 1, 0, none⟩) 3 cap)), some (.val (.pointer (some ⟨g + 1, 0, none⟩))), some (.val (.string m)), some (.val (.slice (some ⟨g + 1, 0, none⟩) 3 cap)), some (.val (.pointer (some ⟨g + 1, 1, none⟩))), some (.val (.string t)), some (.val (.int .i64 z)),
            some (.val (.agg #[.string m, .string t, .int .i64 z, .slice none 0 0, .bool false, .slice none 0 0])), none, some (.val (.int .i64 0))]) 8 [9]
            (fun w' => Below g w w' ∧ RVar w' g m t z) (by kernel_rfl) (by kernel_rfl) (by kernel_rfl) (by kernel_rfl) rfl rfl rfl ?_ ?_ ?_ ?_
          · refine ⟨?_, ?_, ?_, ?_, ?_, ?_, ?_, ?_, ?_, trivial⟩ <;> intro a w5 hb hf hd
            · exact ⟨wanted_none rfl, loc_move rfl (hf.base 4 rfl)⟩
            · exact ⟨wanted_none rfl, loc_index_s (k := 0) rfl (hd 0 rfl) rfl (by decide) rfl⟩
            · exact ⟨wanted_none rfl, loc_cell rfl (hd 1 rfl) (below_cell hb hd0) (agg_string _) rfl⟩
            · exact ⟨wanted_none rfl, loc_move rfl (hf.base 4 rfl)⟩
            · exact ⟨wanted_none rfl, loc_index_s (k := 1) rfl (hd 3 rfl) rfl (by decide) rfl⟩
            · exact ⟨wanted_none rfl, loc_cell rfl (hd 4 rfl) (below_cell hb hd1) (agg_string _) rfl⟩
            · exact ⟨wanted_none rfl, loc_move rfl (hf.base 5 rfl)⟩
            · exact ⟨wanted_none rfl, loc_buildR rfl (hd 2 rfl) (hd 5 rfl) (hd 6 rfl) rfl⟩
            · exact ⟨wanted_none rfl, loc_assign rfl rfl⟩
          · exact ⟨fun a w5 hf hd => ⟨wanted_none rfl, late_assign rfl rfl⟩, trivial⟩
          · refine ⟨rfl, fun a w5 hb hf hd => ⟨wanted_none rfl, ?_⟩⟩
            refine wp_store_row 29 _ _ rfl g #[.string m, .string t, .int .i64 z, .slice none 0 0, .bool false, .slice none 0 0] (hf.base 2 rfl) (hd 7 rfl) 29 _ (HR3.out.keep hb) sizeR rfl (oneR _ _ _) ⟨rfl, ?_, ?_⟩
            · have h8 := HG.out
              exact below_setRow (HB3.out.trans (hb.mono (by have := HB3.out.size; omega))) (Nat.le_refl _) _
            · exact setRow_heap _ _ _ _ _ _ (HR3.out.keep hb)
          · intro a w5 hp hf hh
            refine hK a w5 ?_
            go_wp2_with fail
            refine bodyPost_ret (results_row_tmpF rfl _ w5 g _ _ _ _ (hf.base 2 rfl) hp.2 Tryz.underlying29 rfl sizeR) hf.defers ?_
            rw [show a.tmps.getD 3 undef = .int .i64 0 from hh 9 (by decide)]
            exact ⟨by rw [HP.out]; rfl, by rw [HG.out]; exact hp.1⟩
        · have HP := Box.mk (show lineR (splitS 32 s) = (none, (verZ v).2) by rw [← HW.out]; exact lineR_err H1.out H2.out h4)
          have hb4 : ((verZ v).2 != 0) = true := by rw [bne_iff_ne]; exact h4
          clear h4
          go_wp2_with fail
          refine (token_any m _ HZ.out).mono ?_
          rintro e w2 ⟨he, rfl⟩
          rw [H1.out] at he
          subst he
          go_wp2_with fail
          refine (projTarget_any t _).mono ?_
          rintro e w3 ⟨he, hb3⟩
          rw [H2.out] at he
          subst he
          have HB3 := Box.mk (below_trans HB1.out hb3)
          have HR3 := Box.mk (HR1.out.keep hb3)
          have hd2 := below_cell hb3 hc2
          clear hb3 hc0 hc1 hc2 HB1 HR1
          go_wp2_with fail
          refine (parseVersion_any v _).mono ?_
          rintro e w4 ⟨he, rfl⟩
          generalize (verZ v).1 = z at *
          generalize (verZ v).2 = er at *
          subst he
          go_wp2_with (refine wpList_store_row rfl 29 _ _ rfl w.heap.size #[.string ⟨#[]⟩, .string ⟨#[]⟩, .int .i64 0, .slice none 0 0, .bool false, .slice none 0 0] rfl rfl 29 _ HR3.out sizeR rfl (oneR _ _ _) ?_)
          (try simp only [Exit.inBlock, Exit.then])
          refine bodyPost_ret (results_row_tmpF rfl _ _ w.heap.size _ _ _ _ rfl (setRow_heap _ _ _ _ _ _ HR3.out) Tryz.underlying29 rfl sizeR) rfl ?_
          exact ⟨by rw [HP.out]; rfl, below_setRow HB3.out (Nat.le_refl _) _⟩
      · have H2 := Box.mk (show targetS t = false by simpa using h2)
        have HP := Box.mk (show lineR (splitS 32 s) = (none, 2) by rw [← HW.out]; exact lineR_bad (fun h => h2 h.2))
        clear h2
        go_wp2_with fail
        refine (token_any m _ HZ.out).mono ?_
        rintro e w2 ⟨he, rfl⟩
        rw [H1.out] at he
        subst he
        go_wp2_with fail
        refine (projTarget_any t _).mono ?_
        rintro e w3 ⟨he, hb3⟩
        rw [H2.out] at he
        subst he
        have HB3 := Box.mk (below_trans HB1.out hb3)
        have HR3 := Box.mk (HR1.out.keep hb3)
        clear hb3 hc0 hc1 hc2 HB1 HR1
        go_wp2_with (refine wpList_store_row rfl 29 _ _ rfl w.heap.size #[.string ⟨#[]⟩, .string ⟨#[]⟩, .int .i64 0, .slice none 0 0, .bool false, .slice none 0 0] rfl rfl 29 _ HR3.out sizeR rfl (oneR _ _ _) ?_)
        (try simp only [Exit.inBlock, Exit.then])
        refine bodyPost_ret (results_row_tmpF rfl _ _ w.heap.size _ _ _ _ rfl (setRow_heap _ _ _ _ _ _ HR3.out) Tryz.underlying29 rfl sizeR) rfl ?_
        exact ⟨by rw [HP.out]; rfl, below_setRow HB3.out (Nat.le_refl _) _⟩
    · have H1 := Box.mk (show tokS m = false by simpa using h1)
      have HP := Box.mk (show lineR (splitS 32 s) = (none, 2) by rw [← HW.out]; exact lineR_bad (fun h => h1 h.1))
      clear h1
      go_wp2_with fail
      refine (token_any m _ HZ.out).mono ?_
      rintro e w2 ⟨he, rfl⟩
      rw [H1.out] at he
      subst he
      go_wp2_with (refine wpList_store_row rfl 29 _ _ rfl w.heap.size #[.string ⟨#[]⟩, .string ⟨#[]⟩, .int .i64 0, .slice none 0 0, .bool false, .slice none 0 0] rfl rfl 29 _ HR1.out sizeR rfl (oneR _ _ _) ?_)
      (try simp only [Exit.inBlock, Exit.then])
      refine bodyPost_ret (results_row_tmpF rfl _ _ w.heap.size _ _ _ _ rfl (setRow_heap _ _ _ _ _ _ HR1.out) Tryz.underlying29 rfl sizeR) rfl ?_
      exact ⟨by rw [HP.out]; rfl, below_setRow HB1.out (Nat.le_refl _) _⟩
  · have HP := Box.mk (show lineR (splitS 32 s) = (none, 2) by rw [← HW.out]; exact lineR_no h3)
    have hb3 : (((ws.length : Nat) : Int) != 3) = true := by rw [bne_iff_ne]; omega
    clear h3 HC HSM
    go_wp2_with (refine wpList_store_row rfl 29 _ _ rfl w.heap.size #[.string ⟨#[]⟩, .string ⟨#[]⟩, .int .i64 0, .slice none 0 0, .bool false, .slice none 0 0] rfl rfl 29 _ HR1.out sizeR rfl (oneR _ _ _) ?_)
    (try simp only [Exit.inBlock, Exit.then])
    refine bodyPost_ret (results_row_tmpF rfl _ _ w.heap.size _ _ _ _ rfl (setRow_heap _ _ _ _ _ _ HR1.out) Tryz.underlying29 rfl sizeR) rfl ?_
    exact ⟨by rw [HP.out]; rfl, below_setRow HB1.out (Nat.le_refl _) _⟩
end Go.Proofs.YteoadfckcilalaaGreatDoor
namespace Go.Proofs.YteoadfckcilalaaGreatDoor
open Go.RowKit

theorem verZ_min {v : ByteArray} (h : 0 ≤ minorZ v) : verZ v = (minorZ v, 0) := by
  unfold minorZ at *
  unfold verZ
  by_cases h0 : v = v10
  · rw [if_pos h0, if_pos h0]
  · rw [if_neg h0] at h ⊢
    rw [if_neg h0]
    by_cases h1 : v = v11
    · rw [if_pos h1, if_pos h1]
    · rw [if_neg h1] at h; omega
theorem verZ_yes {v : ByteArray} (h : minorZ v < 0) (hv : verB v = true) : verZ v = (0, 6) := by
  unfold minorZ at h
  unfold verZ
  by_cases h0 : v = v10
  · rw [if_pos h0] at h; omega
  · rw [if_neg h0] at h ⊢
    by_cases h1 : v = v11
    · rw [if_pos h1] at h; omega
    · rw [if_neg h1, if_pos hv]
theorem verZ_no {v : ByteArray} (h : minorZ v < 0) (hv : verB v = false) : verZ v = (0, 2) := by
  unfold minorZ at h
  unfold verZ
  by_cases h0 : v = v10
  · rw [if_pos h0] at h; omega
  · rw [if_neg h0] at h ⊢
    by_cases h1 : v = v11
    · rw [if_pos h1] at h; omega
    · rw [if_neg h1, if_neg (by rw [hv]; decide)]
end Go.Proofs.YteoadfckcilalaaGreatDoor
namespace Go.Proofs.YteoadfckcilalaaGreatDoor
open Go.RowKit

theorem parse599 (s : ByteArray) : (parseS 10 599 s).2 = 0 ∧ (parseS 10 599 s).1 ≤ 599 ∨ ¬ (parseS 10 599 s).2 = 0 ∧ (parseS 10 599 s).1 = 0 := by
  unfold parseS
  split
  · rename_i h
    have hne : s.data.toList ≠ [] := by
      intro e
      unfold numS at h
      rw [e] at h; simp at h
    rw [pgo_eq 10 599 (by decide) _ 0 (by decide) (.inr hne)]
    split
    · exact .inl ⟨rfl, by assumption⟩
    · exact .inr ⟨by decide, rfl⟩
  · exact .inr ⟨by decide, rfl⟩
theorem stat_parse (s : ByteArray) : statB (parseS 10 599 s).1 = true ↔ (parseS 10 599 s).2 = 0 ∧ 100 ≤ (parseS 10 599 s).1 := by
  unfold statB
  simp only [Bool.and_eq_true, decide_eq_true_eq]
  rcases parse599 s with ⟨h1, h2⟩ | ⟨h1, h2⟩
  · exact ⟨fun h => ⟨h1, h.1⟩, fun h => ⟨h.2, h2⟩⟩
  · rw [h2]; exact ⟨fun h => absurd h.1 (by decide), fun h => absurd h.2 (by decide)⟩
theorem parse_blank {s : ByteArray} {k : Nat} (h : s.data.toList[k]? = some 32) : ¬ (parseS 10 599 s).2 = 0 := by
  unfold parseS
  rw [if_neg]
  · decide
  · intro h2
    unfold numS at h2
    rw [Bool.and_eq_true] at h2
    have := List.all_eq_true.1 h2.1 32 (List.mem_of_getElem? h)
    revert this; decide
theorem verZ_iff (v : ByteArray) : (verZ v).2 = 0 ↔ 0 ≤ minorZ v := by
  by_cases h : 0 ≤ minorZ v
  · exact ⟨fun _ => h, fun _ => by rw [verZ_min h]⟩
  · refine ⟨fun h2 => ?_, fun h2 => absurd h2 h⟩
    have hlt : minorZ v < 0 := by omega
    cases hv : verB v with
    | true => rw [verZ_yes hlt hv] at h2; exact absurd h2 (by decide)
    | false => rw [verZ_no hlt hv] at h2; exact absurd h2 (by decide)
theorem minorZ_is {v : ByteArray} (h : 0 ≤ minorZ v) : v = v10 ∨ v = v11 := by
  unfold minorZ at h
  by_cases h0 : v = v10
  · exact .inl h0
  · rw [if_neg h0] at h
    by_cases h1 : v = v11
    · exact .inr h1
    · rw [if_neg h1] at h; omega
theorem minorZ_size {v : ByteArray} (h : 0 ≤ minorZ v) : v.size = 8 := by
  rcases minorZ_is h with rfl | rfl <;> rfl
theorem minorZ_blank {v : ByteArray} (h : 0 ≤ minorZ v) (k : Nat) : v.data.toList[k]? ≠ some 32 := by
  have h10 : ∀ k : Nat, v10.data.toList[k]? ≠ some 32 := fun k e => by
    have := List.mem_of_getElem? e
    revert this; decide
  have h11 : ∀ k : Nat, v11.data.toList[k]? ≠ some 32 := fun k e => by
    have := List.mem_of_getElem? e
    revert this; decide
  rcases minorZ_is h with rfl | rfl
  · exact h10 k
  · exact h11 k

def parseA2 (s : ByteArray) : Option (Int × ByteArray × Int) :=
  if (verZ (cutS 32 s).1).2 = 0 ∧ statB (codeZ (cutS 32 (cutS 32 s).2).1) = true ∧ visS (cutS 32 (cutS 32 s).2).2 = true then
    some (codeZ (cutS 32 (cutS 32 s).2).1, (cutS 32 (cutS 32 s).2).2, (verZ (cutS 32 s).1).1) else none
theorem stat0 : statB 0 = false := rfl
theorem code_no {s : ByteArray} (h : ¬ s.size = 3) : codeZ s = 0 := by unfold codeZ; rw [if_neg h]
theorem parseA2_code {s : ByteArray} (h : ¬ (cutS 32 (cutS 32 s).2).1.size = 3) : parseA2 s = none := by
  unfold parseA2
  rw [if_neg (fun h2 => by have := h2.2.1; rw [code_no h, stat0] at this; cases this)]
theorem parseA2_ver {s : ByteArray} (h : ¬ 0 ≤ minorZ (cutS 32 s).1) : parseA2 s = none := by
  unfold parseA2
  rw [if_neg (fun h2 => h ((verZ_iff _).1 h2.1))]
theorem extract_at (s : ByteArray) (a b k : Nat) (h : k < b - a) : (s.extract a b).data.toList[k]? = s.data.toList[a + k]? := by
  rw [Lib.extract_data, List.getElem?_take_of_lt h, List.getElem?_drop]
theorem both_same {s : ByteArray} {d r : ByteArray} (h1 : (cutS 32 s).1 = s.extract 0 8) (h2 : (cutS 32 (cutS 32 s).2).1 = d) (h3 : (cutS 32 (cutS 32 s).2).2 = r) (hd : d = s.extract 9 12) (hz : d.size = 3) (hr : r = reasonS s)
    (g1 : 12 ≤ s.size) (g2 : s.data.toList[8]? = some 32) (g3 : 12 < s.size → s.data.toList[12]? = some 32) : parseA2 s = parseA s := by
  unfold parseA2 parseA
  rw [h1, h2, h3, hr]
  have hc : codeZ d = (parseS 10 599 (s.extract 9 12)).1 := by unfold codeZ; rw [if_pos hz, hd]
  rw [hc]
  by_cases c : 0 ≤ minorZ (s.extract 0 8)
  · have e1 : verZ (s.extract 0 8) = (minorZ (s.extract 0 8), 0) := verZ_min c
    rw [e1]
    by_cases c2 : statB (parseS 10 599 (s.extract 9 12)).1 = true
    · obtain ⟨c3, c4⟩ := (stat_parse _).1 c2
      by_cases c5 : visS (reasonS s) = true
      · rw [if_pos ⟨rfl, c2, c5⟩, if_pos ⟨g1, c, g2, g3, c3, c4, c5⟩]
      · rw [if_neg (fun h => c5 h.2.2), if_neg (fun h => c5 h.2.2.2.2.2.2)]
    · rw [if_neg (fun h => c2 h.2.1), if_neg (fun h => c2 ((stat_parse _).2 ⟨h.2.2.2.2.1, h.2.2.2.2.2.1⟩))]
  · rw [if_neg (fun h => c ((verZ_iff _).1 h.1)), if_neg (fun h => c h.2.1)]
theorem parseA_no {s : ByteArray} (h : 12 ≤ s.size → 0 ≤ minorZ (s.extract 0 8) → s.data.toList[8]? = some 32 → (12 < s.size → s.data.toList[12]? = some 32) → (parseS 10 599 (s.extract 9 12)).2 = 0 → False) : parseA s = none := by
  unfold parseA
  rw [if_neg (fun h2 => h h2.1 h2.2.1 h2.2.2.1 h2.2.2.2.1 h2.2.2.2.2.1)]
theorem sub_a (s : ByteArray) (h : 12 < s.size) : (s.extract 9 s.size).extract 0 3 = s.extract 9 12 := by
  apply ba_ext
  rw [Lib.extract_data, Lib.extract_data, Lib.extract_data, List.drop_zero, List.take_take, show min (3 - 0) (s.size - 9) = 12 - 9 by omega]
theorem sub_b (s : ByteArray) (h : 12 < s.size) : (s.extract 9 s.size).extract (3 + 1) (s.extract 9 s.size).size = s.extract 13 s.size := by
  have hz : (s.extract 9 s.size).size = s.size - 9 := by rw [ByteArray.size_extract]; omega
  rw [hz]
  apply ba_ext
  rw [Lib.extract_data, Lib.extract_data, Lib.extract_data, List.drop_take, List.drop_drop, List.take_take, show min (s.size - 9 - (3 + 1)) (s.size - 9 - (3 + 1)) = s.size - 13 by omega]
set_option maxHeartbeats 1000000 in
theorem parseA2_eq (s : ByteArray) : parseA2 s = parseA s := by
  rcases idxI_cases 32 s with h | ⟨k, h, hk⟩
  · have hn := Lib.indexByte_none h
    rw [parseA2_code (by rw [cutS_no h]; show ¬ (cutS 32 ⟨#[]⟩).1.size = 3; decide), parseA_no (fun _ _ h2 => absurd h2 (hn 8))]
  · have hs := Lib.indexByte_some h
    by_cases h8 : k = 8
    · subst h8
      have h1 : (cutS 32 s).1 = s.extract 0 8 := by rw [cutS_at h]
      have h2 : (cutS 32 s).2 = s.extract 9 s.size := by rw [cutS_at h]
      have hz : (s.extract 9 s.size).size = s.size - 9 := by rw [ByteArray.size_extract]; omega
      rcases idxI_cases 32 (s.extract 9 s.size) with ht | ⟨j, ht, hj⟩
      · have hn := Lib.indexByte_none ht
        by_cases hz3 : (s.extract 9 s.size).size = 3
        · have h12 : s.size = 12 := by omega
          refine both_same h1 (by rw [h2, cutS_no ht]) (by rw [h2, cutS_no ht]) ?_ hz3 ?_ (by omega) hs.1 (fun h3 => by omega)
          · rw [h12]
          · unfold reasonS; rw [if_neg (by omega)]
        · rw [parseA2_code (by rw [h2, cutS_no ht]; exact hz3)]
          refine (parseA_no fun h3 h4 h5 h6 h7 => ?_).symm
          have h12 : 12 < s.size := by omega
          refine hn 3 ?_
          rw [extract_at _ _ _ _ (by omega)]; exact h6 h12
      · have hjs := Lib.indexByte_some ht
        have hq1 : (cutS 32 (cutS 32 s).2).1 = (s.extract 9 s.size).extract 0 j := by rw [h2, cutS_at ht]
        have hq2 : (cutS 32 (cutS 32 s).2).2 = (s.extract 9 s.size).extract (j + 1) (s.extract 9 s.size).size := by rw [h2, cutS_at ht]
        have hjz : ((s.extract 9 s.size).extract 0 j).size = j := by rw [ByteArray.size_extract]; omega
        by_cases hj3 : j = 3
        · subst hj3
          have h13 : 12 < s.size := by omega
          refine both_same h1 hq1 hq2 ?_ hjz ?_ (by omega) hs.1 (fun _ => ?_)
          · exact sub_a s h13
          · unfold reasonS
            rw [if_pos h13]
            exact sub_b s h13
          · have := hjs.1
            rw [extract_at _ _ _ _ (by omega)] at this; exact this
        · rw [parseA2_code (by rw [hq1, hjz]; exact hj3)]
          refine (parseA_no fun h3 h4 h5 h6 h7 => ?_).symm
          rcases Nat.lt_or_ge j 3 with hlt | hge
          · refine parse_blank (k := j) ?_ h7
            have := hjs.1
            rw [extract_at _ _ _ _ (by omega)] at this ⊢; exact this
          · have h12 : 12 < s.size := by omega
            refine hjs.2 3 (by omega) ?_
            rw [extract_at _ _ _ _ (by omega)]; exact h6 h12
    · have h1 : (cutS 32 s).1 = s.extract 0 k := by rw [cutS_at h]
      rw [parseA2_ver (by rw [h1]; intro h2; have := minorZ_size h2; rw [ByteArray.size_extract] at this; omega)]
      refine (parseA_no fun h3 h4 h5 h6 h7 => ?_).symm
      rcases Nat.lt_or_ge k 8 with hlt | hge
      · refine minorZ_blank h4 k ?_
        rw [extract_at _ _ _ _ (by omega), Nat.zero_add]; exact hs.1
      · exact hs.2 8 (by omega) h5

set_option maxRecDepth 100000 in
set_option maxHeartbeats 2000000 in
theorem projParseRep_any (s : ByteArray) (w : World) (hs : s.size ≤ maxLen) :
    Calls Tryz.prog 176 #[.string s] w fun e w' => e = .returned (replyV (parseA s)) ∧ Below w.heap.size w w' := by
  rw [← parseA2_eq]
  have HB := Box.mk (below_oneF w (.cells #[.int .i64 0, .string ⟨#[]⟩, .int .i64 0, .slice none 0 0, .slice none 0 0] 31))
  have HR := Box.mk (show AVar (w.alloc (.cells #[.int .i64 0, .string ⟨#[]⟩, .int .i64 0, .slice none 0 0, .slice none 0 0] 31)) w.heap.size 0 ⟨#[]⟩ 0 from heap_alloc_new _ _)
  have HZ2 := Box.mk (cutS_size2 32 s)
  have HZ3 := Box.mk (cutS_size1 32 (cutS 32 s).2)
  have HP0 := Box.mk (show parseA2 s = if (verZ (cutS 32 s).1).2 = 0 ∧ statB (codeZ (cutS 32 (cutS 32 s).2).1) = true ∧ visS (cutS 32 (cutS 32 s).2).2 = true then
    some (codeZ (cutS 32 (cutS 32 s).2).1, (cutS 32 (cutS 32 s).2).2, (verZ (cutS 32 s).1).1) else none from rfl)
  have H0 := Box.mk hs
  clear hs
  go_enter Tryz.func176, Tryz.ntmps176
  go_wp2_with fail
  refine (cutC_any 32 s _ H0.out).mono ?_
  rintro e w1 ⟨b1, rfl, hb1⟩
  have HB1 := Box.mk (below_trans HB.out hb1)
  have HR1 := Box.mk (HR.out.keep hb1)
  clear hb1 HB HR
  generalize (cutS 32 s).1 = v at *
  generalize (cutS 32 s).2 = t at *
  go_wp2_with fail
  refine (cutC_any 32 t _ (Nat.le_trans HZ2.out H0.out)).mono ?_
  rintro e w2 ⟨b2, rfl, hb2⟩
  have HB2 := Box.mk (below_trans HB1.out hb2)
  have HR2 := Box.mk (HR1.out.keep hb2)
  clear hb2 HB1 HR1
  generalize (cutS 32 t).1 = d at *
  generalize (cutS 32 t).2 = r at *
  go_wp2_with fail
  refine (parseVersion_any v _).mono ?_
  rintro e w3 ⟨rfl, rfl⟩
  generalize verZ v = q at *
  obtain ⟨q1, q2⟩ := q
  go_wp2_with fail
  refine (parseCode_any d _ (Nat.le_trans HZ3.out (Nat.le_trans HZ2.out H0.out))).mono ?_
  rintro e w3 ⟨rfl, rfl⟩
  generalize codeZ d = c at *
  by_cases c0 : q2 = 0
  · by_cases c1 : statB c = true
    · by_cases c2 : visS r = true
      · have HP := Box.mk (show parseA2 s = some (c, r, q1) by rw [HP0.out, if_pos ⟨c0, c1, c2⟩])
        subst c0
        have C1 := Box.mk c1
        have C2 := Box.mk c2
        clear c1 c2 HP0
        go_wp2_with fail
        refine (isStatus_any c _).mono ?_
        rintro e w4 ⟨he, rfl⟩
        rw [C1.out] at he
        subst he
        go_wp2_with fail
        refine (isReason_any r _).mono ?_
        rintro e w4 ⟨he, hb4⟩
        rw [C2.out] at he
        subst he
        have HB4 := Box.mk (below_trans HB2.out hb4)
        have HR4 := Box.mk (HR2.out.keep hb4)
        clear hb4 HB2 HR2
        go_wp2_with (refine wpList_store_row rfl 31 _ _ rfl w.heap.size #[.int .i64 c, .string r, .int .i64 q1, .slice none 0 0, .slice none 0 0] rfl rfl 31 _ HR4.out sizeA rfl (oneA _ _ _) ?_)
        (try simp only [Exit.inBlock, Exit.then])
        refine bodyPost_ret (results_row_tmpF rfl _ _ w.heap.size _ _ _ _ rfl (setRow_heap _ _ _ _ _ _ HR4.out) Tryz.underlying31 rfl sizeA) rfl ?_
        exact ⟨by rw [HP.out]; rfl, below_setRow HB4.out (Nat.le_refl _) _⟩
      · have HP := Box.mk (show parseA2 s = none by rw [HP0.out, if_neg (fun h => c2 h.2.2)])
        subst c0
        have C1 := Box.mk c1
        have C2 := Box.mk (show visS r = false by simpa using c2)
        clear c1 c2 HP0
        go_wp2_with fail
        refine (isStatus_any c _).mono ?_
        rintro e w4 ⟨he, rfl⟩
        rw [C1.out] at he
        subst he
        go_wp2_with fail
        refine (isReason_any r _).mono ?_
        rintro e w4 ⟨he, hb4⟩
        rw [C2.out] at he
        subst he
        have HB4 := Box.mk (below_trans HB2.out hb4)
        have HR4 := Box.mk (HR2.out.keep hb4)
        clear hb4 HB2 HR2
        go_wp2_with (refine wpList_store_row rfl 31 _ _ rfl w.heap.size #[.int .i64 0, .string ⟨#[]⟩, .int .i64 0, .slice none 0 0, .slice none 0 0] rfl rfl 31 _ HR4.out sizeA rfl (oneA _ _ _) ?_)
        (try simp only [Exit.inBlock, Exit.then])
        refine bodyPost_ret (results_row_tmpF rfl _ _ w.heap.size _ _ _ _ rfl (setRow_heap _ _ _ _ _ _ HR4.out) Tryz.underlying31 rfl sizeA) rfl ?_
        exact ⟨by rw [HP.out]; rfl, below_setRow HB4.out (Nat.le_refl _) _⟩
    · have HP := Box.mk (show parseA2 s = none by rw [HP0.out, if_neg (fun h => c1 h.2.1)])
      subst c0
      have C1 := Box.mk (show statB c = false by simpa using c1)
      clear c1 HP0
      go_wp2_with fail
      refine (isStatus_any c _).mono ?_
      rintro e w4 ⟨he, rfl⟩
      rw [C1.out] at he
      subst he
      go_wp2_with (refine wpList_store_row rfl 31 _ _ rfl w.heap.size #[.int .i64 0, .string ⟨#[]⟩, .int .i64 0, .slice none 0 0, .slice none 0 0] rfl rfl 31 _ HR2.out sizeA rfl (oneA _ _ _) ?_)
      (try simp only [Exit.inBlock, Exit.then])
      refine bodyPost_ret (results_row_tmpF rfl _ _ w.heap.size _ _ _ _ rfl (setRow_heap _ _ _ _ _ _ HR2.out) Tryz.underlying31 rfl sizeA) rfl ?_
      exact ⟨by rw [HP.out]; rfl, below_setRow HB2.out (Nat.le_refl _) _⟩
  · have HP := Box.mk (show parseA2 s = none by rw [HP0.out, if_neg (fun h => c0 h.1)])
    have e0 : (q2 != 0) = true := by rw [bne_iff_ne]; exact c0
    clear c0 HP0
    go_wp2_with (refine wpList_store_row rfl 31 _ _ rfl w.heap.size #[.int .i64 0, .string ⟨#[]⟩, .int .i64 0, .slice none 0 0, .slice none 0 0] rfl rfl 31 _ HR2.out sizeA rfl (oneA _ _ _) ?_)
    (try simp only [Exit.inBlock, Exit.then])
    refine bodyPost_ret (results_row_tmpF rfl _ _ w.heap.size _ _ _ _ rfl (setRow_heap _ _ _ _ _ _ HR2.out) Tryz.underlying31 rfl sizeA) rfl ?_
    exact ⟨by rw [HP.out]; rfl, below_setRow HB2.out (Nat.le_refl _) _⟩
end Go.Proofs.YteoadfckcilalaaGreatDoor
namespace Go.Proofs.YteoadfckcilalaaGreatDoor
open Go.RowKit

theorem IntsF.alloc {w : World} {a : Option Addr} {n : Nat} (h : IntsF w a n) (o : Obj) : IntsF (w.alloc o) a n := h.keep (below_oneF w o)
theorem src_box {w : World} {a : Option Addr} {n c : Nat} (h : IntsF w a n) (hn : n ≤ maxLen) : Src (w.alloc (.cells #[.slice a n c, .int .i64 0] 56)) w.heap.size a n c := by
  refine ⟨⟨0, Nat.zero_le _, heap_alloc_new _ _⟩, hn, h.alloc _, fun x e h0 => ?_⟩
  obtain ⟨y, z, e2, hc, _⟩ := h 0 h0
  rw [e] at e2
  obtain rfl := Option.some.inj e2
  have := lt_cell hc
  rw [add_blockF] at this
  omega
theorem below_box {w w1 w2 : World} (h : Below w.heap.size w w1) (hg : w1.grownBy w2 (some w.heap.size)) : Below w.heap.size w w2 :=
  h.grown hg h.size fun k e => by have := Option.some.inj e; omega

theorem fldsIn_one (w : World) (n v : ByteArray) : FldsIn (w.alloc (.cells #[.string n, .string v] 88)) (some ⟨w.heap.size, 0, none⟩) [(n, v)] := fun j hj => by
  obtain rfl : j = 0 := by simpa using hj
  exact ⟨_, rfl, by rw [Addr.add_lit, new_cellF]; rfl, by rw [Addr.add_lit, new_cellF]; rfl⟩

end Go.Proofs.YteoadfckcilalaaGreatDoor
namespace Go.Proofs.YteoadfckcilalaaGreatDoor
open Go.RowKit

theorem strsIn_twoF (w : World) (n m : ByteArray) (t : TypeId) : StrsIn (w.alloc (.cells #[.string n, .string m] t)) (some ⟨w.heap.size, 0, none⟩) [n, m] := fun j hj => by
  have hj' : j < 2 := by simpa using hj
  match j, hj' with
  | 0, _ => exact ⟨_, rfl, by rw [Addr.add_lit, new_cellF]; rfl⟩
  | 1, _ => exact ⟨_, rfl, by rw [Addr.add_lit, new_cellF]; rfl⟩
end Go.Proofs.YteoadfckcilalaaGreatDoor
namespace Go.Proofs.YteoadfckcilalaaGreatDoor
open Go.RowKit

/-- What the tables of the library hold, as far as it is read here. -/
def Tabs (w : World) : Prop := Lib.TabIs Tryz.prog w "internal/strconv.uint64pow10" .u64 Lib.pow10Tab ∧ w.cell? ⟨4, 15, none⟩ = some (.int .u8 4) ∧ 2 < w.heap.size

set_option maxHeartbeats 400000 in
theorem tz64_16 (w : World) (h : w.cell? ⟨4, 15, none⟩ = some (.int .u8 4)) :
    Calls Tryz.prog 230 #[.int .u64 16] w fun e w' => e = .returned (.int .i64 4) ∧ w = w' := by
  go_enter Tryz.func230, Tryz.ntmps230
  have b1 : bits BinOp.and IntKind.u64 16 (IntKind.u64.wrap (-16)) = 16 := by kernel_rfl
  have b2 : IntKind.u64.wrap (16 * 285870213051353865) = 4573923408821661840 := by kernel_rfl
  go_wp2
  go_ret
  exact ⟨rfl, rfl⟩

set_option maxHeartbeats 400000 in
theorem tz16_any (w : World) (h : w.cell? ⟨4, 15, none⟩ = some (.int .u8 4)) :
    Calls Tryz.prog 208 #[.int .u64 16] w fun e w' => e = .returned (.int .i64 4) ∧ w = w' := by
  go_enter Tryz.func208, Tryz.ntmps208
  go_wp2_with (go_at_call 230; refine (tz64_16 _ h).mono ?_; rintro e w' ⟨rfl, rfl⟩)
  go_ret
  exact ⟨rfl, rfl⟩

set_option maxHeartbeats 400000 in
theorem pow2_16 (w : World) :
    Calls Tryz.prog 207 #[.int .i64 16] w fun e w' => e = .returned (.bool true) ∧ w = w' := by
  go_enter Tryz.func207, Tryz.ntmps207
  go_wp2
  go_ret
  exact ⟨rfl, rfl⟩

theorem ret_sl_str {a b : ByteArray} {v : Value} (h : a = b) : Ending.returned (.tuple #[v, .string a]) = .returned (.tuple #[v, .string b]) := by rw [h]

def zs65 : Array Value := Array.replicate 65 (.int .u8 0)
theorem zs65_at (j : Nat) (h : j < 65) : zs65[j]? = some (.int .u8 0) := by unfold zs65; rw [Array.getElem?_replicate, if_pos h]
theorem zs65_ne : ¬ zs65 = #[] := by intro h; have := congrArg Array.size h; simp [zs65] at this
theorem zs65_zero (w : World) : (zeroValue 217).run Tryz.prog w = .ok (.agg zs65) w := by kernel_rfl
theorem pow_bd {k n u : Nat} (h : k * 16 ^ n ≤ u) (hu : u < 9223372036854775808) (hk : 1 ≤ k) : n ≤ 15 := by
  rcases Nat.lt_or_ge 15 n with hn | hn
  · have h1 : 16 ^ 16 ≤ 16 ^ n := Nat.pow_le_pow_right (by omega) hn
    have h2 : 16 ^ n ≤ k * 16 ^ n := Nat.le_mul_of_pos_left _ hk
    have h3 : (16 : Nat) ^ 16 = 18446744073709551616 := by decide
    omega
  · exact hn

/-- The block holds 65 bytes, the last of which are t. -/
def Tail (w0 w : World) (i : Nat) (t : List UInt8) : Prop := ∃ l : List UInt8, l.length = 65 ∧ BytesAt w w0.heap.size l ∧ l.drop i = t ∧ Below w0.heap.size w0 w

def dig36 : ByteArray := ⟨#[48, 49, 50, 51, 52, 53, 54, 55, 56, 57, 97, 98, 99, 100, 101, 102, 103, 104, 105, 106, 107, 108, 109, 110, 111, 112, 113, 114, 115, 116, 117, 118, 119, 120, 121, 122]⟩
theorem dig36_fin : ∀ d : Fin 16, dig36.data.toList[d.val]? = some (dgc d.val) := by decide +kernel
theorem dig36_at {d : Nat} (h : d < 16) (hd : d < dig36.size) : dig36[d]'hd = dgc d := by
  have h1 := dig36_fin ⟨d, h⟩
  have h2 : dig36.data.toList[d]? = some (dig36[d]'hd) := by
    have hs : d < dig36.data.toList.length := by simpa using hd
    rw [List.getElem?_eq_getElem hs]; rfl
  rw [h2] at h1; exact Option.some.inj h1
theorem Tail.cell {w0 w : World} {i : Nat} {t : List UInt8} (h : Tail w0 w i t) {j : Nat} (hj : j < 65) : ∃ v, w.cell? ⟨w0.heap.size, j, none⟩ = some v ∧ w.frozen? ⟨w0.heap.size, j, none⟩ = false := by
  obtain ⟨l, h1, h2, _⟩ := h
  obtain ⟨a, b⟩ := h2 j (by omega)
  exact ⟨_, a, b⟩
theorem Tail.put {w0 w : World} {i : Nat} {t : List UInt8} (h : Tail w0 w i t) (hi : 1 ≤ i) (hi2 : i ≤ 65) (c : UInt8) :
    Tail w0 (w.setCell ⟨w0.heap.size, i - 1, none⟩ (.int .u8 (c.toNat : Int))) (i - 1) (c :: t) := by
  obtain ⟨l, h1, h2, h3, h4⟩ := h
  refine ⟨l.set (i - 1) c, by simp [h1], h2.set (by omega) c, ?_, h4.setCell (Nat.le_refl _) _⟩
  rw [List.drop_eq_getElem_cons (by rw [List.length_set]; omega), List.getElem_set_self, show i - 1 + 1 = i by omega, List.drop_set_of_lt (by omega), h3]

theorem Tail.read {w0 w : World} {i : Nat} {t : List UInt8} (h : Tail w0 w i t) {j : Nat} (hj : j < t.length) : w.cell? ⟨w0.heap.size, i + j, none⟩ = some (.int .u8 (t[j].toNat : Int)) := by
  obtain ⟨l, h1, h2, h3, h4⟩ := h
  subst h3
  have hj' : i + j < l.length := by simp at hj; omega
  rw [(h2 (i + j) hj').1, List.getElem_drop]

set_option maxRecDepth 100000 in
set_option maxHeartbeats 1000000 in
theorem formatBits16 (u : Nat) (w : World) (hu : u < 9223372036854775808) (h : w.cell? ⟨4, 15, none⟩ = some (.int .u8 4)) :
    Calls Tryz.prog 186 #[.slice none 0 0, .int .u64 u, .int .i64 16, .bool false, .bool false] w fun e w' => e = .returned (.tuple #[.slice none 0 0, .string (numeral 16 u)]) ∧ Below w.heap.size w w' := by
  have hlt := lt_cell h
  have hz := zs65_zero
  have hne := zs65_ne
  have HT : Hid (Tail w (w.alloc (.cells zs65 217)) 65 []) := by
    refine Lib.hid ⟨List.replicate 65 0, by simp, ?_, by simp, (Below.refl _ _).alloc (Nat.le_refl _) _⟩
    intro j hj
    have hj' : j < 65 := by simpa using hj
    refine ⟨?_, World.frozen?_alloc_new _ _ _ _⟩
    rw [World.cell?_alloc_new, zs65_at j hj', List.getElem_replicate]; rfl
  have hc : (w.alloc (.cells zs65 217)).cell? ⟨4, 15, none⟩ = some (.int .u8 4) := by rw [World.cell?_alloc_past _ _ _ hlt]; exact h
  have HC := Lib.hid hc
  clear hc h
  go_enter Tryz.func186, Tryz.ntmps186
  go_wp2_with (first | (go_at_call 207; refine (pow2_16 _).mono ?_; rintro e w' ⟨rfl, rfl⟩) | (go_at_call 208; refine (tz16_any _ HC.out).mono ?_; rintro e w' ⟨rfl, rfl⟩))
  go_loopw [1, 13] (fun x y wr => ∃ (k i : Nat) (t : List UInt8), x = .int .u64 k ∧ y = .int .i64 i ∧ t.length + i = 65 ∧ k ≤ u ∧ Hid (k * 16 ^ t.length ≤ u ∧ (t = [] ∨ 1 ≤ k) ∧ digs 16 u = digs 16 k ++ t ∧ Tail w wr i t)) (fun x _ _ => (intOf x).toNat)
  case atStart => exact ⟨u, 65, [], rfl, rfl, by simp, Nat.le_refl _, Lib.hid ⟨by simp, .inl rfl, by simp, HT.out⟩⟩
  case round =>
    obtain ⟨k, i, t, rfl, rfl, hi, hk, HH⟩ := hrel
    have h1 := HH.out.1
    have h15 : t.length ≤ 15 := by
      rcases HH.out.2.1 with e | e
      · rw [e]; simp
      · exact pow_bd h1 hu e
    clear h1
    obtain ⟨v, hcell, hfz⟩ := HH.out.2.2.2.cell (j := i - 1) (by omega)
    have hx : ∀ d (hd16 : d < 16) hd, (⟨#[48, 49, 50, 51, 52, 53, 54, 55, 56, 57, 97, 98, 99, 100, 101, 102, 103, 104, 105, 106, 107, 108, 109, 110, 111, 112, 113, 114, 115, 116, 117, 118, 119, 120, 121, 122]⟩ : ByteArray)[d]'hd = dgc d := fun d hd16 hd => dig36_at hd16 hd
    by_cases h16 : 16 ≤ k
    · obtain ⟨d, hd⟩ : ∃ d : Nat, k % 16 = d := ⟨_, rfl⟩
      have hd9 : d < 16 := by omega
      have hb : bits BinOp.and IntKind.u64 (k : Int) 15 = (d : Int) := by
        rw [show (15 : Int) = ((15 : Nat) : Int) from rfl, bits_and_u64_nat _ _ (by omega) (by omega), ← hd]
        congr 1
        exact Nat.and_two_pow_sub_one_eq_mod k 4
      have HD := Lib.hid hd
      have hxd := hx d hd9
      clear hd hx
      go_wp2
      all_goals go_roundw
      case rel =>
        obtain ⟨a1, a2, a3, a4⟩ := HH.out
        have hd := HD.out
        refine ⟨k / 16, i - 1, dgc d :: t, congrArg (Value.int .u64) (by omega), congrArg (Value.int .i64) (by omega), by simp; omega, by omega, Lib.hid ⟨?_, .inr (by omega), ?_, a4.put (by omega) (by omega) _⟩⟩
        · rw [List.length_cons, Nat.pow_succ, ← Nat.mul_assoc, Nat.mul_right_comm]
          exact Nat.le_trans (Nat.mul_le_mul_right _ (by omega)) a1
        · rw [a3, digs_big (by omega) (show ¬ k < 16 by omega), hd]; simp
      case measure => simp [intOf]; omega
    · have hk16 : k < 16 := by omega
      have hxd := hx k hk16
      clear hx
      have hal : Tryz.prog.arrayLen 217 = 65 := by simp [Program.arrayLen, Tryz.underlying217]
      have hsl : ∀ W, (Instr.sliceAt 217 (.pointer (some ⟨w.heap.size, 0, none⟩)) (some (.int .i64 ((i : Int) - 1))) none none).run Tryz.prog W = .ok (.slice (some ⟨w.heap.size, i - 1, none⟩) (t.length + 1) (t.length + 1)) W := fun W => by
        rw [run_sliceAt_array_l W 217 ⟨w.heap.size, 0, none⟩ (by simp [Program.arrayLen, Program.elem, Tryz.underlying217]) .i64 _ (by omega) (by rw [hal]; omega)]
        go_simp
        omega
      have hT := HH.out.2.2.2.put (by omega) (by omega) (dgc k)
      have hcv : (convert 23 9 (.slice (some ⟨w.heap.size, i - 1, none⟩) (t.length + 1) (t.length + 1))).run Tryz.prog (wr.setCell ⟨w.heap.size, i - 1, none⟩ (.int .u8 ((dgc k).toNat : Int))) = .ok (.string ⟨(dgc k :: t).toArray⟩) (wr.setCell ⟨w.heap.size, i - 1, none⟩ (.int .u8 ((dgc k).toNat : Int))) :=
        run_convert_bytes_back (P := Tryz.prog) _ 23 9 5 ⟨w.heap.size, i - 1, none⟩ (t.length + 1) (dgc k :: t) Tryz.underlying23 Tryz.underlying5 Tryz.underlying9 (fun j hj => by rw [Lib.add_plain]; exact hT.read hj)
      have HT := Lib.hid hT
      clear hT hal
      go_wp2
      go_ret2
      obtain ⟨a1, a2, a3, a4⟩ := HH.out
      obtain ⟨_, _, _, _, hb⟩ := HT.out
      refine ⟨ret_sl_str ?_, hb⟩
      unfold numeral
      rw [a3, digs_small hk16]; rfl

theorem grow_below (w : World) (os : Array Obj) : Below w.heap.size w (Sort.grow w os) :=
  ⟨rfl, rfl, rfl, by simp [Sort.grow], fun k hk => by simp [Sort.grow, Array.getElem?_append_left hk]⟩

set_option maxHeartbeats 1000000 in
theorem formatInt16 (u : Nat) (w : World) (hu : u < 9223372036854775808) (h : w.cell? ⟨4, 15, none⟩ = some (.int .u8 4)) :
    Calls Tryz.prog 139 #[.int .i64 u, .int .i64 16] w fun e w' => e = .returned (.string (numeral 16 u)) ∧ Below w.heap.size w w' := by
  have HC := Lib.hid h
  clear h
  have h1 : Calls Tryz.prog 163 #[.int .i64 u, .int .i64 16] w fun e w' => e = .returned (.string (numeral 16 u)) ∧ Below w.heap.size w w' := by
    have hwr : IntKind.u64.wrap (u : Int) = (u : Int) := by rw [IntKind.wrap_u64]; omega
    go_enter Tryz.func163, Tryz.ntmps163
    go_wp2_with (go_at_call 186; refine (formatBits16 u _ hu HC.out).mono ?_; rintro e w' ⟨rfl, hb⟩)
    go_ret
    exact ⟨rfl, hb⟩
  go_enter Tryz.func139, Tryz.ntmps139
  go_wp2_with (go_at_call 163; refine h1.mono ?_; rintro e w' ⟨rfl, hb⟩)
  go_ret
  exact ⟨rfl, hb⟩

theorem formatInt10 (u : Nat) (w : World) (hu : u < 9223372036854775808) (h : Lib.TabIs Tryz.prog w "internal/strconv.uint64pow10" .u64 Lib.pow10Tab) :
    Calls Tryz.prog 139 #[.int .i64 u, .int .i64 10] w fun e w' => e = .returned (.string (numeral 10 u)) ∧ Below w.heap.size w w' := by
  refine (Any.strconv_FormatInt_10 Tryz.laysM173 (u : Int) (by omega) (by omega) w h).mono ?_
  rintro e w' ⟨rfl, k, os, rfl⟩
  refine ⟨ret_str ?_, (below_drewN0 w k).trans (show Below w.heap.size (w.drewN k) _ from grow_below (w.drewN k) os)⟩
  unfold numeral
  rw [digs_dec, Lib.itoa_nonneg]

theorem format_any (n : Int) (b : Int) (w : World) (hb : b = 10 ∨ b = 16) (h0 : -9223372036854775808 ≤ n) (h1 : n ≤ 9223372036854775807) (ht : Tabs w) :
    Calls Tryz.prog 106 #[.int .i64 n, .int .i64 b] w fun e w' => e = .returned (.string (fmtS b.toNat n)) ∧ Below w.heap.size w w' := by
  by_cases hn : n < 0
  · go_enter Tryz.func106, Tryz.ntmps106
    go_wp2
    go_ret
    exact ⟨ret_str (by unfold fmtS; rw [if_pos hn]), Below.refl _ _⟩
  · obtain ⟨u, rfl⟩ : ∃ u : Nat, n = u := ⟨n.toNat, by omega⟩
    obtain ⟨t1, t2, t3⟩ := ht
    have T1 := Lib.hid t1
    have T2 := Lib.hid t2
    clear t1 t2
    rcases hb with rfl | rfl
    · go_enter Tryz.func106, Tryz.ntmps106
      go_wp2_with (go_at_call 139; refine (formatInt10 u _ (by omega) T1.out).mono ?_; rintro e w' ⟨rfl, hb⟩)
      go_ret
      exact ⟨ret_str (by unfold fmtS; rw [if_neg (by omega)]; rfl), hb⟩
    · go_enter Tryz.func106, Tryz.ntmps106
      go_wp2_with (go_at_call 139; refine (formatInt16 u _ (by omega) T2.out).mono ?_; rintro e w' ⟨rfl, hb⟩)
      go_ret
      exact ⟨ret_str (by unfold fmtS; rw [if_neg (by omega)]; rfl), hb⟩

theorem decimal_any (n : Int) (w : World) (h0 : -9223372036854775808 ≤ n) (h1 : n ≤ 9223372036854775807) (ht : Tabs w) :
    Calls Tryz.prog 75 #[.int .i64 n] w fun e w' => e = .returned (.string (fmtS 10 n)) ∧ Below w.heap.size w w' := by
  have HT := Lib.hid ht
  clear ht
  go_enter Tryz.func75, Tryz.ntmps75
  go_wp2_with (go_at_call 106; refine (format_any _ _ _ (.inl rfl) h0 h1 HT.out).mono ?_; rintro e w' ⟨rfl, hb⟩)
  go_ret
  exact ⟨rfl, hb⟩
theorem tabs_below {w w' : World} (h : Tabs w) (hb : Below w.heap.size w w') : Tabs w' := by
  obtain ⟨h1, h2, h3⟩ := h
  refine ⟨?_, below_cell hb h2, Nat.lt_of_lt_of_le h3 hb.size⟩
  have hg : Tryz.prog.globalNamed "internal/strconv.uint64pow10" = some 2 := by kernel_rfl
  unfold Lib.TabIs World.var? at *
  rw [hg] at h1 ⊢
  simp only [Option.bind_some] at h1 ⊢
  rw [hb.block _ h3]; exact h1
end Go.Proofs.YteoadfckcilalaaGreatDoor
namespace Go.Proofs.YteoadfckcilalaaGreatDoor
open Go.RowKit

theorem versionS_dec {z : Int} (h0 : 0 ≤ z) (h1 : z ≤ 1) : ⟨#[32]⟩ ++ versionS z = http1 ++ fmtS 10 z ∧ versionS z = http0 ++ fmtS 10 z := by
  have : z = 0 ∨ z = 1 := by omega
  rcases this with rfl | rfl
  · decide +kernel
  · decide +kernel
theorem versionS_size {z : Int} (h0 : 0 ≤ z) (h1 : z ≤ 1) : (versionS z).size = 8 := by
  have : z = 0 ∨ z = 1 := by omega
  rcases this with rfl | rfl <;> rfl
theorem versionS_no {z : Int} (h : ¬ (0 ≤ z ∧ z ≤ 1)) : versionS z = ⟨#[]⟩ := by
  unfold versionS; rw [if_neg (by omega), if_neg (by omega)]
theorem isEmpty_no {s : ByteArray} (h : 0 < s.size) : s.toList.isEmpty = false := by
  rw [toList_isEmpty]
  cases hq : s.data with
  | mk l => cases l with
    | nil => have : s.size = 0 := by show s.data.size = 0; rw [hq]; rfl
             omega
    | cons _ _ => rfl
set_option maxRecDepth 100000 in
set_option maxHeartbeats 2000000 in
theorem projFormatReq_any (m t : ByteArray) (z : Int) (fa ba : Option Addr) (fn fc bn bc : Nat) (fr : Bool) (w : World) (hm : m.size ≤ 1000000000) (ht : t.size ≤ 1000000000) :
    Calls Tryz.prog 69 #[.agg #[.string m, .string t, .int .i64 z, .slice fa fn fc, .bool fr, .slice ba bn bc]] w fun e w' => e = .returned (.string (fmtReq m t z)) ∧ Below w.heap.size w w' := by
  have HB0 := Box.mk (below_oneF w (.cells #[.string m, .string t, .int .i64 z, .slice fa fn fc, .bool fr, .slice ba bn bc] 29))
  have HRow := Box.mk (show (w.alloc (.cells #[.string m, .string t, .int .i64 z, .slice fa fn fc, .bool fr, .slice ba bn bc] 29)).heap[w.heap.size]? = some (.cells #[.string m, .string t, .int .i64 z, .slice fa fn fc, .bool fr, .slice ba bn bc] 29 (0, 0)) from heap_alloc_new _ _)
  have hml : m.size ≤ maxLen := by unfold maxLen; omega
  by_cases h1 : tokS m = true
  · by_cases h2 : targetS t = true
    · by_cases h3 : 0 ≤ z ∧ z ≤ 1
      · have HR := Box.mk (show fmtReq m t z = m ++ ⟨#[32]⟩ ++ t ++ ⟨#[32]⟩ ++ versionS z by
          unfold fmtReq; rw [if_pos ⟨h1, h2, h3⟩]
          have h := (versionS_dec h3.1 h3.2).1
          rw [ByteArray.append_assoc, ← h, ← ByteArray.append_assoc])
        have hz8 := versionS_size h3.1 h3.2
        have hne := isEmpty_no (s := versionS z) (by omega)
        have H1 := Box.mk h1
        have H2 := Box.mk h2
        clear h1 h2 h3
        have s1 : (m ++ ⟨#[32]⟩).size = m.size + 1 := by rw [ByteArray.size_append]; rfl
        have s2 : (m ++ ⟨#[32]⟩ ++ t).size = m.size + 1 + t.size := by rw [ByteArray.size_append, s1]
        have s3 : (m ++ ⟨#[32]⟩ ++ t ++ ⟨#[32]⟩).size = m.size + 1 + t.size + 1 := by rw [ByteArray.size_append, s2]; rfl
        have a1 := fun W => run_string_add_sum (P := Tryz.prog) (w := W) m ⟨#[32]⟩ (by show m.size + 1 ≤ _; omega)
        have a2 := fun W => run_string_add_sum (P := Tryz.prog) (w := W) (m ++ ⟨#[32]⟩) t (by rw [s1]; omega)
        have a3 := fun W => run_string_add_sum (P := Tryz.prog) (w := W) (m ++ ⟨#[32]⟩ ++ t) ⟨#[32]⟩ (by rw [s2]; show _ + 1 ≤ _; omega)
        have a4 := fun W => run_string_add_sum (P := Tryz.prog) (w := W) (m ++ ⟨#[32]⟩ ++ t ++ ⟨#[32]⟩) (versionS z) (by rw [s3]; omega)
        clear s1 s2 s3 hz8
        generalize hv : versionS z = v at *
        have HV := Box.mk hv
        clear hv
        generalize m ++ ⟨#[32]⟩ = x1 at *
        generalize x1 ++ t = x2 at *
        generalize x2 ++ ⟨#[32]⟩ = x3 at *
        generalize x3 ++ v = x4 at *
        go_enter Tryz.func69, Tryz.ntmps69
        go_wp2_with fail
        refine (fmtVersion_any z _).mono ?_
        rintro e w1 ⟨he, rfl⟩
        rw [HV.out] at he
        subst he
        go_wp2_with fail
        refine (token_any m _ hml).mono ?_
        rintro e w1 ⟨he, rfl⟩
        rw [H1.out] at he
        subst he
        go_wp2_with fail
        refine (projTarget_any t _).mono ?_
        rintro e w2 ⟨he, hb2⟩
        rw [H2.out] at he
        subst he
        have HB2 := Box.mk (below_trans HB0.out hb2)
        have hc0 : w2.cell? ⟨w.heap.size, 0, none⟩ = some (.string m) := below_cell hb2 (by rw [cell_of_row _ _ _ _ _ _ HRow.out]; rfl)
        have hc1 : w2.cell? ⟨w.heap.size, 1, none⟩ = some (.string t) := below_cell hb2 (by rw [cell_of_row _ _ _ _ _ _ HRow.out]; rfl)
        clear hb2 HB0 HRow
        go_wp2_with fail
        go_ret
        exact ⟨ret_str HR.out.symm, HB2.out⟩
      · have HR := Box.mk (show fmtReq m t z = ⟨#[]⟩ by unfold fmtReq; rw [if_neg (fun h => h3 h.2.2)])
        have HV := Box.mk (versionS_no h3)
        have H1 := Box.mk h1
        have H2 := Box.mk h2
        clear h1 h2 h3
        go_enter Tryz.func69, Tryz.ntmps69
        go_wp2_with fail
        refine (fmtVersion_any z _).mono ?_
        rintro e w1 ⟨he, rfl⟩
        rw [HV.out] at he
        subst he
        go_wp2_with fail
        refine (token_any m _ hml).mono ?_
        rintro e w1 ⟨he, rfl⟩
        rw [H1.out] at he
        subst he
        go_wp2_with fail
        refine (projTarget_any t _).mono ?_
        rintro e w2 ⟨he, hb2⟩
        rw [H2.out] at he
        subst he
        have HB2 := Box.mk (below_trans HB0.out hb2)
        clear hb2 HB0 HRow
        go_wp2_with fail
        go_ret
        exact ⟨ret_str HR.out.symm, HB2.out⟩
    · have HR := Box.mk (show fmtReq m t z = ⟨#[]⟩ by unfold fmtReq; rw [if_neg (fun h => h2 h.2.1)])
      have H1 := Box.mk h1
      have H2 := Box.mk (show targetS t = false by simpa using h2)
      clear h1 h2
      go_enter Tryz.func69, Tryz.ntmps69
      go_wp2_with fail
      refine (fmtVersion_any z _).mono ?_
      rintro e w1 ⟨rfl, rfl⟩
      generalize versionS z = v at *
      go_wp2_with fail
      refine (token_any m _ hml).mono ?_
      rintro e w1 ⟨he, rfl⟩
      rw [H1.out] at he
      subst he
      go_wp2_with fail
      refine (projTarget_any t _).mono ?_
      rintro e w2 ⟨he, hb2⟩
      rw [H2.out] at he
      subst he
      have HB2 := Box.mk (below_trans HB0.out hb2)
      clear hb2 HB0 HRow
      go_wp2_with fail
      go_ret
      exact ⟨ret_str HR.out.symm, HB2.out⟩
  · have HR := Box.mk (show fmtReq m t z = ⟨#[]⟩ by unfold fmtReq; rw [if_neg (fun h => h1 h.1)])
    have H1 := Box.mk (show tokS m = false by simpa using h1)
    clear h1
    go_enter Tryz.func69, Tryz.ntmps69
    go_wp2_with fail
    refine (fmtVersion_any z _).mono ?_
    rintro e w1 ⟨rfl, rfl⟩
    generalize versionS z = v at *
    go_wp2_with fail
    refine (token_any m _ hml).mono ?_
    rintro e w1 ⟨he, rfl⟩
    rw [H1.out] at he
    subst he
    go_wp2_with fail
    go_ret
    exact ⟨ret_str HR.out.symm, HB0.out⟩
end Go.Proofs.YteoadfckcilalaaGreatDoor
namespace Go.Proofs.YteoadfckcilalaaGreatDoor
open Go.RowKit

def crlf2 : List UInt8 := [13, 10, 13, 10]
/-- The place behind the first CR, LF, CR, LF of l, which begins at i; -1: there is none. -/
def endGo : Nat → List UInt8 → Int
  | _, [] => -1
  | i, x :: r => if (x :: r).take 4 = crlf2 then ((i + 4 : Nat) : Int) else endGo (i + 1) r
def endZ (l : List UInt8) : Int := endGo 0 l
theorem endGo_range : ∀ (l : List UInt8) (i : Nat), endGo i l = -1 ∨ ∃ k : Nat, endGo i l = k ∧ i + 4 ≤ k ∧ k ≤ i + l.length
  | [], _ => .inl rfl
  | x :: r, i => by
    unfold endGo
    by_cases h : (x :: r).take 4 = crlf2
    · rw [if_pos h]
      have h2 := congrArg List.length h
      rw [List.length_take] at h2
      simp only [crlf2, List.length_cons, List.length_nil] at h2
      exact .inr ⟨i + 4, rfl, Nat.le_refl _, by rw [List.length_cons]; omega⟩
    · rw [if_neg h]
      rcases endGo_range r (i + 1) with h | ⟨k, h1, h2, h3⟩
      · exact .inl h
      · exact .inr ⟨k, h1, by omega, by rw [List.length_cons]; omega⟩
/-- What End returns. -/
def endS (b : List UInt8) (most : Int) : Int × Int :=
  if 0 ≤ endZ b ∧ endZ b ≤ most then (endZ b, 0) else if most ≤ b.length then (0, 3) else (0, 4)
/-- The lines of l behind the bytes cur of a line; none where CR or LF stand alone. -/
def linesGo : List UInt8 → List UInt8 → Option (List ByteArray)
  | _, [] => some []
  | cur, x :: r =>
    if (x = 13 ∧ ¬ r.head? = some 10) ∨ (x = 10 ∧ ¬ cur.getLast? = some 13) then none
    else if x = 10 then (linesGo [] r).map (⟨cur.dropLast.toArray⟩ :: ·) else linesGo (cur ++ [x]) r
def linesS (b : List UInt8) : Option (List ByteArray) := if endZ b = b.length ∧ 4 ≤ b.length then (linesGo [] b).map List.dropLast else none
/-- The fields of lines; 3: too many, 2: a line is none of a field. -/
def fieldsGo : List ByteArray → Option (List Fld)
  | [] => some []
  | s :: r => match parseF s with
    | some f => (fieldsGo r).map (f :: ·)
    | none => none
def fieldsS (l : List ByteArray) : Int × List Fld := if 64 < l.length then (3, []) else match fieldsGo l with | some x => (0, x) | none => (2, [])
theorem fieldsGo_snoc : ∀ (l : List ByteArray) (s : ByteArray) (x : List Fld), fieldsGo l = some x → fieldsGo (l ++ [s]) = (parseF s).map fun f => x ++ [f]
  | [], s, x, h => by
    cases h
    show (match parseF s with | some f => (fieldsGo []).map (f :: ·) | none => none) = _
    cases parseF s <;> rfl
  | t :: l, s, x, h => by
    rw [List.cons_append]
    unfold fieldsGo at h ⊢
    cases ht : parseF t with
    | none => rw [ht] at h; cases h
    | some f =>
      rw [ht] at h
      simp only at h ⊢
      cases hx : fieldsGo l with
      | none => rw [hx] at h; cases h
      | some y =>
        rw [hx] at h
        simp only [Option.map_some, Option.some.injEq] at h
        subst h
        rw [fieldsGo_snoc l s y hx]
        cases parseF s <;> rfl
theorem fieldsGo_none : ∀ (l r : List ByteArray), fieldsGo l = none → fieldsGo (l ++ r) = none
  | [], _, h => by cases h
  | t :: l, r, h => by
    rw [List.cons_append]
    unfold fieldsGo at h ⊢
    cases ht : parseF t with
    | none => rfl
    | some f =>
      rw [ht] at h
      simp only at h ⊢
      cases hx : fieldsGo l with
      | none => rw [fieldsGo_none l r hx]; rfl
      | some y => rw [hx] at h; cases h
end Go.Proofs.YteoadfckcilalaaGreatDoor
namespace Go.Proofs.YteoadfckcilalaaGreatDoor
open Go.RowKit

theorem isBytes_cap {w : World} {a : Option Addr} {l : List UInt8} {c : Nat} (h : IsBytes w a l c) : l.length ≤ c := by
  rcases h with ⟨_, e, e2⟩ | ⟨_, _, h1, _, _⟩
  · subst e; simp
  · exact h1
end Go.Proofs.YteoadfckcilalaaGreatDoor
namespace Go.Proofs.YteoadfckcilalaaGreatDoor
open Go.RowKit

theorem lines_nil (cur : List UInt8) : linesGo cur [] = some [] := by unfold linesGo; rfl
theorem lines_bad {cur : List UInt8} {x : UInt8} {r : List UInt8} (h : (x = 13 ∧ ¬ r.head? = some 10) ∨ (x = 10 ∧ ¬ cur.getLast? = some 13)) : linesGo cur (x :: r) = none := by
  unfold linesGo; rw [if_pos h]
theorem lines_end {cur : List UInt8} {r : List UInt8} (h : cur.getLast? = some 13) : linesGo cur (10 :: r) = (linesGo [] r).map (⟨cur.dropLast.toArray⟩ :: ·) := by
  conv => lhs; unfold linesGo
  rw [if_neg (by rintro (h2 | h2); · exact absurd h2.1 (by decide)
                 · exact h2.2 h), if_pos rfl]
theorem lines_more {cur : List UInt8} {x : UInt8} {r : List UInt8} (hx : ¬ x = 10) (h : x = 13 → r.head? = some 10) : linesGo cur (x :: r) = linesGo (cur ++ [x]) r := by
  conv => lhs; unfold linesGo
  rw [if_neg (by rintro (h2 | h2); · exact h2.2 (h h2.1)
                 · exact hx h2.1), if_neg hx]
theorem lines_count : ∀ (l cur : List UInt8) (L : List ByteArray), linesGo cur l = some L → L.length = l.count 10
  | [], _, L, h => by
    unfold linesGo at h
    cases h; rfl
  | x :: r, cur, L, h => by
    by_cases hb : (x = 13 ∧ ¬ r.head? = some 10) ∨ (x = 10 ∧ ¬ cur.getLast? = some 13)
    · rw [lines_bad hb] at h; cases h
    · by_cases hx : x = 10
      · subst hx
        have hl : cur.getLast? = some 13 := Decidable.byContradiction fun e => hb (.inr ⟨rfl, e⟩)
        rw [lines_end hl] at h
        cases hq : linesGo [] r with
        | none => rw [hq] at h; cases h
        | some L2 =>
          rw [hq] at h
          simp only [Option.map_some, Option.some.injEq] at h
          subst h
          rw [List.length_cons, lines_count r [] L2 hq, List.count_cons_self]
      · rw [lines_more hx (fun e => Decidable.byContradiction fun e2 => hb (.inl ⟨e, e2⟩))] at h
        rw [lines_count r _ L h, List.count_cons_of_ne (by simpa using hx)]
theorem end_suffix : ∀ (l : List UInt8) (i : Nat), endGo i l = ((i + l.length : Nat) : Int) → 4 ≤ l.length ∧ l.drop (l.length - 4) = crlf2
  | [], i, h => by
    unfold endGo at h
    omega
  | x :: r, i, h => by
    unfold endGo at h
    by_cases hm : (x :: r).take 4 = crlf2
    · rw [if_pos hm] at h
      have hl : (x :: r).length = 4 := by omega
      refine ⟨by omega, ?_⟩
      rw [hl, Nat.sub_self, List.drop_zero, ← hm, List.take_of_length_le (by omega)]
    · rw [if_neg hm] at h
      obtain ⟨h1, h2⟩ := end_suffix r (i + 1) (by rw [h, List.length_cons]; omega)
      refine ⟨by rw [List.length_cons]; omega, ?_⟩
      rw [List.length_cons, show r.length + 1 - 4 = (r.length - 4) + 1 by omega, List.drop_succ_cons]
      exact h2
theorem StrsAt.dropLast {w : World} {a : Option Addr} {l : List ByteArray} (h : StrsAt w a l) : StrsAt w a l.dropLast := fun j hj => by
  rw [List.length_dropLast] at hj
  obtain ⟨b, off, e, hc⟩ := h j (by omega)
  exact ⟨b, off, e, by rw [List.getElem_dropLast]; exact hc⟩
end Go.Proofs.YteoadfckcilalaaGreatDoor
namespace Go.Proofs.YteoadfckcilalaaGreatDoor
open Go.RowKit

theorem take4_prefix (l : List UInt8) : (crlf2.isPrefixOf l = true) ↔ l.take 4 = crlf2 := by
  rw [List.isPrefixOf_iff_prefix, List.prefix_iff_eq_take]
  exact ⟨fun h => h.symm, fun h => h.symm⟩
theorem endGo_index : ∀ (l : List UInt8) (i : Nat), endGo i l = if Lib.index l crlf2 = -1 then -1 else Lib.index l crlf2 + 4 + i
  | [], i => by
    have e : Lib.index [] crlf2 = -1 := rfl
    rw [if_pos e]; rfl
  | x :: r, i => by
    have ih := endGo_index r (i + 1)
    have hge := Lib.index_ge r crlf2
    unfold endGo Lib.index
    by_cases h : (x :: r).take 4 = crlf2
    · rw [if_pos h, if_pos ((take4_prefix _).2 h), if_neg (by decide)]
      omega
    · rw [if_neg h, if_neg (fun e => h ((take4_prefix _).1 e)), ih]
      by_cases h1 : Lib.index r crlf2 = -1
      · rw [if_pos h1, if_pos (beq_iff_eq.2 h1), if_pos rfl]
      · rw [if_neg h1, if_neg (fun e => h1 (beq_iff_eq.1 e)), if_neg (by omega)]
        omega
theorem endGo_take : ∀ (l : List UInt8) (q i : Nat), endGo i (l.take q) = if endGo i l ≤ ((i + q : Nat) : Int) then endGo i l else -1
  | [], q, i => by
    rw [List.take_nil]
    have e : endGo i [] = -1 := rfl
    rw [e, if_pos (by omega)]
  | x :: r, 0, i => by
    rw [List.take_zero]
    have e : endGo i [] = -1 := rfl
    rw [e]
    split
    · rename_i h
      rcases endGo_range (x :: r) i with h2 | ⟨k, h1, h2, _⟩
      · exact h2.symm
      · rw [h1] at h; omega
    · rfl
  | x :: r, q + 1, i => by
    have ih := endGo_take r q (i + 1)
    rw [List.take_succ_cons]
    conv => lhs; unfold endGo
    conv => rhs; unfold endGo
    have e1 : (x :: r.take q).take 4 = ((x :: r).take 4).take (q + 1) := by
      rw [List.take_take, ← List.take_succ_cons, List.take_take, Nat.min_comm]
    by_cases h : (x :: r).take 4 = crlf2
    · rw [if_pos h]
      by_cases hq : 4 ≤ q + 1
      · rw [if_pos (by rw [e1, h, List.take_of_length_le (by simp [crlf2]; omega)]), if_pos (by omega)]
      · rw [if_neg (fun e => by
          rw [e1, h] at e
          have := congrArg List.length e
          rw [List.length_take] at this
          simp [crlf2] at this
          omega), ih]
        rw [if_neg (show ¬ (((i + 4 : Nat) : Int) ≤ ((i + (q + 1) : Nat) : Int)) by omega)]
        split
        · rename_i h3
          rcases endGo_range r (i + 1) with h2 | ⟨k, h1, h2, _⟩
          · exact h2
          · rw [h1] at h3; omega
        · rfl
    · rw [if_neg h, ih]
      by_cases hn : (x :: r.take q).take 4 = crlf2
      · exfalso
        rw [e1] at hn
        have hl := congrArg List.length hn
        rw [List.length_take, List.length_take] at hl
        simp only [crlf2, List.length_cons, List.length_nil] at hl
        rw [List.take_of_length_le (by rw [List.length_take]; omega)] at hn
        exact h hn
      · rw [if_neg hn]
        rw [show i + 1 + q = i + (q + 1) by omega]
/-- Where the library finds the end of the first q bytes. -/
theorem index_endZ (b : List UInt8) (q : Nat) : Lib.index (b.take q) crlf2 = if 0 ≤ endZ b ∧ endZ b ≤ q then endZ b - 4 else -1 := by
  have h1 := endGo_index (b.take q) 0
  have h2 := endGo_take b q 0
  have hge := Lib.index_ge (b.take q) crlf2
  rw [h2] at h1
  unfold endZ
  rw [show ((0 + q : Nat) : Int) = (q : Int) by omega] at h1
  rcases endGo_range b 0 with h | ⟨k, hk, hk1, hk2⟩
  · rw [h] at h1 ⊢
    rw [if_pos (by omega)] at h1
    rw [if_neg (by omega)]
    split at h1
    · assumption
    · omega
  · rw [hk] at h1 ⊢
    by_cases hq : (k : Int) ≤ q
    · rw [if_pos hq] at h1
      rw [if_pos ⟨by omega, hq⟩]
      split at h1 <;> omega
    · rw [if_neg hq] at h1
      rw [if_neg (fun h => hq h.2)]
      split at h1
      · assumption
      · omega

/-- Line ends in l. -/
def prs : List UInt8 → Nat
  | 13 :: 10 :: r => 1 + prs r
  | _ :: r => prs r
  | [] => 0
def crlf1 : List UInt8 := [13, 10]
theorem crlf1_pre (l : List UInt8) : crlf1.isPrefixOf l = true ↔ ∃ r, l = 13 :: 10 :: r := by
  rw [List.isPrefixOf_iff_prefix]
  constructor
  · rintro ⟨t, h⟩; exact ⟨t, h.symm⟩
  · rintro ⟨r, rfl⟩; exact ⟨r, rfl⟩
theorem count_crlf_hit (r : List UInt8) : Lib.count (13 :: 10 :: r) crlf1 = 1 + Lib.count r crlf1 := by
  have h : Lib.index (13 :: 10 :: r) crlf1 = ((0 : Nat) : Int) := by
    unfold Lib.index
    rw [if_pos ((crlf1_pre _).2 ⟨r, rfl⟩)]; rfl
  rw [Lib.count_hit (by simp [crlf1]) h]
  rfl
theorem count_crlf_miss (x : UInt8) (r : List UInt8) (hn : ¬ ∃ t, x :: r = 13 :: 10 :: t) : Lib.count (x :: r) crlf1 = Lib.count r crlf1 := by
  have hix : Lib.index (x :: r) crlf1 = if Lib.index r crlf1 == -1 then -1 else Lib.index r crlf1 + 1 := by
    conv => lhs; unfold Lib.index
    rw [if_neg (fun e => hn ((crlf1_pre _).1 e))]
  by_cases hm : Lib.index r crlf1 = -1
  · rw [Lib.count_miss hm, Lib.count_miss (by rw [hix, if_pos (beq_iff_eq.2 hm)])]
  · have hge := Lib.index_ge r crlf1
    obtain ⟨j, hj⟩ : ∃ j : Nat, Lib.index r crlf1 = j := ⟨(Lib.index r crlf1).toNat, by omega⟩
    have hix' : Lib.index (x :: r) crlf1 = ((j + 1 : Nat) : Int) := by rw [hix, if_neg (fun e => hm (beq_iff_eq.1 e)), hj]; omega
    rw [Lib.count_hit (by simp [crlf1]) hj, Lib.count_hit (by simp [crlf1]) hix']
    rw [show j + 1 + crlf1.length = (j + crlf1.length) + 1 by omega, List.drop_succ_cons]
theorem prs_hit (r : List UInt8) : prs (13 :: 10 :: r) = 1 + prs r := rfl
theorem prs_miss (x : UInt8) (r : List UInt8) (hn : ¬ ∃ t, x :: r = 13 :: 10 :: t) : prs (x :: r) = prs r := by
  conv => lhs; unfold prs
  split
  · rename_i h; cases h; exact absurd ⟨_, rfl⟩ hn
  · rename_i h; cases h; rfl
  · rename_i h; cases h
theorem count_prs (n : Nat) : ∀ l : List UInt8, l.length ≤ n → Lib.count l crlf1 = prs l := by
  induction n with
  | zero => intro l h; obtain rfl := List.eq_nil_of_length_eq_zero (Nat.le_zero.1 h); rfl
  | succ n ih =>
    intro l h
    cases l with
    | nil => rfl
    | cons x r =>
      by_cases hp : ∃ t, x :: r = 13 :: 10 :: t
      · obtain ⟨t, e⟩ := hp
        rw [e, count_crlf_hit, prs_hit, ih t (by rw [e] at h; simp at h; omega)]
      · rw [count_crlf_miss x r hp, prs_miss x r hp, ih r (by simpa using h)]
theorem prs_le (n : Nat) : ∀ l : List UInt8, l.length ≤ n → prs l ≤ l.count 10 ∧ prs l ≤ l.count 13 := by
  induction n with
  | zero => intro l h; obtain rfl := List.eq_nil_of_length_eq_zero (Nat.le_zero.1 h); exact ⟨Nat.zero_le _, Nat.zero_le _⟩
  | succ n ih =>
    intro l h
    cases l with
    | nil => exact ⟨Nat.zero_le _, Nat.zero_le _⟩
    | cons x r =>
      by_cases hp : ∃ t, x :: r = 13 :: 10 :: t
      · obtain ⟨t, e⟩ := hp
        rw [e]
        obtain ⟨h1, h2⟩ := ih t (by rw [e] at h; simp at h; omega)
        rw [prs_hit]
        simp
        omega
      · obtain ⟨h1, h2⟩ := ih r (by simpa using h)
        rw [prs_miss x r hp, List.count_cons, List.count_cons]
        omega
/-- Lines are whole: as the project counts, as the reference reads. -/
theorem lines_whole : ∀ (l cur : List UInt8), (cur.getLast? = some 13 → l.head? = some 10) →
    ((linesGo cur l).isSome = true ↔ (l.count 13 + (if cur.getLast? = some 13 then 1 else 0) = prs (if cur.getLast? = some 13 then 13 :: l else l) ∧ l.count 10 = prs (if cur.getLast? = some 13 then 13 :: l else l)))
  | [], cur, hp => by
    have hn : ¬ cur.getLast? = some 13 := fun e => by have := hp e; cases this
    rw [lines_nil, if_neg hn, if_neg hn]
    simp [prs]
  | x :: r, cur, hp => by
    by_cases hc : cur.getLast? = some 13
    · have hx : x = 10 := by have := hp hc; simpa using this
      subst hx
      have ih := lines_whole r [] (by simp)
      rw [if_neg (by simp)] at ih
      rw [lines_end hc, if_pos hc, if_pos hc, prs_hit, Option.isSome_map, ih, List.count_cons, List.count_cons]
      rw [if_neg (by simp)]
      simp
      omega
    · rw [if_neg hc, if_neg hc]
      obtain ⟨hl1, hl2⟩ := prs_le r.length r (Nat.le_refl _)
      by_cases h10 : x = 10
      · subst h10
        rw [lines_bad (.inr ⟨rfl, hc⟩), prs_miss 10 r (fun ⟨t, e⟩ => by injection e with e1 _; exact absurd e1 (by decide)), List.count_cons, List.count_cons]
        simp
        omega
      · by_cases h13 : x = 13
        · subst h13
          by_cases hr : r.head? = some 10
          · rw [lines_more h10 (fun _ => hr)]
            have ih := lines_whole r (cur ++ [13]) (fun _ => hr)
            rw [if_pos (by simp), if_pos (by simp)] at ih
            rw [ih, List.count_cons, List.count_cons]
            simp
          · rw [lines_bad (.inl ⟨rfl, hr⟩), prs_miss 13 r (fun ⟨t, e⟩ => by injection e with _ e2; rw [e2] at hr; exact hr rfl), List.count_cons, List.count_cons]
            simp
            omega
        · rw [lines_more h10 (fun e => absurd e h13)]
          have hl : ¬ (cur ++ [x]).getLast? = some 13 := by simpa using h13
          have ih := lines_whole r (cur ++ [x]) (fun e => absurd e hl)
          rw [if_neg hl, if_neg hl] at ih
          rw [ih, prs_miss x r (fun ⟨t, e⟩ => by injection e with e1 _; exact h13 e1), List.count_cons, List.count_cons]
          simp [h10, h13]
theorem lines_counts (b : List UInt8) : (linesGo [] b).isSome = true ↔ (b.count 13 = Lib.count b crlf1 ∧ b.count 10 = Lib.count b crlf1) := by
  have h := lines_whole b [] (by simp)
  rw [if_neg (by simp), if_neg (by simp)] at h
  rw [h, count_prs b.length b (Nat.le_refl _)]
  simp

/-- The pieces of l at line ends, behind the bytes cur of the first. -/
def spl : List UInt8 → List UInt8 → List ByteArray
  | cur, [] => [⟨cur.toArray⟩]
  | cur, x :: r => if x = 10 ∧ cur.getLast? = some 13 then ⟨cur.dropLast.toArray⟩ :: spl [] r else spl (cur ++ [x]) r
theorem lines_spl : ∀ (t cur : List UInt8) (L : List ByteArray), linesGo cur (t ++ crlf2) = some L → L = spl cur t ++ [⟨#[]⟩]
  | [], cur, L, h => by
    have e : linesGo cur ([] ++ crlf2) = some [⟨cur.toArray⟩, ⟨#[]⟩] := by
      show linesGo cur [13, 10, 13, 10] = _
      rw [lines_more (by decide) (fun _ => rfl), lines_end (by simp), lines_more (by decide) (fun _ => rfl), lines_end (by simp), lines_nil]
      simp
    rw [e] at h
    cases h
    rfl
  | x :: r, cur, L, h => by
    rw [List.cons_append] at h
    unfold spl
    by_cases hb : (x = 13 ∧ ¬ (r ++ crlf2).head? = some 10) ∨ (x = 10 ∧ ¬ cur.getLast? = some 13)
    · rw [lines_bad hb] at h; cases h
    · by_cases h10 : x = 10
      · have hc : cur.getLast? = some 13 := Classical.byContradiction fun e => hb (.inr ⟨h10, e⟩)
        subst h10
        rw [if_pos ⟨rfl, hc⟩]
        rw [lines_end hc] at h
        cases hr : linesGo [] (r ++ crlf2) with
        | none => rw [hr] at h; cases h
        | some y =>
          rw [hr] at h
          cases h
          rw [lines_spl r [] y hr]
          rfl
      · rw [if_neg (fun e => h10 e.1)]
        rw [lines_more h10 (fun e => Classical.byContradiction fun e2 => hb (.inl ⟨e, e2⟩))] at h
        exact lines_spl r _ L h
def crlfH : ByteArray := ⟨#[13, 10]⟩
theorem occ_crlf {l : List UInt8} {j : Nat} : Lib.occAt l crlf1 j = true ↔ l[j]? = some 13 ∧ l[j + 1]? = some 10 := by
  unfold Lib.occAt
  rw [crlf1_pre]
  constructor
  · rintro ⟨r, h⟩
    have h0 : (l.drop j)[0]? = some 13 := by rw [h]; rfl
    have h1 : (l.drop j)[1]? = some 10 := by rw [h]; rfl
    rw [List.getElem?_drop] at h0 h1
    exact ⟨h0, h1⟩
  · rintro ⟨h0, h1⟩
    have e0 : (l.drop j)[0]? = some 13 := by rw [List.getElem?_drop]; exact h0
    have e1 : (l.drop j)[1]? = some 10 := by rw [List.getElem?_drop]; exact h1
    match hd : l.drop j, e0, e1 with
    | x :: y :: r, e0, e1 =>
      simp at e0 e1
      exact ⟨r, by rw [e0, e1]⟩
/-- No line end lies in cur. -/
def NoEnd (cur : List UInt8) : Prop := ∀ j, Lib.occAt cur crlf1 j = false
theorem NoEnd.nil : NoEnd [] := fun j => by
  rw [Bool.eq_false_iff]; intro h
  have := (occ_crlf.1 h).1
  simp at this
theorem NoEnd.snoc {cur : List UInt8} {x : UInt8} (h : NoEnd cur) (hx : ¬ (x = 10 ∧ cur.getLast? = some 13)) : NoEnd (cur ++ [x]) := fun j => by
  rw [Bool.eq_false_iff]; intro hj
  obtain ⟨h0, h1⟩ := occ_crlf.1 hj
  by_cases hl : j + 1 < cur.length
  · rw [List.getElem?_append_left (by omega)] at h0
    rw [List.getElem?_append_left hl] at h1
    have := h j
    rw [occ_crlf.2 ⟨h0, h1⟩] at this
    cases this
  · by_cases he : j + 1 = cur.length
    · apply hx
      rw [List.getElem?_append_right (by omega), he, Nat.sub_self] at h1
      refine ⟨by simpa using h1, ?_⟩
      rw [List.getElem?_append_left (by omega)] at h0
      rw [List.getLast?_eq_getElem?, ← he]
      exact h0
    · rw [List.getElem?_append_right (by omega)] at h1
      have hk : j + 1 - cur.length ≠ 0 := by omega
      obtain ⟨k, hk2⟩ := Nat.exists_eq_succ_of_ne_zero hk
      rw [hk2] at h1
      simp at h1
theorem indexB_list (s : List UInt8) : Lib.indexB ⟨s.toArray⟩ crlfH = Lib.index s crlf1 := rfl
theorem spl_split : ∀ (s cur : List UInt8) (k : Nat), NoEnd cur → Lib.countB ⟨(cur ++ s).toArray⟩ crlfH ≤ k → Lib.splitB crlfH 0 k ⟨(cur ++ s).toArray⟩ = spl cur s
  | [], cur, k, hn, _ => by
    rw [List.append_nil]
    rw [Lib.splitB_miss]
    · rfl
    · rw [indexB_list]
      exact Lib.index_none fun j _ => hn j
  | x :: r, cur, k, hn, hk => by
    unfold spl
    by_cases hx : x = 10 ∧ cur.getLast? = some 13
    · rw [if_pos hx]
      obtain ⟨rfl, hc⟩ := hx
      obtain ⟨c, rfl⟩ : ∃ c, cur = c ++ [13] := by
        obtain ⟨ys, h⟩ := List.getLast?_eq_some_iff.1 hc
        exact ⟨ys, h⟩
      rw [List.dropLast_concat]
      have hi : Lib.index (c ++ [13] ++ 10 :: r) crlf1 = (c.length : Int) := by
        refine Lib.index_first (by simp) ?_ ?_
        · rw [occ_crlf]
          constructor
          · simp
          · simp
        · intro j hj
          rw [Bool.eq_false_iff]; intro ho
          obtain ⟨h0, h1⟩ := occ_crlf.1 ho
          rw [List.getElem?_append_left (by simp; omega)] at h0 h1
          have := hn j
          rw [occ_crlf.2 ⟨h0, h1⟩] at this
          cases this
      have hib : Lib.indexB ⟨(c ++ [13] ++ 10 :: r).toArray⟩ crlfH = (c.length : Int) := hi
      have e2 : (⟨(c ++ [13] ++ 10 :: r).toArray⟩ : ByteArray).extract (c.length + crlfH.size) (⟨(c ++ [13] ++ 10 :: r).toArray⟩ : ByteArray).size = ⟨r.toArray⟩ := by
        apply ByteArray.ext
        apply Array.ext'
        rw [Lib.extract_to_end]
        show (c ++ [13] ++ 10 :: r).drop (c.length + 2) = r
        rw [show c ++ [13] ++ 10 :: r = (c ++ [13, 10]) ++ r by simp, List.drop_append_of_le_length (by simp)]
        rw [show c.length + 2 = (c ++ [13, 10]).length by simp, List.drop_length, List.nil_append]
      have hc2 := Lib.countB_hit _ crlfH c.length (by decide) hib
      rw [e2] at hc2
      obtain ⟨k', rfl⟩ : ∃ k', k = k' + 1 := ⟨k - 1, by omega⟩
      rw [Lib.splitB_hit crlfH 0 k' _ c.length hib, e2]
      have ih := spl_split r [] k' NoEnd.nil (by rw [List.nil_append]; omega)
      rw [List.nil_append] at ih
      rw [ih]
      congr 1
      apply ByteArray.ext
      apply Array.ext'
      rw [ByteArray.data_extract, Array.toList_extract]
      show List.extract (c ++ [13] ++ 10 :: r) 0 (c.length + 0) = c
      simp [List.extract]
    · rw [if_neg hx]
      have ih := spl_split r (cur ++ [x]) k (hn.snoc hx) (by rw [List.append_assoc]; exact hk)
      rw [List.append_assoc] at ih
      exact ih
end Go.Proofs.YteoadfckcilalaaGreatDoor
namespace Go.Proofs.YteoadfckcilalaaGreatDoor
open Go.RowKit

theorem fieldsGo_stop {l : List ByteArray} {k : Nat} {x : List Fld} {s : ByteArray} (hk : k < l.length) (hs : l[k] = s) (h : fieldsGo (l.take k) = some x) : fieldsGo (l.take (k + 1)) = (parseF s).map fun f => x ++ [f] := by
  rw [List.take_succ_eq_append_getElem hk, hs]
  exact fieldsGo_snoc _ _ _ h
theorem AccF.fresh {w0 w : World} {a : Option Addr} {n c : Nat} {l : List Fld} (h : AccF w0 w (.slice a n c) l) : ∀ y, a = some y → w0.heap.size ≤ y.block := fun y hy => by
  obtain ⟨⟨_, h2⟩, _⟩ := h
  rcases h2 with ⟨e, _⟩ | ⟨g, cap, cur, hv, hg, _⟩
  · injection e with e1 _ _
    rw [e1] at hy; cases hy
  · injection hv with e1 _ _
    rw [e1] at hy
    obtain rfl := Option.some.inj hy
    exact hg
theorem fieldsS_big {l : List ByteArray} (h : 64 < l.length) : fieldsS l = (3, []) := by unfold fieldsS; rw [if_pos h]
theorem fieldsS_some {l : List ByteArray} {x : List Fld} (h : ¬ 64 < l.length) (hx : fieldsGo l = some x) : fieldsS l = (0, x) := by unfold fieldsS; rw [if_neg h, hx]
theorem fieldsS_none {l : List ByteArray} (h : ¬ 64 < l.length) (hx : fieldsGo l = none) : fieldsS l = (2, []) := by unfold fieldsS; rw [if_neg h, hx]
end Go.Proofs.YteoadfckcilalaaGreatDoor
