/- SameReply and SameRequest of the reference, at equal messages; FormatRequest and FormatStatus of package startline. Heads of messages: where a head ends, its lines. The reference's End. The reference's lines. Heads by the library's search: index, count, pieces at line ends. Plain mathematics. The reference's fields of lines. A slice of bytes of the call's own, beside other memory: what an append leaves alone. The reference's ParseRequest. The reference's ParseReply. -/
import Derived.Test.YtcdianojchmgpaaGreatDoorPk1
import Derived.Test.YtcdianojchmgpaaGreatDoorPk2
import Derived.Test.YtcdianojchmgpaaGreatDoorPk3
import Derived.Test.YtcdianojchmgpaaGreatDoorPk4
import Derived.Test.YtcdianojchmgpaaGreatDoorRows
import Derived.WalkKit
import Derived.WalkSpells
import Derived.WalkLawsBesides
import Derived.BigQuiet
import Derived.Deep.QuietTactic
import Derived.Lib.Bytealg
import Derived.Lib.IndexLaws
import Derived.Lib.Hide
import Derived.Laws.IdiomStrings
import Derived.Lib.SlTrimSet
import Derived.Lib.IndexBytes
import Derived.Lib.Split
import Derived.Deep.AppendLies
import Derived.Shelf.Strings.SlTrimAscii
import Derived.Shelf.Strings.SplitShaped
import Derived.Shelf.LaysM
import Derived.Shelf.Strings.BuilderK
import Derived.Shelf.Strconv.Itoa4
import Derived.Shelf.Strings.Prefix
import Derived.Shelf.Bytes.SlIndexWhole
import Derived.Test.YtcdianojchmgpaaGreatDoorProg
import Derived.Lib.SplitLaws
import Derived.WalkSmall
import Derived.ProofKit
import Derived.OpenShut
import Derived.Lib.Strings
import Derived.SliceStrings
import Derived.Deep.Quiet
import Derived.Tactics
import Derived.KernelRfl
import Derived.Below
import Derived.Laws.Bits64
import Derived.Lib.SlBytesConst
import Derived.Maps.AppendAt
import Derived.Laws.AppendOwnNone
import Derived.Great.BuildSlice
import Derived.Laws.Rows
import Derived.Laws.BitsAllLaws
import Derived.Laws.Shifts
import Derived.Maps.OwnOps
import Derived.Maps.OwnSet
import Derived.Deep.SlicePairs
import Derived.Lib.AppendZerosOnto
import Derived.Lib.AppendStr
import Derived.Laws.CopyOwn
import Derived.OwnWalk
import Derived.Laws.Strings3
import Derived.Laws.Concat
import Derived.Lib.ItoaMem
import Derived.IntWalk
import Derived.Laws.RangeAny
import Derived.LoopTactic
import Derived.Sort.Grow
namespace Go.Proofs.YtcdianojchmgpaaGreatDoor
open Go.RowKit

theorem cellTwo0 (w : World) (cs ds : Array Value) (t s : TypeId) (j : Nat) : ((w.alloc (.cells cs t (0, 0))).alloc (.cells ds s (0, 0))).cell? ⟨w.heap.size, j, none⟩ = cs[j]? := by
  have h1 : (w.alloc (.cells cs t (0, 0))).heap[w.heap.size]? = some (.cells cs t (0, 0)) := heap_alloc_new _ _
  have h2 := (below_oneF (w.alloc (.cells cs t (0, 0))) (.cells ds s (0, 0))).block w.heap.size (by rw [World.size_alloc]; omega)
  exact cell_of_row _ _ _ _ _ _ (h2.trans h1)

set_option maxRecDepth 100000 in
set_option maxHeartbeats 2000000 in
theorem sameRep_any (st z : Int) (r : ByteArray) (x : List Fld) (l : List UInt8) (a b p q : Option Addr) (ca cb cp cq : Nat) (w : World) (h1 : FldsIn w a x) (h2 : FldsIn w b x) (h3 : IsBytes w p l cp) (h4 : IsBytes w q l cq) (hx : x.length ≤ 2000000) :
    Calls Tryz.prog 19 #[.agg #[.int .i64 st, .string r, .int .i64 z, .slice a x.length ca, .slice p l.length cp], .agg #[.int .i64 st, .string r, .int .i64 z, .slice b x.length cb, .slice q l.length cq]] w fun e w' => e = .returned (.bool true) ∧ Below w.heap.size w w' := by
  have HBW := Box.mk (below_twoF (below_oneF w (.cells #[.int .i64 st, .string r, .int .i64 z, .slice a x.length ca, .slice p l.length cp] 39)) (.cells #[.int .i64 st, .string r, .int .i64 z, .slice b x.length cb, .slice q l.length cq] 39))
  have hd4 := cellTwo0 w #[.int .i64 st, .string r, .int .i64 z, .slice a x.length ca, .slice p l.length cp] #[.int .i64 st, .string r, .int .i64 z, .slice b x.length cb, .slice q l.length cq] 39 39 4
  have he4 := new_cellF2 w (.cells #[.int .i64 st, .string r, .int .i64 z, .slice a x.length ca, .slice p l.length cp] 39) #[.int .i64 st, .string r, .int .i64 z, .slice b x.length cb, .slice q l.length cq] 39 4
  have HC := Box.mk (And.intro hd4 he4)
  have H := Box.mk (And.intro (h1.keep HBW.out) (And.intro (h2.keep HBW.out) (And.intro (h3.keep HBW.out) (h4.keep HBW.out))))
  clear h1 h2 h3 h4 hd4 he4
  go_enter Tryz.func19, Tryz.ntmps19
  go_wp2_with fail
  refine (same_true x a b ca cb _ H.out.1 H.out.2.1 hx).mono ?_
  rintro e w1 ⟨rfl, hb1⟩
  have hc4 := below_cell hb1 (show _ = some (Value.slice p l.length cp) from HC.out.1)
  have he4 := below_cell hb1 (show _ = some (Value.slice q l.length cq) from HC.out.2)
  have hcv1 := conv_bytes (H.out.2.2.1.keep hb1)
  have hcv2 := conv_bytes (H.out.2.2.2.keep hb1)
  have HB := Box.mk (below_trans HBW.out hb1)
  clear hb1 H HC HBW
  generalize (⟨l.toArray⟩ : ByteArray) = bs at *
  have hself : (bs.toList == bs.toList) = true := by simp
  go_wp2_with fail
  go_ret
  exact ⟨rfl, HB.out⟩

set_option maxRecDepth 100000 in
set_option maxHeartbeats 2000000 in
theorem sameReq_any (m t : ByteArray) (z : Int) (fr : Bool) (x : List Fld) (l : List UInt8) (a b p q : Option Addr) (ca cb cp cq : Nat) (w : World) (h1 : FldsIn w a x) (h2 : FldsIn w b x) (h3 : IsBytes w p l cp) (h4 : IsBytes w q l cq) (hx : x.length ≤ 2000000) :
    Calls Tryz.prog 18 #[.agg #[.string m, .string t, .int .i64 z, .slice a x.length ca, .bool fr, .slice p l.length cp], .agg #[.string m, .string t, .int .i64 z, .slice b x.length cb, .bool fr, .slice q l.length cq]] w fun e w' => e = .returned (.bool true) ∧ Below w.heap.size w w' := by
  have HBW := Box.mk (below_twoF (below_oneF w (.cells #[.string m, .string t, .int .i64 z, .slice a x.length ca, .bool fr, .slice p l.length cp] 35)) (.cells #[.string m, .string t, .int .i64 z, .slice b x.length cb, .bool fr, .slice q l.length cq] 35))
  have hd5 := cellTwo0 w #[.string m, .string t, .int .i64 z, .slice a x.length ca, .bool fr, .slice p l.length cp] #[.string m, .string t, .int .i64 z, .slice b x.length cb, .bool fr, .slice q l.length cq] 35 35 5
  have he5 := new_cellF2 w (.cells #[.string m, .string t, .int .i64 z, .slice a x.length ca, .bool fr, .slice p l.length cp] 35) #[.string m, .string t, .int .i64 z, .slice b x.length cb, .bool fr, .slice q l.length cq] 35 5
  have HC := Box.mk (And.intro hd5 he5)
  have H := Box.mk (And.intro (h1.keep HBW.out) (And.intro (h2.keep HBW.out) (And.intro (h3.keep HBW.out) (h4.keep HBW.out))))
  clear h1 h2 h3 h4 hd5 he5
  have hfr : (fr == fr) = true := by simp
  go_enter Tryz.func18, Tryz.ntmps18
  go_wp2_with fail
  refine (same_true x a b ca cb _ H.out.1 H.out.2.1 hx).mono ?_
  rintro e w1 ⟨rfl, hb1⟩
  have hc5 := below_cell hb1 (show _ = some (Value.slice p l.length cp) from HC.out.1)
  have he5 := below_cell hb1 (show _ = some (Value.slice q l.length cq) from HC.out.2)
  have hcv1 := conv_bytes (H.out.2.2.1.keep hb1)
  have hcv2 := conv_bytes (H.out.2.2.2.keep hb1)
  have HB := Box.mk (below_trans HBW.out hb1)
  clear hb1 H HC HBW
  generalize (⟨l.toArray⟩ : ByteArray) = bs at *
  have hself : (bs.toList == bs.toList) = true := by simp
  go_wp2_with fail
  go_ret
  exact ⟨rfl, HB.out⟩

theorem versionS_dec {z : Int} (h0 : 0 ≤ z) (h1 : z ≤ 1) : ⟨#[32]⟩ ++ versionS z = http1 ++ fmtS 10 z ∧ versionS z = http0 ++ fmtS 10 z := by
  have : z = 0 ∨ z = 1 := by omega
  rcases this with rfl | rfl
  · decide +kernel
  · decide +kernel
theorem versionS_size {z : Int} (h0 : 0 ≤ z) (h1 : z ≤ 1) : (versionS z).size = 8 := by
  have : z = 0 ∨ z = 1 := by omega
  rcases this with rfl | rfl <;> rfl
theorem versionS_no {z : Int} (h : ¬ (0 ≤ z ∧ z ≤ 1)) : versionS z = ⟨#[]⟩ := by
  unfold versionS; rw [if_neg (by omega), if_neg (by omega)]
theorem isEmpty_no {s : ByteArray} (h : 0 < s.size) : s.toList.isEmpty = false := by
  rw [toList_isEmpty]
  cases hq : s.data with
  | mk l => cases l with
    | nil => have : s.size = 0 := by show s.data.size = 0; rw [hq]; rfl
             omega
    | cons _ _ => rfl
set_option maxRecDepth 100000 in
set_option maxHeartbeats 2000000 in
theorem projFormatReq_any (m t : ByteArray) (z : Int) (fa ba : Option Addr) (fn fc bn bc : Nat) (fr : Bool) (w : World) (hm : m.size ≤ 1000000000) (ht : t.size ≤ 1000000000) :
    Calls Tryz.prog 43 #[.agg #[.string m, .string t, .int .i64 z, .slice fa fn fc, .bool fr, .slice ba bn bc]] w fun e w' => e = .returned (.string (fmtReq m t z)) ∧ Below w.heap.size w w' := by
  have HB0 := Box.mk (below_oneF w (.cells #[.string m, .string t, .int .i64 z, .slice fa fn fc, .bool fr, .slice ba bn bc] 35))
  have HRow := Box.mk (show (w.alloc (.cells #[.string m, .string t, .int .i64 z, .slice fa fn fc, .bool fr, .slice ba bn bc] 35)).heap[w.heap.size]? = some (.cells #[.string m, .string t, .int .i64 z, .slice fa fn fc, .bool fr, .slice ba bn bc] 35 (0, 0)) from heap_alloc_new _ _)
  have hml : m.size ≤ maxLen := by unfold maxLen; omega
  by_cases h1 : tokS m = true
  · by_cases h2 : targetS t = true
    · by_cases h3 : 0 ≤ z ∧ z ≤ 1
      · have HR := Box.mk (show fmtReq m t z = m ++ ⟨#[32]⟩ ++ t ++ ⟨#[32]⟩ ++ versionS z by
          unfold fmtReq; rw [if_pos ⟨h1, h2, h3⟩]
          have h := (versionS_dec h3.1 h3.2).1
          rw [ByteArray.append_assoc, ← h, ← ByteArray.append_assoc])
        have hz8 := versionS_size h3.1 h3.2
        have hne := isEmpty_no (s := versionS z) (by omega)
        have H1 := Box.mk h1
        have H2 := Box.mk h2
        clear h1 h2 h3
        have s1 : (m ++ ⟨#[32]⟩).size = m.size + 1 := by rw [ByteArray.size_append]; rfl
        have s2 : (m ++ ⟨#[32]⟩ ++ t).size = m.size + 1 + t.size := by rw [ByteArray.size_append, s1]
        have s3 : (m ++ ⟨#[32]⟩ ++ t ++ ⟨#[32]⟩).size = m.size + 1 + t.size + 1 := by rw [ByteArray.size_append, s2]; rfl
        have a1 := fun W => run_string_add_sum (P := Tryz.prog) (w := W) m ⟨#[32]⟩ (by show m.size + 1 ≤ _; omega)
        have a2 := fun W => run_string_add_sum (P := Tryz.prog) (w := W) (m ++ ⟨#[32]⟩) t (by rw [s1]; omega)
        have a3 := fun W => run_string_add_sum (P := Tryz.prog) (w := W) (m ++ ⟨#[32]⟩ ++ t) ⟨#[32]⟩ (by rw [s2]; show _ + 1 ≤ _; omega)
        have a4 := fun W => run_string_add_sum (P := Tryz.prog) (w := W) (m ++ ⟨#[32]⟩ ++ t ++ ⟨#[32]⟩) (versionS z) (by rw [s3]; omega)
        clear s1 s2 s3 hz8
        generalize hv : versionS z = v at *
        have HV := Box.mk hv
        clear hv
        generalize m ++ ⟨#[32]⟩ = x1 at *
        generalize x1 ++ t = x2 at *
        generalize x2 ++ ⟨#[32]⟩ = x3 at *
        generalize x3 ++ v = x4 at *
        go_enter Tryz.func43, Tryz.ntmps43
        go_wp2_with fail
        refine (fmtVersion_any z _).mono ?_
        rintro e w1 ⟨he, rfl⟩
        rw [HV.out] at he
        subst he
        go_wp2_with fail
        refine (token_any m _ hml).mono ?_
        rintro e w1 ⟨he, rfl⟩
        rw [H1.out] at he
        subst he
        go_wp2_with fail
        refine (projTarget_any t _).mono ?_
        rintro e w2 ⟨he, hb2⟩
        rw [H2.out] at he
        subst he
        have HB2 := Box.mk (below_trans HB0.out hb2)
        have hc0 : w2.cell? ⟨w.heap.size, 0, none⟩ = some (.string m) := below_cell hb2 (by rw [cell_of_row _ _ _ _ _ _ HRow.out]; rfl)
        have hc1 : w2.cell? ⟨w.heap.size, 1, none⟩ = some (.string t) := below_cell hb2 (by rw [cell_of_row _ _ _ _ _ _ HRow.out]; rfl)
        clear hb2 HB0 HRow
        go_wp2_with fail
        go_ret
        exact ⟨ret_str HR.out.symm, HB2.out⟩
      · have HR := Box.mk (show fmtReq m t z = ⟨#[]⟩ by unfold fmtReq; rw [if_neg (fun h => h3 h.2.2)])
        have HV := Box.mk (versionS_no h3)
        have H1 := Box.mk h1
        have H2 := Box.mk h2
        clear h1 h2 h3
        go_enter Tryz.func43, Tryz.ntmps43
        go_wp2_with fail
        refine (fmtVersion_any z _).mono ?_
        rintro e w1 ⟨he, rfl⟩
        rw [HV.out] at he
        subst he
        go_wp2_with fail
        refine (token_any m _ hml).mono ?_
        rintro e w1 ⟨he, rfl⟩
        rw [H1.out] at he
        subst he
        go_wp2_with fail
        refine (projTarget_any t _).mono ?_
        rintro e w2 ⟨he, hb2⟩
        rw [H2.out] at he
        subst he
        have HB2 := Box.mk (below_trans HB0.out hb2)
        clear hb2 HB0 HRow
        go_wp2_with fail
        go_ret
        exact ⟨ret_str HR.out.symm, HB2.out⟩
    · have HR := Box.mk (show fmtReq m t z = ⟨#[]⟩ by unfold fmtReq; rw [if_neg (fun h => h2 h.2.1)])
      have H1 := Box.mk h1
      have H2 := Box.mk (show targetS t = false by simpa using h2)
      clear h1 h2
      go_enter Tryz.func43, Tryz.ntmps43
      go_wp2_with fail
      refine (fmtVersion_any z _).mono ?_
      rintro e w1 ⟨rfl, rfl⟩
      generalize versionS z = v at *
      go_wp2_with fail
      refine (token_any m _ hml).mono ?_
      rintro e w1 ⟨he, rfl⟩
      rw [H1.out] at he
      subst he
      go_wp2_with fail
      refine (projTarget_any t _).mono ?_
      rintro e w2 ⟨he, hb2⟩
      rw [H2.out] at he
      subst he
      have HB2 := Box.mk (below_trans HB0.out hb2)
      clear hb2 HB0 HRow
      go_wp2_with fail
      go_ret
      exact ⟨ret_str HR.out.symm, HB2.out⟩
  · have HR := Box.mk (show fmtReq m t z = ⟨#[]⟩ by unfold fmtReq; rw [if_neg (fun h => h1 h.1)])
    have H1 := Box.mk (show tokS m = false by simpa using h1)
    clear h1
    go_enter Tryz.func43, Tryz.ntmps43
    go_wp2_with fail
    refine (fmtVersion_any z _).mono ?_
    rintro e w1 ⟨rfl, rfl⟩
    generalize versionS z = v at *
    go_wp2_with fail
    refine (token_any m _ hml).mono ?_
    rintro e w1 ⟨he, rfl⟩
    rw [H1.out] at he
    subst he
    go_wp2_with fail
    go_ret
    exact ⟨ret_str HR.out.symm, HB0.out⟩
end Go.Proofs.YtcdianojchmgpaaGreatDoor
namespace Go.Proofs.YtcdianojchmgpaaGreatDoor
open Go.RowKit

def crlf2 : List UInt8 := [13, 10, 13, 10]
/-- The place behind the first CR, LF, CR, LF of l, which begins at i; -1: there is none. -/
def endGo : Nat → List UInt8 → Int
  | _, [] => -1
  | i, x :: r => if (x :: r).take 4 = crlf2 then ((i + 4 : Nat) : Int) else endGo (i + 1) r
def endZ (l : List UInt8) : Int := endGo 0 l
theorem endGo_short : ∀ (l : List UInt8) (i : Nat), l.length < 4 → endGo i l = -1
  | [], _, _ => rfl
  | x :: r, i, h => by
    unfold endGo
    rw [if_neg, endGo_short r (i + 1) (by simp at h; omega)]
    intro e
    have h2 := congrArg List.length e
    rw [List.length_take] at h2
    simp [crlf2] at h2 h
    omega
theorem endGo_range : ∀ (l : List UInt8) (i : Nat), endGo i l = -1 ∨ ∃ k : Nat, endGo i l = k ∧ i + 4 ≤ k ∧ k ≤ i + l.length
  | [], _ => .inl rfl
  | x :: r, i => by
    unfold endGo
    by_cases h : (x :: r).take 4 = crlf2
    · rw [if_pos h]
      have h2 := congrArg List.length h
      rw [List.length_take] at h2
      simp only [crlf2, List.length_cons, List.length_nil] at h2
      exact .inr ⟨i + 4, rfl, Nat.le_refl _, by rw [List.length_cons]; omega⟩
    · rw [if_neg h]
      rcases endGo_range r (i + 1) with h | ⟨k, h1, h2, h3⟩
      · exact .inl h
      · exact .inr ⟨k, h1, by omega, by rw [List.length_cons]; omega⟩
/-- What End returns. -/
def endS (b : List UInt8) (most : Int) : Int × Int :=
  if 0 ≤ endZ b ∧ endZ b ≤ most then (endZ b, 0) else if most ≤ b.length then (0, 3) else (0, 4)
/-- The lines of l behind the bytes cur of a line; none where CR or LF stand alone. -/
def linesGo : List UInt8 → List UInt8 → Option (List ByteArray)
  | _, [] => some []
  | cur, x :: r =>
    if (x = 13 ∧ ¬ r.head? = some 10) ∨ (x = 10 ∧ ¬ cur.getLast? = some 13) then none
    else if x = 10 then (linesGo [] r).map (⟨cur.dropLast.toArray⟩ :: ·) else linesGo (cur ++ [x]) r
def linesS (b : List UInt8) : Option (List ByteArray) := if endZ b = b.length ∧ 4 ≤ b.length then (linesGo [] b).map List.dropLast else none
/-- The fields of lines; 3: too many, 2: a line is none of a field. -/
def fieldsGo : List ByteArray → Option (List Fld)
  | [] => some []
  | s :: r => match parseF s with
    | some f => (fieldsGo r).map (f :: ·)
    | none => none
def fieldsS (l : List ByteArray) : Int × List Fld := if 64 < l.length then (3, []) else match fieldsGo l with | some x => (0, x) | none => (2, [])
theorem fieldsGo_snoc : ∀ (l : List ByteArray) (s : ByteArray) (x : List Fld), fieldsGo l = some x → fieldsGo (l ++ [s]) = (parseF s).map fun f => x ++ [f]
  | [], s, x, h => by
    cases h
    show (match parseF s with | some f => (fieldsGo []).map (f :: ·) | none => none) = _
    cases parseF s <;> rfl
  | t :: l, s, x, h => by
    rw [List.cons_append]
    unfold fieldsGo at h ⊢
    cases ht : parseF t with
    | none => rw [ht] at h; cases h
    | some f =>
      rw [ht] at h
      simp only at h ⊢
      cases hx : fieldsGo l with
      | none => rw [hx] at h; cases h
      | some y =>
        rw [hx] at h
        simp only [Option.map_some, Option.some.injEq] at h
        subst h
        rw [fieldsGo_snoc l s y hx]
        cases parseF s <;> rfl
theorem fieldsGo_none : ∀ (l r : List ByteArray), fieldsGo l = none → fieldsGo (l ++ r) = none
  | [], _, h => by cases h
  | t :: l, r, h => by
    rw [List.cons_append]
    unfold fieldsGo at h ⊢
    cases ht : parseF t with
    | none => rfl
    | some f =>
      rw [ht] at h
      simp only at h ⊢
      cases hx : fieldsGo l with
      | none => rw [fieldsGo_none l r hx]; rfl
      | some y => rw [hx] at h; cases h
end Go.Proofs.YtcdianojchmgpaaGreatDoor
namespace Go.Proofs.YtcdianojchmgpaaGreatDoor
open Go.RowKit

theorem endGo_at {b : List UInt8} {j : Nat} (h : j + 4 ≤ b.length) : endGo j (b.drop j) = if (b.drop j).take 4 = crlf2 then ((j + 4 : Nat) : Int) else endGo (j + 1) (b.drop (j + 1)) := by
  rw [List.drop_eq_getElem_cons (show j < b.length by omega)]
  rfl
theorem isBytes_cap {w : World} {a : Option Addr} {l : List UInt8} {c : Nat} (h : IsBytes w a l c) : l.length ≤ c := by
  rcases h with ⟨_, e, e2⟩ | ⟨_, _, h1, _, _⟩
  · subst e; simp
  · exact h1
theorem isBytes_sub {w : World} {ad : Addr} {l : List UInt8} {c k q : Nat} (h : IsBytes w (some ad) l c) (hq : k + q ≤ l.length) : IsBytes w (some (ad.add k)) ((l.drop k).take q) (c - k) := by
  rcases h with ⟨e, _⟩ | ⟨y, e, h1, h2, h3⟩
  · cases e
  · obtain rfl := Option.some.inj e
    refine .inr ⟨_, rfl, by rw [List.length_take, List.length_drop]; omega, by omega, fun j hj => ?_⟩
    rw [List.length_take, List.length_drop] at hj
    have h4 := h3 (k + j) (by omega)
    rw [List.getElem_take, List.getElem_drop, Addr.add_add]
    exact h4
theorem isBytes_atH {w : World} {a : Option Addr} {l : List UInt8} {c : Nat} (h : IsBytes w a l c) {k : Nat} (hk : k < l.length) : ∃ ad, a = some ad ∧ w.cell? (ad.add k) = some (.int .u8 (l[k].toNat : Int)) := by
  rcases h with ⟨_, e, _⟩ | ⟨x, e, _, _, hc⟩
  · subst e; simp at hk
  · exact ⟨x, e, hc k hk⟩
theorem cell_spelled {w : World} {x : Addr} {k : Nat} {v : Value} (h : w.cell? (x.add (k + 1)) = some v) : w.cell? ⟨x.block, x.off + (k + 1), none⟩ = some v := by
  rw [← h]; rfl
theorem isBytes_addr {w : World} {a : Option Addr} {l : List UInt8} {c : Nat} (h : IsBytes w a l c) (hl : 0 < l.length) : ∃ ad, a = some ad := by
  rcases h with ⟨_, e, _⟩ | ⟨x, e, _⟩
  · rw [e] at hl; exact absurd hl (Nat.lt_irrefl _)
  · exact ⟨x, e⟩
set_option maxRecDepth 100000 in
set_option maxHeartbeats 2000000 in
theorem refEndI_any (b : List UInt8) (a : Option Addr) (c : Nat) (w : World) (h : IsBytes w a b c) (hl : b.length ≤ 4000000000) :
    Calls Tryz.prog 29 #[.slice a b.length c] w fun e w' => e = .returned (.int .i64 (endZ b)) ∧ w = w' := by
  have HB := Box.mk h
  have hcap := isBytes_cap h
  have HE := Box.mk (show endZ b = endGo (4 - 4) (b.drop (4 - 4)) from rfl)
  clear h
  generalize endZ b = z at *
  go_enter Tryz.func29, Tryz.ntmps29
  go_wp2_with fail
  go_loop [3] (fun iv => ∃ i : Nat, 4 ≤ i ∧ i ≤ b.length + 4 ∧ iv = .int .i64 i ∧ Box (z = endGo (i - 4) (b.drop (i - 4)))) (fun iv => b.length + 5 - (intOf iv).toNat)
  case atStart => exact ⟨4, Nat.le_refl _, by omega, rfl, HE⟩
  case round =>
    clear HE
    obtain ⟨i, hi4, hib, rfl, HE⟩ := hrel
    by_cases hle : i ≤ b.length
    · obtain ⟨ad, rfl⟩ := isBytes_addr HB.out (by omega)
      obtain ⟨p, hp⟩ : ∃ p, p = (b.drop (i - 4)).take 4 := ⟨_, rfl⟩
      have hpl : p.length = i - (i - 4) := by rw [hp, List.length_take, List.length_drop]; omega
      have hpb := isBytes_sub (k := i - 4) (q := 4) HB.out (by omega)
      rw [← hp] at hpb
      have hcv := conv_bytes hpb
      rw [hpl] at hcv
      have HEQ := Box.mk (endGo_at (b := b) (j := i - 4) (by omega))
      rw [← hp] at HEQ
      obtain ⟨pb, hpb2⟩ : ∃ x : ByteArray, x = ⟨p.toArray⟩ := ⟨_, rfl⟩
      rw [← hpb2] at hcv
      have hl0 : (0 : Int) ≤ (i : Int) - 4 := by omega
      by_cases hm : p = crlf2
      · have hcm : pb.toList = [13, 10, 13, 10] := by rw [hpb2, ByteArray.toList_eq, hm]; rfl
        have HZ := Box.mk (show z = (i : Int) by rw [HE.out, HEQ.out, if_pos hm]; omega)
        clear hm hp hpl hpb hpb2 HEQ
        go_wp2_with fail
        go_ret
        exact ⟨ret_int HZ.out.symm, rfl⟩
      · have hcm : (pb.toList == [13, 10, 13, 10]) = false := by
          rw [beq_eq_false_iff_ne, hpb2, ByteArray.toList_eq]
          intro e
          exact hm (by simpa [crlf2] using e)
        have HZ := Box.mk (show z = endGo (i + 1 - 4) (b.drop (i + 1 - 4)) by rw [HE.out, HEQ.out, if_neg hm, show i + 1 - 4 = i - 4 + 1 by omega])
        clear hm hp hpl hpb hpb2 HEQ
        go_wp2_with fail
        go_round
        case rel => exact ⟨i + 1, by omega, by omega, by go_num, HZ⟩
        case measure => simp [intOf]; omega
    · have HZ := Box.mk (show z = -1 by rw [HE.out]; exact endGo_short _ _ (by rw [List.length_drop]; omega))
      go_wp2_with fail
      go_ret
      exact ⟨ret_int HZ.out.symm, rfl⟩
set_option maxRecDepth 100000 in
set_option maxHeartbeats 2000000 in
theorem refEnd_any (b : List UInt8) (a : Option Addr) (c : Nat) (most : Int) (w : World) (h : IsBytes w a b c) (hl : b.length ≤ 4000000000) :
    Calls Tryz.prog 12 #[.slice a b.length c, .int .i64 most] w fun e w' => e = .returned (.tuple #[.int .i64 (endS b most).1, .int .i64 (endS b most).2]) ∧ w = w' := by
  have HB := Box.mk h
  have HS := Box.mk (show endS b most = if 0 ≤ endZ b ∧ endZ b ≤ most then (endZ b, 0) else if most ≤ b.length then (0, 3) else (0, 4) from rfl)
  generalize hR : endS b most = R at *
  obtain ⟨n, er⟩ := R
  clear h hR
  have HC := Box.mk (refEndI_any b a c w HB.out hl)
  generalize endZ b = z at *
  go_enter Tryz.func12, Tryz.ntmps12
  go_wp2_with fail
  refine HC.out.mono ?_
  rintro e w1 ⟨rfl, rfl⟩
  by_cases h1 : 0 ≤ z ∧ z ≤ most
  · obtain ⟨rfl, rfl⟩ : n = z ∧ er = 0 := by
      have h := HS.out
      rw [if_pos h1] at h
      injection h with h2 h3
      exact ⟨h2, h3⟩
    have h2 := h1.1
    have h3 := h1.2
    clear h1
    go_wp2_with fail
    go_ret2
    exact ⟨rfl, rfl⟩
  · by_cases h4 : most ≤ b.length
    · obtain ⟨rfl, rfl⟩ : n = 0 ∧ er = 3 := by
        have h := HS.out
        rw [if_neg h1, if_pos h4] at h
        injection h with h2 h3
        exact ⟨h2, h3⟩
      by_cases h0 : 0 ≤ z
      · have h3 : ¬ z ≤ most := fun h => h1 ⟨h0, h⟩
        clear h1
        go_wp2_with fail
        go_ret2
        exact ⟨rfl, rfl⟩
      · clear h1
        go_wp2_with fail
        go_ret2
        exact ⟨rfl, rfl⟩
    · obtain ⟨rfl, rfl⟩ : n = 0 ∧ er = 4 := by
        have h := HS.out
        rw [if_neg h1, if_neg h4] at h
        injection h with h2 h3
        exact ⟨h2, h3⟩
      by_cases h0 : 0 ≤ z
      · have h3 : ¬ z ≤ most := fun h => h1 ⟨h0, h⟩
        clear h1
        go_wp2_with fail
        go_ret2
        exact ⟨rfl, rfl⟩
      · clear h1
        go_wp2_with fail
        go_ret2
        exact ⟨rfl, rfl⟩
end Go.Proofs.YtcdianojchmgpaaGreatDoor
namespace Go.Proofs.YtcdianojchmgpaaGreatDoor
open Go.RowKit

theorem lines_nil (cur : List UInt8) : linesGo cur [] = some [] := by unfold linesGo; rfl
theorem lines_bad {cur : List UInt8} {x : UInt8} {r : List UInt8} (h : (x = 13 ∧ ¬ r.head? = some 10) ∨ (x = 10 ∧ ¬ cur.getLast? = some 13)) : linesGo cur (x :: r) = none := by
  unfold linesGo; rw [if_pos h]
theorem lines_end {cur : List UInt8} {r : List UInt8} (h : cur.getLast? = some 13) : linesGo cur (10 :: r) = (linesGo [] r).map (⟨cur.dropLast.toArray⟩ :: ·) := by
  conv => lhs; unfold linesGo
  rw [if_neg (by rintro (h2 | h2); · exact absurd h2.1 (by decide)
                 · exact h2.2 h), if_pos rfl]
theorem lines_more {cur : List UInt8} {x : UInt8} {r : List UInt8} (hx : ¬ x = 10) (h : x = 13 → r.head? = some 10) : linesGo cur (x :: r) = linesGo (cur ++ [x]) r := by
  conv => lhs; unfold linesGo
  rw [if_neg (by rintro (h2 | h2); · exact h2.2 (h h2.1)
                 · exact hx h2.1), if_neg hx]
theorem lines_count : ∀ (l cur : List UInt8) (L : List ByteArray), linesGo cur l = some L → L.length = l.count 10
  | [], _, L, h => by
    unfold linesGo at h
    cases h; rfl
  | x :: r, cur, L, h => by
    by_cases hb : (x = 13 ∧ ¬ r.head? = some 10) ∨ (x = 10 ∧ ¬ cur.getLast? = some 13)
    · rw [lines_bad hb] at h; cases h
    · by_cases hx : x = 10
      · subst hx
        have hl : cur.getLast? = some 13 := Decidable.byContradiction fun e => hb (.inr ⟨rfl, e⟩)
        rw [lines_end hl] at h
        cases hq : linesGo [] r with
        | none => rw [hq] at h; cases h
        | some L2 =>
          rw [hq] at h
          simp only [Option.map_some, Option.some.injEq] at h
          subst h
          rw [List.length_cons, lines_count r [] L2 hq, List.count_cons_self]
      · rw [lines_more hx (fun e => Decidable.byContradiction fun e2 => hb (.inl ⟨e, e2⟩))] at h
        rw [lines_count r _ L h, List.count_cons_of_ne (by simpa using hx)]
theorem end_suffix : ∀ (l : List UInt8) (i : Nat), endGo i l = ((i + l.length : Nat) : Int) → 4 ≤ l.length ∧ l.drop (l.length - 4) = crlf2
  | [], i, h => by
    unfold endGo at h
    omega
  | x :: r, i, h => by
    unfold endGo at h
    by_cases hm : (x :: r).take 4 = crlf2
    · rw [if_pos hm] at h
      have hl : (x :: r).length = 4 := by omega
      refine ⟨by omega, ?_⟩
      rw [hl, Nat.sub_self, List.drop_zero, ← hm, List.take_of_length_le (by omega)]
    · rw [if_neg hm] at h
      obtain ⟨h1, h2⟩ := end_suffix r (i + 1) (by rw [h, List.length_cons]; omega)
      refine ⟨by rw [List.length_cons]; omega, ?_⟩
      rw [List.length_cons, show r.length + 1 - 4 = (r.length - 4) + 1 by omega, List.drop_succ_cons]
      exact h2
theorem lines_two {b : List UInt8} {L : List ByteArray} (he : endZ b = b.length) (h : linesGo [] b = some L) : 2 ≤ L.length := by
  obtain ⟨h1, h2⟩ := end_suffix b 0 (by rw [Nat.zero_add]; exact he)
  rw [lines_count b [] L h, ← List.take_append_drop (b.length - 4) b, h2, List.count_append]
  have : crlf2.count 10 = 2 := by decide
  omega
theorem cur_snoc {b : List UInt8} {f i : Nat} (hf : f ≤ i) (hi : i < b.length) : (b.drop f).take (i + 1 - f) = (b.drop f).take (i - f) ++ [b[i]] := by
  rw [show i + 1 - f = (i - f) + 1 by omega, List.take_succ_eq_append_getElem (by rw [List.length_drop]; omega)]
  simp only [List.getElem_drop]
  congr 3
  omega
theorem cur_last {b : List UInt8} {f i : Nat} (hf : f < i) (hi : i ≤ b.length) : ((b.drop f).take (i - f)).getLast? = some (b[i - 1]'(by omega)) ∧ ((b.drop f).take (i - f)).dropLast = (b.drop f).take (i - 1 - f) := by
  have h := cur_snoc (b := b) (f := f) (i := i - 1) (by omega) (by omega)
  rw [show i - 1 + 1 - f = i - f by omega] at h
  rw [h]
  exact ⟨by simp, by simp⟩
theorem Acc.fits {w0 w : World} {a : Option Addr} {n c : Nat} {l : List ByteArray} (h : Acc w0 w (.slice a n c) l) : l.length ≤ c ∧ n = l.length := by
  obtain ⟨⟨_, h2⟩, _⟩ := h
  rcases h2 with ⟨e, h3⟩ | ⟨g, cap, cur, hv, _, _, hn, _⟩
  · injection e with e1 e2 e3
    subst e2
    exact ⟨by omega, h3.symm⟩
  · injection hv with e1 e2 e3
    subst e2 e3
    exact ⟨hn, rfl⟩
theorem Acc.capm {w0 w : World} {a : Option Addr} {n c : Nat} {l : List ByteArray} (h : Acc w0 w (.slice a n c) l) : c ≤ maxLen := by
  obtain ⟨⟨_, h2⟩, _⟩ := h
  rcases h2 with ⟨e, h3⟩ | ⟨g, cap, cur, hv, _, _, _, hm, _⟩
  · injection e with e1 e2 e3
    subst e3
    exact Nat.zero_le _
  · injection hv with e1 e2 e3
    subst e3
    exact hm
/-- What lines returns. -/
def RetLines (w : World) (o : Option (List ByteArray)) (e : Ending) (w' : World) : Prop :=
  match o with
  | some L => ∃ g c, e = .returned (.tuple #[.slice (some ⟨g, 0, none⟩) L.length c, .int .i64 0]) ∧ L.length ≤ c ∧ c ≤ maxLen ∧ 0 < L.length ∧ StrsAt w' (some ⟨g, 0, none⟩) L ∧ Below w.heap.size w w'
  | none => e = .returned (.tuple #[.slice none 0 0, .int .i64 2]) ∧ Below w.heap.size w w'
theorem StrsAt.dropLast {w : World} {a : Option Addr} {l : List ByteArray} (h : StrsAt w a l) : StrsAt w a l.dropLast := fun j hj => by
  rw [List.length_dropLast] at hj
  obtain ⟨b, off, e, hc⟩ := h j (by omega)
  exact ⟨b, off, e, by rw [List.getElem_dropLast]; exact hc⟩
set_option maxRecDepth 100000 in
set_option maxHeartbeats 4000000 in
theorem refLines_any (b : List UInt8) (a : Option Addr) (c : Nat) (w : World) (h : IsBytes w a b c) (hl : b.length ≤ 4000000) :
    Calls Tryz.prog 33 #[.slice a b.length c] w (RetLines w (linesS b)) := by
  have HB := Box.mk h
  have hcap := isBytes_cap h
  have HSP := Box.mk (show linesS b = if endZ b = b.length ∧ 4 ≤ b.length then (linesGo [] b).map List.dropLast else none from rfl)
  generalize hR : linesS b = R at *
  clear hR
  by_cases h4 : 4 ≤ b.length
  · have hcall := refEndI_any b a c w h (by omega)
    have H2 := Box.mk (fun (he : endZ b = b.length) (L : List ByteArray) (hL : linesGo [] b = some L) => lines_two he hL)
    have HCALL := Box.mk hcall
    clear h hcall
    by_cases he : endZ b = b.length
    · have HE := Box.mk he
      have ee : (endZ b != (b.length : Int)) = false := by rw [he]; simp
      clear he
      generalize endZ b = z at *
      go_enter Tryz.func33, Tryz.ntmps33
      go_wp2_with fail
      refine HCALL.out.mono ?_
      rintro e w1 ⟨rfl, rfl⟩
      clear HCALL
      have HG := Box.mk (show R = (linesGo [] b).map List.dropLast by rw [HSP.out, if_pos ⟨HE.out, h4⟩])
      have HJ := Box.mk (show linesGo [] b = (linesGo ((b.drop 0).take (0 - 0)) (b.drop 0)).map ([] ++ ·) by simp)
      clear HSP
      go_wp2_with fail
      go_loopw [4, 5, 6] (fun v fv iv wr => ∃ f i : Nat, f ≤ i ∧ i ≤ b.length ∧ fv = .int .i64 f ∧ iv = .int .i64 i ∧ ∃ out : List ByteArray, Box (Acc w wr v out ∧ out.length ≤ i ∧ (∀ k, f = k + 1 → b[k]? = some 10) ∧ linesGo [] b = (linesGo ((b.drop f).take (i - f)) (b.drop i)).map (out ++ ·))) (fun _ _ iv _ => b.length - (intOf iv).toNat)
      case atStart => exact ⟨0, 0, Nat.le_refl _, Nat.zero_le _, rfl, rfl, [], ⟨Acc.start _, Nat.zero_le _, fun k hk => absurd hk (by omega), HJ.out⟩⟩
      case round =>
        clear HJ
        obtain ⟨f, i, hfi, hib, rfl, rfl, out, HM⟩ := hrel
        by_cases hlt : i < b.length
        · obtain ⟨bad, rfl, hbc⟩ := isBytes_atH (HB.out.keep HM.out.1.2) hlt
          have HDR := Box.mk (List.drop_eq_getElem_cons hlt)
          have HSN := Box.mk (cur_snoc hfi hlt)
          by_cases hx13 : b[i] = 13
          · have e13 : ((b[i].toNat : Int) == 13) = true := by rw [hx13]; rfl
            have e10 : ((b[i].toNat : Int) == 10) = false := by rw [hx13]; rfl
            by_cases hend : i + 1 = b.length
            · have eend : ((i : Int) + 1 == (b.length : Int)) = true := by rw [← hend]; simp
              have HP := Box.mk (show R = none by
                rw [HG.out, HM.out.2.2.2, HDR.out, lines_bad (.inl ⟨hx13, by rw [List.drop_of_length_le (by omega)]; simp⟩)]; rfl)
              generalize b[i] = x at *
              clear hx13 hend HG HDR HSN
              go_wp2_with fail
              go_ret2
              rw [HP.out]
              exact ⟨rfl, HM.out.1.2⟩
            · have eend : ((i : Int) + 1 == (b.length : Int)) = false := by rw [beq_eq_false_iff_ne]; omega
              have hlt1 : i + 1 < b.length := by omega
              obtain ⟨bad2, ebad, hbc2⟩ := isBytes_atH (HB.out.keep HM.out.1.2) hlt1
              obtain rfl := Option.some.inj ebad
              have hbc3 := cell_spelled hbc2
              have HHD := Box.mk (show (b.drop (i + 1)).head? = some b[i + 1] by rw [List.drop_eq_getElem_cons hlt1]; rfl)
              by_cases hy : b[i + 1] = 10
              · have ey : ((b[i + 1].toNat : Int) != 10) = false := by rw [hy]; rfl
                have HN := Box.mk (show linesGo [] b = (linesGo ((b.drop f).take (i + 1 - f)) (b.drop (i + 1))).map (out ++ ·) by
                  rw [HM.out.2.2.2, HDR.out, lines_more (by rw [hx13]; decide) (fun _ => by rw [HHD.out, hy]), ← HSN.out])
                generalize b[i + 1] = y at *
                generalize b[i] = x at *
                clear hx13 hend hy HDR HSN HHD
                go_wp2_with fail
                go_roundw
                case rel => exact ⟨f, i + 1, by omega, by omega, rfl, by go_num, out, ⟨HM.out.1, by have := HM.out.2.1; omega, HM.out.2.2.1, HN.out⟩⟩
                case measure => simp [intOf]; omega
              · have ey : ((b[i + 1].toNat : Int) != 10) = true := by
                  rw [bne_iff_ne]; intro e; exact hy (UInt8.toNat_inj.1 (by rw [show (10 : UInt8).toNat = 10 from rfl]; omega))
                have HP := Box.mk (show R = none by
                  rw [HG.out, HM.out.2.2.2, HDR.out, lines_bad (.inl ⟨hx13, by rw [HHD.out]; intro e; exact hy (Option.some.inj e)⟩)]; rfl)
                generalize b[i + 1] = y at *
                generalize b[i] = x at *
                clear hx13 hend hy HG HDR HSN HHD
                go_wp2_with fail
                go_ret2
                rw [HP.out]
                exact ⟨rfl, HM.out.1.2⟩
          · have e13 : ((b[i].toNat : Int) == 13) = false := by
              rw [beq_eq_false_iff_ne]; intro e; exact hx13 (UInt8.toNat_inj.1 (by rw [show (13 : UInt8).toNat = 13 from rfl]; omega))
            by_cases hx10 : b[i] = 10
            · have e10 : ((b[i].toNat : Int) == 10) = true := by rw [hx10]; rfl
              by_cases hi0 : i = 0
              · have ei : ((i : Int) == 0) = true := by rw [hi0]; rfl
                have HP := Box.mk (show R = none by
                  rw [HG.out, HM.out.2.2.2, HDR.out, lines_bad (.inr ⟨hx10, by rw [show i - f = 0 by omega]; simp⟩)]; rfl)
                generalize b[i] = x at *
                clear hx13 hx10 hi0 HG HDR HSN
                go_wp2_with fail
                go_ret2
                rw [HP.out]
                exact ⟨rfl, HM.out.1.2⟩
              · have ei : ((i : Int) == 0) = false := by rw [beq_eq_false_iff_ne]; omega
                have hlt1 : i - 1 < b.length := by omega
                obtain ⟨bad2, ebad, hbc2⟩ := isBytes_atH (HB.out.keep HM.out.1.2) hlt1
                obtain rfl := Option.some.inj ebad
                have hi1 : (1 : Int) ≤ i := by omega
                by_cases hz : b[i - 1] = 13
                · have ez : ((b[i - 1].toNat : Int) != 13) = false := by rw [hz]; rfl
                  have hfl : f < i := by
                    rcases Nat.lt_or_ge f i with h | h
                    · exact h
                    · exfalso
                      have hfe : f = (i - 1) + 1 := by omega
                      have h9 := HM.out.2.2.1 (i - 1) hfe
                      rw [List.getElem?_eq_getElem hlt1, hz] at h9
                      exact absurd (Option.some.inj h9) (by decide)
                  obtain ⟨hcl, hcd⟩ := cur_last hfl hib
                  have HCD := Box.mk hcd
                  have HN := Box.mk (show linesGo [] b = (linesGo [] (b.drop (i + 1))).map ((out ++ [⟨((b.drop f).take (i - 1 - f)).toArray⟩]) ++ ·) by
                    rw [HM.out.2.2.2, HDR.out, hx10, lines_end (by rw [hcl, hz]), hcd, Option.map_map]
                    congr 1
                    funext q
                    simp)
                  obtain ⟨q, hq⟩ : ∃ q, q = (b.drop f).take (i - 1 - f) := ⟨_, rfl⟩
                  have hql : q.length = i - 1 - f := by rw [hq, List.length_take, List.length_drop]; omega
                  have hqb := isBytes_sub (k := f) (q := i - 1 - f) (HB.out.keep HM.out.1.2) (by omega)
                  rw [← hq] at hqb HN
                  have hcv := conv_bytes hqb
                  rw [hql] at hcv
                  obtain ⟨y, hy⟩ : ∃ y : ByteArray, y = ⟨q.toArray⟩ := ⟨_, rfl⟩
                  rw [← hy] at hcv HN
                  have hfc : f < c := by omega
                  have H10 := Box.mk (show b[i]? = some 10 by rw [List.getElem?_eq_getElem hlt, hx10])
                  generalize b[i - 1] = z1 at *
                  generalize b[i] = x at *
                  have hol : out.length ≤ 4000000 := by have := HM.out.2.1; omega
                  clear hx13 hx10 hi0 hz HDR HSN hcl hcd hq hql hqb hy HCD
                  go_wp2_with (at_builtin; refine wpList_append_acc _ rfl _ _ rfl rfl (HM.out.1.keep ((Below.refl _ _).alloc (Nat.le_refl _) _)) rfl (y := y) ?c1 ?c2 ?c3)
                  case c2 => omega
                  case c3 =>
                    intro g cap w2 hacc has
                    have HACC := Box.mk hacc
                    clear hacc has
                    go_wp2_with fail
                    go_roundw
                    case rel => exact ⟨i + 1, i + 1, Nat.le_refl _, by omega, by go_num, by go_num, out ++ [y], ⟨HACC.out, by rw [List.length_append]; have := HM.out.2.1; show _ + 1 ≤ _; omega, fun k hk => (show i = k by omega) ▸ H10.out, by rw [Nat.sub_self, List.take_zero]; exact HN.out⟩⟩
                    case measure => simp [intOf]; omega
                · have ez : ((b[i - 1].toNat : Int) != 13) = true := by
                    rw [bne_iff_ne]; intro e; exact hz (UInt8.toNat_inj.1 (by rw [show (13 : UInt8).toNat = 13 from rfl]; omega))
                  have HP := Box.mk (show R = none by
                    rw [HG.out, HM.out.2.2.2, HDR.out, lines_bad (.inr ⟨hx10, fun e => by
                      rcases Nat.lt_or_ge f i with h | h
                      · rw [(cur_last h hib).1] at e
                        exact hz (Option.some.inj e)
                      · rw [show i - f = 0 by omega] at e
                        simp at e⟩)]; rfl)
                  generalize b[i - 1] = z1 at *
                  generalize b[i] = x at *
                  clear hx13 hx10 hi0 hz HG HDR HSN
                  go_wp2_with fail
                  go_ret2
                  rw [HP.out]
                  exact ⟨rfl, HM.out.1.2⟩
            · have e10 : ((b[i].toNat : Int) == 10) = false := by
                rw [beq_eq_false_iff_ne]; intro e; exact hx10 (UInt8.toNat_inj.1 (by rw [show (10 : UInt8).toNat = 10 from rfl]; omega))
              have HN := Box.mk (show linesGo [] b = (linesGo ((b.drop f).take (i + 1 - f)) (b.drop (i + 1))).map (out ++ ·) by
                rw [HM.out.2.2.2, HDR.out, lines_more hx10 (fun e => absurd e hx13), ← HSN.out])
              generalize b[i] = x at *
              clear hx13 hx10 HDR HSN
              go_wp2_with fail
              go_roundw
              case rel => exact ⟨f, i + 1, by omega, by omega, rfl, by go_num, out, ⟨HM.out.1, by have := HM.out.2.1; omega, HM.out.2.2.1, HN.out⟩⟩
              case measure => simp [intOf]; omega
        · obtain rfl : i = b.length := by omega
          have HL := Box.mk (show linesGo [] b = some out by
            rw [HM.out.2.2.2, List.drop_of_length_le (Nat.le_refl _), lines_nil]
            simp)
          have hol : out.length ≤ 4000000 := by have := HM.out.2.1; omega
          have HTW := Box.mk (H2.out HE.out out HL.out)
          have HP := Box.mk (show R = some out.dropLast by rw [HG.out, HL.out]; rfl)
          obtain ⟨g, cap, hv, _, _, hst⟩ := HM.out.1.isNew (by intro e; have := HTW.out; rw [e] at this; simp at this)
          subst hv
          have hfit := HM.out.1.fits.1
          have HFIT := Box.mk (And.intro hfit HM.out.1.capm)
          have HST := Box.mk hst
          have htw := HTW.out
          have HDL := Box.mk (show out.dropLast.length = out.length - 1 from List.length_dropLast)
          obtain ⟨o2, ho2⟩ : ∃ o2, o2 = out.dropLast := ⟨_, rfl⟩
          rw [← ho2] at HP HDL
          have HO2 := Box.mk ho2
          clear HG HL hst ho2
          go_wp2_with fail
          go_ret2
          rw [HP.out]
          exact ⟨g, cap, by rw [HDL.out]; rfl, by rw [HDL.out]; omega, HFIT.out.2, by rw [HDL.out]; omega, by rw [HO2.out]; exact HST.out.dropLast, HM.out.1.2⟩
    · have ee : (endZ b != (b.length : Int)) = true := by rw [bne_iff_ne]; exact he
      have HP := Box.mk (show R = none by rw [HSP.out, if_neg (fun h => he h.1)])
      clear he HSP H2
      generalize endZ b = z at *
      go_enter Tryz.func33, Tryz.ntmps33
      go_wp2_with fail
      refine HCALL.out.mono ?_
      rintro e w1 ⟨rfl, rfl⟩
      clear HCALL
      go_wp2_with fail
      go_ret2
      rw [HP.out]
      exact ⟨rfl, Below.refl _ _⟩
  · have HP := Box.mk (show R = none by rw [HSP.out, if_neg (fun h => h4 h.2)])
    clear h HSP
    go_enter Tryz.func33, Tryz.ntmps33
    go_wp2_with fail
    go_ret2
    rw [HP.out]
    exact ⟨rfl, Below.refl _ _⟩
end Go.Proofs.YtcdianojchmgpaaGreatDoor
namespace Go.Proofs.YtcdianojchmgpaaGreatDoor
open Go.RowKit

theorem take4_prefix (l : List UInt8) : (crlf2.isPrefixOf l = true) ↔ l.take 4 = crlf2 := by
  rw [List.isPrefixOf_iff_prefix, List.prefix_iff_eq_take]
  exact ⟨fun h => h.symm, fun h => h.symm⟩
theorem endGo_index : ∀ (l : List UInt8) (i : Nat), endGo i l = if Lib.index l crlf2 = -1 then -1 else Lib.index l crlf2 + 4 + i
  | [], i => by
    have e : Lib.index [] crlf2 = -1 := rfl
    rw [if_pos e]; rfl
  | x :: r, i => by
    have ih := endGo_index r (i + 1)
    have hge := Lib.index_ge r crlf2
    unfold endGo Lib.index
    by_cases h : (x :: r).take 4 = crlf2
    · rw [if_pos h, if_pos ((take4_prefix _).2 h), if_neg (by decide)]
      omega
    · rw [if_neg h, if_neg (fun e => h ((take4_prefix _).1 e)), ih]
      by_cases h1 : Lib.index r crlf2 = -1
      · rw [if_pos h1, if_pos (beq_iff_eq.2 h1), if_pos rfl]
      · rw [if_neg h1, if_neg (fun e => h1 (beq_iff_eq.1 e)), if_neg (by omega)]
        omega
theorem endGo_take : ∀ (l : List UInt8) (q i : Nat), endGo i (l.take q) = if endGo i l ≤ ((i + q : Nat) : Int) then endGo i l else -1
  | [], q, i => by
    rw [List.take_nil]
    have e : endGo i [] = -1 := rfl
    rw [e, if_pos (by omega)]
  | x :: r, 0, i => by
    rw [List.take_zero]
    have e : endGo i [] = -1 := rfl
    rw [e]
    split
    · rename_i h
      rcases endGo_range (x :: r) i with h2 | ⟨k, h1, h2, _⟩
      · exact h2.symm
      · rw [h1] at h; omega
    · rfl
  | x :: r, q + 1, i => by
    have ih := endGo_take r q (i + 1)
    rw [List.take_succ_cons]
    conv => lhs; unfold endGo
    conv => rhs; unfold endGo
    have e1 : (x :: r.take q).take 4 = ((x :: r).take 4).take (q + 1) := by
      rw [List.take_take, ← List.take_succ_cons, List.take_take, Nat.min_comm]
    by_cases h : (x :: r).take 4 = crlf2
    · rw [if_pos h]
      by_cases hq : 4 ≤ q + 1
      · rw [if_pos (by rw [e1, h, List.take_of_length_le (by simp [crlf2]; omega)]), if_pos (by omega)]
      · rw [if_neg (fun e => by
          rw [e1, h] at e
          have := congrArg List.length e
          rw [List.length_take] at this
          simp [crlf2] at this
          omega), ih]
        rw [if_neg (show ¬ (((i + 4 : Nat) : Int) ≤ ((i + (q + 1) : Nat) : Int)) by omega)]
        split
        · rename_i h3
          rcases endGo_range r (i + 1) with h2 | ⟨k, h1, h2, _⟩
          · exact h2
          · rw [h1] at h3; omega
        · rfl
    · rw [if_neg h, ih]
      by_cases hn : (x :: r.take q).take 4 = crlf2
      · exfalso
        rw [e1] at hn
        have hl := congrArg List.length hn
        rw [List.length_take, List.length_take] at hl
        simp only [crlf2, List.length_cons, List.length_nil] at hl
        rw [List.take_of_length_le (by rw [List.length_take]; omega)] at hn
        exact h hn
      · rw [if_neg hn]
        rw [show i + 1 + q = i + (q + 1) by omega]
/-- Where the library finds the end of the first q bytes. -/
theorem index_endZ (b : List UInt8) (q : Nat) : Lib.index (b.take q) crlf2 = if 0 ≤ endZ b ∧ endZ b ≤ q then endZ b - 4 else -1 := by
  have h1 := endGo_index (b.take q) 0
  have h2 := endGo_take b q 0
  have hge := Lib.index_ge (b.take q) crlf2
  rw [h2] at h1
  unfold endZ
  rw [show ((0 + q : Nat) : Int) = (q : Int) by omega] at h1
  rcases endGo_range b 0 with h | ⟨k, hk, hk1, hk2⟩
  · rw [h] at h1 ⊢
    rw [if_pos (by omega)] at h1
    rw [if_neg (by omega)]
    split at h1
    · assumption
    · omega
  · rw [hk] at h1 ⊢
    by_cases hq : (k : Int) ≤ q
    · rw [if_pos hq] at h1
      rw [if_pos ⟨by omega, hq⟩]
      split at h1 <;> omega
    · rw [if_neg hq] at h1
      rw [if_neg (fun h => hq h.2)]
      split at h1
      · assumption
      · omega

/-- Line ends in l. -/
def prs : List UInt8 → Nat
  | 13 :: 10 :: r => 1 + prs r
  | _ :: r => prs r
  | [] => 0
def crlf1 : List UInt8 := [13, 10]
theorem crlf1_pre (l : List UInt8) : crlf1.isPrefixOf l = true ↔ ∃ r, l = 13 :: 10 :: r := by
  rw [List.isPrefixOf_iff_prefix]
  constructor
  · rintro ⟨t, h⟩; exact ⟨t, h.symm⟩
  · rintro ⟨r, rfl⟩; exact ⟨r, rfl⟩
theorem count_crlf_hit (r : List UInt8) : Lib.count (13 :: 10 :: r) crlf1 = 1 + Lib.count r crlf1 := by
  have h : Lib.index (13 :: 10 :: r) crlf1 = ((0 : Nat) : Int) := by
    unfold Lib.index
    rw [if_pos ((crlf1_pre _).2 ⟨r, rfl⟩)]; rfl
  rw [Lib.count_hit (by simp [crlf1]) h]
  rfl
theorem count_crlf_miss (x : UInt8) (r : List UInt8) (hn : ¬ ∃ t, x :: r = 13 :: 10 :: t) : Lib.count (x :: r) crlf1 = Lib.count r crlf1 := by
  have hix : Lib.index (x :: r) crlf1 = if Lib.index r crlf1 == -1 then -1 else Lib.index r crlf1 + 1 := by
    conv => lhs; unfold Lib.index
    rw [if_neg (fun e => hn ((crlf1_pre _).1 e))]
  by_cases hm : Lib.index r crlf1 = -1
  · rw [Lib.count_miss hm, Lib.count_miss (by rw [hix, if_pos (beq_iff_eq.2 hm)])]
  · have hge := Lib.index_ge r crlf1
    obtain ⟨j, hj⟩ : ∃ j : Nat, Lib.index r crlf1 = j := ⟨(Lib.index r crlf1).toNat, by omega⟩
    have hix' : Lib.index (x :: r) crlf1 = ((j + 1 : Nat) : Int) := by rw [hix, if_neg (fun e => hm (beq_iff_eq.1 e)), hj]; omega
    rw [Lib.count_hit (by simp [crlf1]) hj, Lib.count_hit (by simp [crlf1]) hix']
    rw [show j + 1 + crlf1.length = (j + crlf1.length) + 1 by omega, List.drop_succ_cons]
theorem prs_hit (r : List UInt8) : prs (13 :: 10 :: r) = 1 + prs r := rfl
theorem prs_miss (x : UInt8) (r : List UInt8) (hn : ¬ ∃ t, x :: r = 13 :: 10 :: t) : prs (x :: r) = prs r := by
  conv => lhs; unfold prs
  split
  · rename_i h; cases h; exact absurd ⟨_, rfl⟩ hn
  · rename_i h; cases h; rfl
  · rename_i h; cases h
theorem count_prs (n : Nat) : ∀ l : List UInt8, l.length ≤ n → Lib.count l crlf1 = prs l := by
  induction n with
  | zero => intro l h; obtain rfl := List.eq_nil_of_length_eq_zero (Nat.le_zero.1 h); rfl
  | succ n ih =>
    intro l h
    cases l with
    | nil => rfl
    | cons x r =>
      by_cases hp : ∃ t, x :: r = 13 :: 10 :: t
      · obtain ⟨t, e⟩ := hp
        rw [e, count_crlf_hit, prs_hit, ih t (by rw [e] at h; simp at h; omega)]
      · rw [count_crlf_miss x r hp, prs_miss x r hp, ih r (by simpa using h)]
theorem prs_le (n : Nat) : ∀ l : List UInt8, l.length ≤ n → prs l ≤ l.count 10 ∧ prs l ≤ l.count 13 := by
  induction n with
  | zero => intro l h; obtain rfl := List.eq_nil_of_length_eq_zero (Nat.le_zero.1 h); exact ⟨Nat.zero_le _, Nat.zero_le _⟩
  | succ n ih =>
    intro l h
    cases l with
    | nil => exact ⟨Nat.zero_le _, Nat.zero_le _⟩
    | cons x r =>
      by_cases hp : ∃ t, x :: r = 13 :: 10 :: t
      · obtain ⟨t, e⟩ := hp
        rw [e]
        obtain ⟨h1, h2⟩ := ih t (by rw [e] at h; simp at h; omega)
        rw [prs_hit]
        simp
        omega
      · obtain ⟨h1, h2⟩ := ih r (by simpa using h)
        rw [prs_miss x r hp, List.count_cons, List.count_cons]
        omega
/-- Lines are whole: as the project counts, as the reference reads. -/
theorem lines_whole : ∀ (l cur : List UInt8), (cur.getLast? = some 13 → l.head? = some 10) →
    ((linesGo cur l).isSome = true ↔ (l.count 13 + (if cur.getLast? = some 13 then 1 else 0) = prs (if cur.getLast? = some 13 then 13 :: l else l) ∧ l.count 10 = prs (if cur.getLast? = some 13 then 13 :: l else l)))
  | [], cur, hp => by
    have hn : ¬ cur.getLast? = some 13 := fun e => by have := hp e; cases this
    rw [lines_nil, if_neg hn, if_neg hn]
    simp [prs]
  | x :: r, cur, hp => by
    by_cases hc : cur.getLast? = some 13
    · have hx : x = 10 := by have := hp hc; simpa using this
      subst hx
      have ih := lines_whole r [] (by simp)
      rw [if_neg (by simp)] at ih
      rw [lines_end hc, if_pos hc, if_pos hc, prs_hit, Option.isSome_map, ih, List.count_cons, List.count_cons]
      rw [if_neg (by simp)]
      simp
      omega
    · rw [if_neg hc, if_neg hc]
      obtain ⟨hl1, hl2⟩ := prs_le r.length r (Nat.le_refl _)
      by_cases h10 : x = 10
      · subst h10
        rw [lines_bad (.inr ⟨rfl, hc⟩), prs_miss 10 r (fun ⟨t, e⟩ => by injection e with e1 _; exact absurd e1 (by decide)), List.count_cons, List.count_cons]
        simp
        omega
      · by_cases h13 : x = 13
        · subst h13
          by_cases hr : r.head? = some 10
          · rw [lines_more h10 (fun _ => hr)]
            have ih := lines_whole r (cur ++ [13]) (fun _ => hr)
            rw [if_pos (by simp), if_pos (by simp)] at ih
            rw [ih, List.count_cons, List.count_cons]
            simp
          · rw [lines_bad (.inl ⟨rfl, hr⟩), prs_miss 13 r (fun ⟨t, e⟩ => by injection e with _ e2; rw [e2] at hr; exact hr rfl), List.count_cons, List.count_cons]
            simp
            omega
        · rw [lines_more h10 (fun e => absurd e h13)]
          have hl : ¬ (cur ++ [x]).getLast? = some 13 := by simpa using h13
          have ih := lines_whole r (cur ++ [x]) (fun e => absurd e hl)
          rw [if_neg hl, if_neg hl] at ih
          rw [ih, prs_miss x r (fun ⟨t, e⟩ => by injection e with e1 _; exact h13 e1), List.count_cons, List.count_cons]
          simp [h10, h13]
theorem lines_counts (b : List UInt8) : (linesGo [] b).isSome = true ↔ (b.count 13 = Lib.count b crlf1 ∧ b.count 10 = Lib.count b crlf1) := by
  have h := lines_whole b [] (by simp)
  rw [if_neg (by simp), if_neg (by simp)] at h
  rw [h, count_prs b.length b (Nat.le_refl _)]
  simp

/-- The pieces of l at line ends, behind the bytes cur of the first. -/
def spl : List UInt8 → List UInt8 → List ByteArray
  | cur, [] => [⟨cur.toArray⟩]
  | cur, x :: r => if x = 10 ∧ cur.getLast? = some 13 then ⟨cur.dropLast.toArray⟩ :: spl [] r else spl (cur ++ [x]) r
theorem lines_spl : ∀ (t cur : List UInt8) (L : List ByteArray), linesGo cur (t ++ crlf2) = some L → L = spl cur t ++ [⟨#[]⟩]
  | [], cur, L, h => by
    have e : linesGo cur ([] ++ crlf2) = some [⟨cur.toArray⟩, ⟨#[]⟩] := by
      show linesGo cur [13, 10, 13, 10] = _
      rw [lines_more (by decide) (fun _ => rfl), lines_end (by simp), lines_more (by decide) (fun _ => rfl), lines_end (by simp), lines_nil]
      simp
    rw [e] at h
    cases h
    rfl
  | x :: r, cur, L, h => by
    rw [List.cons_append] at h
    unfold spl
    by_cases hb : (x = 13 ∧ ¬ (r ++ crlf2).head? = some 10) ∨ (x = 10 ∧ ¬ cur.getLast? = some 13)
    · rw [lines_bad hb] at h; cases h
    · by_cases h10 : x = 10
      · have hc : cur.getLast? = some 13 := Classical.byContradiction fun e => hb (.inr ⟨h10, e⟩)
        subst h10
        rw [if_pos ⟨rfl, hc⟩]
        rw [lines_end hc] at h
        cases hr : linesGo [] (r ++ crlf2) with
        | none => rw [hr] at h; cases h
        | some y =>
          rw [hr] at h
          cases h
          rw [lines_spl r [] y hr]
          rfl
      · rw [if_neg (fun e => h10 e.1)]
        rw [lines_more h10 (fun e => Classical.byContradiction fun e2 => hb (.inl ⟨e, e2⟩))] at h
        exact lines_spl r _ L h
def crlfB : ByteArray := ⟨#[13, 10]⟩
theorem occ_crlf {l : List UInt8} {j : Nat} : Lib.occAt l crlf1 j = true ↔ l[j]? = some 13 ∧ l[j + 1]? = some 10 := by
  unfold Lib.occAt
  rw [crlf1_pre]
  constructor
  · rintro ⟨r, h⟩
    have h0 : (l.drop j)[0]? = some 13 := by rw [h]; rfl
    have h1 : (l.drop j)[1]? = some 10 := by rw [h]; rfl
    rw [List.getElem?_drop] at h0 h1
    exact ⟨h0, h1⟩
  · rintro ⟨h0, h1⟩
    have e0 : (l.drop j)[0]? = some 13 := by rw [List.getElem?_drop]; exact h0
    have e1 : (l.drop j)[1]? = some 10 := by rw [List.getElem?_drop]; exact h1
    match hd : l.drop j, e0, e1 with
    | x :: y :: r, e0, e1 =>
      simp at e0 e1
      exact ⟨r, by rw [e0, e1]⟩
/-- No line end lies in cur. -/
def NoEnd (cur : List UInt8) : Prop := ∀ j, Lib.occAt cur crlf1 j = false
theorem NoEnd.nil : NoEnd [] := fun j => by
  rw [Bool.eq_false_iff]; intro h
  have := (occ_crlf.1 h).1
  simp at this
theorem NoEnd.snoc {cur : List UInt8} {x : UInt8} (h : NoEnd cur) (hx : ¬ (x = 10 ∧ cur.getLast? = some 13)) : NoEnd (cur ++ [x]) := fun j => by
  rw [Bool.eq_false_iff]; intro hj
  obtain ⟨h0, h1⟩ := occ_crlf.1 hj
  by_cases hl : j + 1 < cur.length
  · rw [List.getElem?_append_left (by omega)] at h0
    rw [List.getElem?_append_left hl] at h1
    have := h j
    rw [occ_crlf.2 ⟨h0, h1⟩] at this
    cases this
  · by_cases he : j + 1 = cur.length
    · apply hx
      rw [List.getElem?_append_right (by omega), he, Nat.sub_self] at h1
      refine ⟨by simpa using h1, ?_⟩
      rw [List.getElem?_append_left (by omega)] at h0
      rw [List.getLast?_eq_getElem?, ← he]
      exact h0
    · rw [List.getElem?_append_right (by omega)] at h1
      have hk : j + 1 - cur.length ≠ 0 := by omega
      obtain ⟨k, hk2⟩ := Nat.exists_eq_succ_of_ne_zero hk
      rw [hk2] at h1
      simp at h1
theorem indexB_list (s : List UInt8) : Lib.indexB ⟨s.toArray⟩ crlfB = Lib.index s crlf1 := rfl
theorem spl_split : ∀ (s cur : List UInt8) (k : Nat), NoEnd cur → Lib.countB ⟨(cur ++ s).toArray⟩ crlfB ≤ k → Lib.splitB crlfB 0 k ⟨(cur ++ s).toArray⟩ = spl cur s
  | [], cur, k, hn, _ => by
    rw [List.append_nil]
    rw [Lib.splitB_miss]
    · rfl
    · rw [indexB_list]
      exact Lib.index_none fun j _ => hn j
  | x :: r, cur, k, hn, hk => by
    unfold spl
    by_cases hx : x = 10 ∧ cur.getLast? = some 13
    · rw [if_pos hx]
      obtain ⟨rfl, hc⟩ := hx
      obtain ⟨c, rfl⟩ : ∃ c, cur = c ++ [13] := by
        obtain ⟨ys, h⟩ := List.getLast?_eq_some_iff.1 hc
        exact ⟨ys, h⟩
      rw [List.dropLast_concat]
      have hi : Lib.index (c ++ [13] ++ 10 :: r) crlf1 = (c.length : Int) := by
        refine Lib.index_first (by simp) ?_ ?_
        · rw [occ_crlf]
          constructor
          · simp
          · simp
        · intro j hj
          rw [Bool.eq_false_iff]; intro ho
          obtain ⟨h0, h1⟩ := occ_crlf.1 ho
          rw [List.getElem?_append_left (by simp; omega)] at h0 h1
          have := hn j
          rw [occ_crlf.2 ⟨h0, h1⟩] at this
          cases this
      have hib : Lib.indexB ⟨(c ++ [13] ++ 10 :: r).toArray⟩ crlfB = (c.length : Int) := hi
      have e2 : (⟨(c ++ [13] ++ 10 :: r).toArray⟩ : ByteArray).extract (c.length + crlfB.size) (⟨(c ++ [13] ++ 10 :: r).toArray⟩ : ByteArray).size = ⟨r.toArray⟩ := by
        apply ByteArray.ext
        apply Array.ext'
        rw [Lib.extract_to_end]
        show (c ++ [13] ++ 10 :: r).drop (c.length + 2) = r
        rw [show c ++ [13] ++ 10 :: r = (c ++ [13, 10]) ++ r by simp, List.drop_append_of_le_length (by simp)]
        rw [show c.length + 2 = (c ++ [13, 10]).length by simp, List.drop_length, List.nil_append]
      have hc2 := Lib.countB_hit _ crlfB c.length (by decide) hib
      rw [e2] at hc2
      obtain ⟨k', rfl⟩ : ∃ k', k = k' + 1 := ⟨k - 1, by omega⟩
      rw [Lib.splitB_hit crlfB 0 k' _ c.length hib, e2]
      have ih := spl_split r [] k' NoEnd.nil (by rw [List.nil_append]; omega)
      rw [List.nil_append] at ih
      rw [ih]
      congr 1
      apply ByteArray.ext
      apply Array.ext'
      rw [ByteArray.data_extract, Array.toList_extract]
      show List.extract (c ++ [13] ++ 10 :: r) 0 (c.length + 0) = c
      simp [List.extract]
    · rw [if_neg hx]
      have ih := spl_split r (cur ++ [x]) k (hn.snoc hx) (by rw [List.append_assoc]; exact hk)
      rw [List.append_assoc] at ih
      exact ih
end Go.Proofs.YtcdianojchmgpaaGreatDoor
namespace Go.Proofs.YtcdianojchmgpaaGreatDoor
open Go.RowKit

theorem fieldsGo_stop {l : List ByteArray} {k : Nat} {x : List Fld} {s : ByteArray} (hk : k < l.length) (hs : l[k] = s) (h : fieldsGo (l.take k) = some x) : fieldsGo (l.take (k + 1)) = (parseF s).map fun f => x ++ [f] := by
  rw [List.take_succ_eq_append_getElem hk, hs]
  exact fieldsGo_snoc _ _ _ h
theorem AccF.fresh {w0 w : World} {a : Option Addr} {n c : Nat} {l : List Fld} (h : AccF w0 w (.slice a n c) l) : ∀ y, a = some y → w0.heap.size ≤ y.block := fun y hy => by
  obtain ⟨⟨_, h2⟩, _⟩ := h
  rcases h2 with ⟨e, _⟩ | ⟨g, cap, cur, hv, hg, _⟩
  · injection e with e1 _ _
    rw [e1] at hy; cases hy
  · injection hv with e1 _ _
    rw [e1] at hy
    obtain rfl := Option.some.inj hy
    exact hg
theorem fieldsS_big {l : List ByteArray} (h : 64 < l.length) : fieldsS l = (3, []) := by unfold fieldsS; rw [if_pos h]
theorem fieldsS_some {l : List ByteArray} {x : List Fld} (h : ¬ 64 < l.length) (hx : fieldsGo l = some x) : fieldsS l = (0, x) := by unfold fieldsS; rw [if_neg h, hx]
theorem fieldsS_none {l : List ByteArray} (h : ¬ 64 < l.length) (hx : fieldsGo l = none) : fieldsS l = (2, []) := by unfold fieldsS; rw [if_neg h, hx]
set_option maxRecDepth 100000 in
set_option maxHeartbeats 4000000 in
theorem refFieldsH_any (l : List ByteArray) (a : Option Addr) (c : Nat) (w : World) (h : StrsAt w a l) (hz : ∀ s ∈ l, s.size ≤ maxLen) (hl : l.length ≤ 4000000) :
    Calls Tryz.prog 35 #[.slice a l.length c] w fun e w' => ∃ x fa fc er, fieldsS l = (er, x) ∧ e = .returned (.tuple #[.slice fa (List.length x) fc, .int .i64 er]) ∧ FldsIn w' fa x ∧ (∀ y, fa = some y → w.heap.size ≤ y.block) ∧ Below w.heap.size w w' := by
  have HS := Box.mk h
  have HZ := Box.mk hz
  have HF1 := Box.mk (fun h => fieldsS_big (l := l) h)
  have HF2 := Box.mk (fun h x hx => fieldsS_some (l := l) (x := x) h hx)
  have HF3 := Box.mk (fun h hx => fieldsS_none (l := l) h hx)
  generalize fieldsS l = R at *
  clear h hz
  by_cases h64 : 64 < l.length
  · have HP := Box.mk (HF1.out h64)
    clear HF1 HF2 HF3
    go_enter Tryz.func35, Tryz.ntmps35
    go_wp2_with fail
    go_ret2
    exact ⟨[], none, 0, 3, HP.out, rfl, FldsIn.nil _ _, (fun _ e => by cases e), Below.refl _ _⟩
  · have HF4 := Box.mk h64
    clear HF1
    go_enter Tryz.func35, Tryz.ntmps35
    go_wp2_with fail
    go_loopw [4, 5] (fun v iv wr => ∃ k : Nat, k ≤ l.length ∧ iv = .int .i64 k ∧ ∃ x : List Fld, Box (AccF w wr v x ∧ x.length ≤ k ∧ fieldsGo (l.take k) = some x)) (fun _ iv _ => l.length - (intOf iv).toNat)
    case atStart => exact ⟨0, Nat.zero_le _, rfl, [], ⟨AccF.start _, Nat.le_refl _, rfl⟩⟩
    case round =>
      obtain ⟨k, hk, rfl, x, HM⟩ := hrel
      by_cases hlt : k < l.length
      · obtain ⟨b, off, rfl, hcell⟩ := (HS.out.keep HM.out.1.2) k hlt
        have HSZ := Box.mk (HZ.out _ (List.getElem_mem hlt))
        have HST := Box.mk (fieldsGo_stop hlt rfl HM.out.2.2)
        generalize l[k] = s at *
        go_wp2_with fail
        refine (refParse_any s _ HSZ.out).mono ?_
        rintro e w2 ⟨he, hb2⟩
        have HA2 := Box.mk (HM.out.1.keep hb2)
        have HXL := Box.mk HM.out.2.1
        clear hb2 hcell
        rcases hq : parseF s with _ | ⟨fn, fv⟩
        · rw [hq] at he
          simp only [parseV] at he
          subst he
          have HP := Box.mk (show R = (2, []) by
            have h9 := HST.out
            rw [hq] at h9
            have h10 := fieldsGo_none _ (l.drop (k + 1)) h9
            rw [List.take_append_drop] at h10
            exact HF3.out HF4.out h10)
          clear hq HST HF2 HF3
          go_wp2_with fail
          go_ret2
          exact ⟨[], none, 0, 2, HP.out, rfl, FldsIn.nil _ _, (fun _ e => by cases e), below_trans HA2.out.2 (below_oneF _ _)⟩
        · rw [hq] at he
          simp only [parseV] at he
          subst he
          have HN := Box.mk (show fieldsGo (l.take (k + 1)) = some (x ++ [(fn, fv)]) by rw [HST.out, hq]; rfl)
          clear hq HST
          go_wp2_with (at_builtin; refine wpList_append_accf _ rfl _ _ rfl rfl (HA2.out.keep (below_twoF (below_oneF w2 _) _)) rfl (y := (fn, fv)) ?c1 ?c2 ?c3 ?c4)
          case c3 => have := HXL.out; omega
          case c4 =>
            intro g cap w3 hacc
            obtain ⟨x2, hx2⟩ : ∃ x2, x2 = x ++ [(fn, fv)] := ⟨_, rfl⟩
            rw [← hx2] at hacc HN
            have HX2 := Box.mk (show x2.length = x.length + 1 by rw [hx2]; simp)
            have HACC := Box.mk hacc
            clear hacc hx2
            go_wp2_with fail
            go_roundw
            case rel => exact ⟨k + 1, by omega, by go_num, x2, ⟨HACC.out, by rw [HX2.out]; have := HXL.out; omega, HN.out⟩⟩
            case measure => simp [intOf]; omega
      · have HP := Box.mk (show R = (0, x) by
          have h9 := HM.out.2.2
          rw [List.take_of_length_le (by omega)] at h9
          exact HF2.out HF4.out x h9)
        obtain ⟨fa, fc, rfl, hfs⟩ := HM.out.1.shape
        have HFS := Box.mk hfs
        clear hfs
        go_wp2_with fail
        go_ret2
        exact ⟨x, fa, fc, 0, HP.out, rfl, HFS.out, HM.out.1.fresh, HM.out.1.2⟩
end Go.Proofs.YtcdianojchmgpaaGreatDoor
namespace Go.Proofs.YtcdianojchmgpaaGreatDoor
open Go.RowKit

/-- v is a slice with the bytes l in a block of its own, at B or beyond. -/
def Own (B : Nat) (w : World) (v : Value) (l : List UInt8) : Prop := w.ownsRow B 5 1 v l.length (bytesV l)
theorem Own.start (B : Nat) (w : World) : Own B w (.slice none 0 0) [] := World.ownsRow_nil _ _ _ _
theorem Own.same {B : Nat} {w w' : World} {v : Value} {l : List UInt8} (h : Own B w v l) (hs : ∀ k, v.ownBlock = some k → w'.heap[k]? = w.heap[k]?) : Own B w' v l := by
  obtain ⟨h1, h2⟩ := h
  refine ⟨h1, ?_⟩
  rcases h2 with h2 | ⟨g, cap, cur, hv, hg, hc, r⟩
  · exact .inl h2
  · exact .inr ⟨g, cap, cur, hv, hg, by rw [hs g (by rw [hv]; rfl)]; exact hc, r⟩
theorem Own.lt {B : Nat} {w : World} {v : Value} {l : List UInt8} (h : Own B w v l) {k : Nat} (hk : v.ownBlock = some k) : B ≤ k ∧ k < w.heap.size := World.ownsRow.lt h k hk
theorem Own.keep {B : Nat} {w w' : World} {v : Value} {l : List UInt8} (h : Own B w v l) (hb : Below w.heap.size w w') : Own B w' v l :=
  h.same fun k hk => hb.block k (h.lt hk).2
theorem Own.val {B : Nat} {w : World} {v : Value} {l : List UInt8} (h : Own B w v l) : BytesV w v l := by
  obtain ⟨h1, h2⟩ := h
  rcases h2 with ⟨rfl, h2⟩ | ⟨g, cap, cur, rfl, hg, hc, hcap, hm, hsz, ht⟩
  · have : l = [] := List.eq_nil_of_length_eq_zero h2
    subst this
    exact ⟨none, 0, rfl, .inl ⟨rfl, rfl, rfl⟩⟩
  · refine ⟨_, cap, rfl, .inr ⟨_, rfl, hcap, hm, fun j hj => ?_⟩⟩
    have e : cur.toList[j]? = some (Value.int .u8 (l[j].toNat : Int)) := by
      have := congrArg (fun x => x[j]?) ht
      simp only [Nat.mul_one, bytesV] at this
      rw [List.getElem?_take_of_lt hj, List.getElem?_map, List.getElem?_eq_getElem hj] at this
      exact this
    rw [Addr.add_lit]
    simp only [World.cell?, hc, Nat.zero_add]
    simpa using e
theorem cell_same {w w' : World} {p : Addr} (h : w'.heap[p.block]? = w.heap[p.block]?) : w'.cell? p = w.cell? p := by
  unfold World.cell?
  rw [h]
theorem add_block (x : Addr) (j : Nat) : (x.add j).block = x.block := by unfold Addr.add; split <;> rfl
theorem IsBytes.same {w w' : World} {a : Option Addr} {l : List UInt8} {c : Nat} (h : IsBytes w a l c) (hs : ∀ x, a = some x → l ≠ [] → w'.heap[x.block]? = w.heap[x.block]?) : IsBytes w' a l c := by
  rcases h with h | ⟨x, h1, h2, h3, h4⟩
  · exact .inl h
  · refine .inr ⟨x, h1, h2, h3, fun j hj => ?_⟩
    have e : w'.heap[(x.add j).block]? = w.heap[(x.add j).block]? := by
      rw [add_block]
      exact hs x h1 (fun e => by rw [e] at hj; exact absurd hj (Nat.not_lt_zero _))
    rw [cell_same e]
    exact h4 j hj
theorem IsBytes.lt {w : World} {x : Addr} {l : List UInt8} {c : Nat} (h : IsBytes w (some x) l c) (hl : l ≠ []) : x.block < w.heap.size := by
  rcases h with ⟨h, _⟩ | ⟨y, h1, h2, h3, h4⟩
  · cases h
  · obtain rfl := Option.some.inj h1
    have h0 : 0 < l.length := List.length_pos_iff.2 hl
    have := h4 0 h0
    have h5 := World.block_lt_of_cell? w _ this
    rw [add_block] at h5; exact h5
section
variable {ops : Array Oper} {rest : List Oper} {o : Oper} {act : Act} {Q : Exit → Act → World → Prop}
/-- APPEND of a slice of bytes that is read; all other blocks stay as they are. -/
theorem wpList_append_ownb (w : World) (hgd : o.guard = none) (s x : Operand) (ho : o.op = .call { callee := .builtin .append, args := #[s, x], argTypes := #[23, 23] })
    {B : Nat} {v : Value} {l : List UInt8} (hs : act.eval s = v) (h : Own B w v l) {a : Option Addr} {r : List UInt8} {c : Nat} (hx : act.eval x = .slice a r.length c) (hr : IsBytes w a r c)
    (hn : l.length + r.length ≤ 140737488355328) (hB : B ≤ w.heap.size)
    (K : ∀ v' w', Own B w' v' (l ++ r) → w.grownBy w' v.ownBlock → (v'.ownBlock = v.ownBlock ∨ v'.ownBlock = some w.heap.size) → wpList Tryz.prog ops Q rest (act.put o.dst v') w') : wpList Tryz.prog ops Q (o :: rest) act w := by
  obtain ⟨i0, hi, hz0, hz1, hz2⟩ := info_parts Tryz.info5
  rcases hr with ⟨rfl, rfl, rfl⟩ | ⟨ad, rfl, hr1, hr2, hr3⟩
  · refine wpList_append_own_none hgd s x 23 ho B 5 i0 1 Tryz.underlying23 hi v l.length (bytesV l) hs h hx (K _ _ ?_ (World.grownBy.refl _ _) (.inl rfl))
    rw [List.append_nil]; exact h
  · refine wpList_append_own_at w hgd s x 23 ho B 5 i0 (.int .u8 0) 1 1 Tryz.underlying23 hi hz0 hz1 hz2 rfl (by decide) v l.length (bytesV l) hs h ad r.length c (bytesV r) hx (by rw [bytesV_len, Nat.mul_one]) ?_ ?_ (by unfold maxLen; omega) (by omega) hB ?_
    · intro j u hj
      unfold bytesV at hj
      rw [List.getElem?_map] at hj
      obtain ⟨c', hc', rfl⟩ := Option.map_eq_some_iff.1 hj
      obtain ⟨hlt, rfl⟩ := List.getElem?_eq_some_iff.1 hc'
      exact hr3 j hlt
    · intro u hu
      unfold bytesV at hu
      obtain ⟨c', _, rfl⟩ := List.mem_map.1 hu
      rfl
    · intro v' w' hown hgrow _ h5
      refine K v' w' ?_ hgrow h5
      unfold Own
      rw [List.length_append]
      have e : bytesV (l ++ r) = bytesV l ++ bytesV r := by unfold bytesV; rw [List.map_append]
      rw [e]; exact hown
end
end Go.Proofs.YtcdianojchmgpaaGreatDoor
namespace Go.Proofs.YtcdianojchmgpaaGreatDoor
open Go.RowKit

theorem lineR_ne (l : List ByteArray) (h : (lineR l).1 = none) : ¬ (lineR l).2 = 0 := by
  unfold lineR at h ⊢
  split at h
  · rename_i m t v
    by_cases h1 : tokS m = true ∧ targetS t = true
    · rw [if_pos h1] at h ⊢
      by_cases h2 : (verZ v).2 = 0
      · rw [if_pos h2] at h; cases h
      · rw [if_neg h2]; exact h2
    · rw [if_neg h1]; decide
  · decide
theorem lines_small : ∀ (l cur : List UInt8) (L : List ByteArray), linesGo cur l = some L → ∀ s ∈ L, s.size ≤ cur.length + l.length
  | [], _, L, h, s, hs => by
    rw [lines_nil] at h
    cases h; cases hs
  | x :: r, cur, L, h, s, hs => by
    by_cases hb : (x = 13 ∧ ¬ r.head? = some 10) ∨ (x = 10 ∧ ¬ cur.getLast? = some 13)
    · rw [lines_bad hb] at h; cases h
    · by_cases hx : x = 10
      · subst hx
        have hl : cur.getLast? = some 13 := Decidable.byContradiction fun e => hb (.inr ⟨rfl, e⟩)
        rw [lines_end hl] at h
        cases hq : linesGo [] r with
        | none => rw [hq] at h; cases h
        | some L2 =>
          rw [hq] at h
          simp only [Option.map_some, Option.some.injEq] at h
          subst h
          rcases List.mem_cons.1 hs with rfl | hs
          · show cur.dropLast.toArray.size ≤ _
            rw [List.size_toArray, List.length_dropLast]; omega
          · have := lines_small r [] L2 hq s hs
            rw [List.length_cons]
            simp at this
            omega
      · rw [lines_more hx (fun e => Decidable.byContradiction fun e2 => hb (.inl ⟨e, e2⟩))] at h
        have := lines_small r _ L h s hs
        rw [List.length_append] at this
        rw [List.length_cons]
        simp at this
        omega
theorem linesS_facts {b : List UInt8} {L : List ByteArray} (h : linesS b = some L) : (∀ s ∈ L, s.size ≤ b.length) ∧ L.length ≤ b.length := by
  unfold linesS at h
  split at h
  · cases hq : linesGo [] b with
    | none => rw [hq] at h; cases h
    | some G =>
      rw [hq] at h
      simp only [Option.map_some, Option.some.injEq] at h
      subst h
      refine ⟨fun s hs => ?_, ?_⟩
      · have := lines_small b [] G hq s ((List.dropLast_sublist G).subset hs)
        simpa using this
      · have := lines_count b [] G hq
        have h2 := List.count_le_length (a := (10 : UInt8)) (l := b)
        rw [List.length_dropLast]; omega
  · cases h
theorem parseF_small {s : ByteArray} {f : Fld} (h : parseF s = some f) : f.1.size ≤ s.size ∧ f.2.size ≤ s.size := by
  unfold parseF at h
  split at h
  · split at h
    · cases h
      exact ⟨extract_le _ _ _, Nat.le_trans (trimBA_size _) (extract_le _ _ _)⟩
    · cases h
  · cases h
theorem fieldsGo_small : ∀ (l : List ByteArray) (x : List Fld), fieldsGo l = some x → (∀ s ∈ l, s.size ≤ maxLen) → ShortF x ∧ x.length = l.length
  | [], x, h, _ => by
    cases h
    exact ⟨fun f hf => absurd hf (by simp), rfl⟩
  | t :: l, x, h, hz => by
    unfold fieldsGo at h
    cases ht : parseF t with
    | none => rw [ht] at h; cases h
    | some f =>
      rw [ht] at h
      simp only at h
      cases hx : fieldsGo l with
      | none => rw [hx] at h; cases h
      | some y =>
        rw [hx] at h
        simp only [Option.map_some, Option.some.injEq] at h
        subst h
        obtain ⟨h1, h2⟩ := fieldsGo_small l y hx (fun s hs => hz s (List.mem_cons_of_mem _ hs))
        have h3 := parseF_small ht
        have h4 := hz t (List.mem_cons_self ..)
        refine ⟨fun g hg => ?_, by simp [h2]⟩
        rcases List.mem_cons.1 hg with rfl | hg
        · exact ⟨Nat.le_trans h3.1 h4, Nat.le_trans h3.2 h4⟩
        · exact h1 g hg
theorem fieldsS_small {l : List ByteArray} {x : List Fld} {er : Int} (h : fieldsS l = (er, x)) (hz : ∀ s ∈ l, s.size ≤ maxLen) : ShortF x ∧ x.length ≤ 64 ∧ (¬ er = 0 → x = []) := by
  unfold fieldsS at h
  split at h
  · cases h
    exact ⟨fun f hf => absurd hf (by simp), by simp, fun _ => rfl⟩
  · rename_i h64
    cases hx : fieldsGo l with
    | none =>
      rw [hx] at h
      cases h
      exact ⟨fun f hf => absurd hf (by simp), by simp, fun _ => rfl⟩
    | some y =>
      rw [hx] at h
      cases h
      obtain ⟨h1, h2⟩ := fieldsGo_small l x hx hz
      exact ⟨h1, by omega, fun e => absurd rfl e⟩
def hostN : ByteArray := ⟨#[104, 111, 115, 116]⟩
/-- What ParseRequest returns: error, method, target, minor version, fields. -/
def headR (b : List UInt8) : Int × ByteArray × ByteArray × Int × List Fld :=
  match linesS b with
  | some (l0 :: ls) =>
    match lineR (splitS 32 l0) with
    | (some f, _) =>
      if (fieldsS ls).1 = 0 then (if 1 < (valuesL (fieldsS ls).2 hostN).length ∨ ((valuesL (fieldsS ls).2 hostN).length = 0 ∧ f.2.2 = 1) then (2, ⟨#[]⟩, ⟨#[]⟩, 0, []) else (0, f.1, f.2.1, f.2.2, (fieldsS ls).2))
      else ((fieldsS ls).1, ⟨#[]⟩, ⟨#[]⟩, 0, [])
    | (none, e) => (e, ⟨#[]⟩, ⟨#[]⟩, 0, [])
  | _ => (2, ⟨#[]⟩, ⟨#[]⟩, 0, [])
def RetReqH (w : World) (r : Int × ByteArray × ByteArray × Int × List Fld) (e : Ending) (w' : World) : Prop :=
  ∃ fa fc, e = .returned (.tuple #[.agg #[.string r.2.1, .string r.2.2.1, .int .i64 r.2.2.2.1, .slice fa r.2.2.2.2.length fc, .bool false, .slice none 0 0], .int .i64 r.1]) ∧ FldsIn w' fa r.2.2.2.2 ∧ Below w.heap.size w w'
def QVarH (w : World) (g : Nat) (m t : ByteArray) (z : Int) (v : Value) : Prop := w.heap[g]? = some (.cells #[.string m, .string t, .int .i64 z, v, .bool false, .slice none 0 0] 35 (0, 0))
theorem QVarH.keep {w w' : World} {g : Nat} {m t : ByteArray} {z : Int} {v : Value} (h : QVarH w g m t z v) (hb : Below w.heap.size w w') : QVarH w' g m t z v := by
  unfold QVarH at *
  rw [hb.block g (Array.getElem?_eq_some_iff.1 h).1]; exact h
theorem oneQH (m t : ByteArray) (z : Int) (a : Option Addr) (n c : Nat) : (#[.string m, .string t, .int .i64 z, .slice a n c, .bool false, .slice none 0 0] : Array Value).all (·.oneCell') = true := by simp [Value.oneCell']
theorem QVarH.cells {w : World} {g : Nat} {m t : ByteArray} {z : Int} {v : Value} (h : QVarH w g m t z v) : w.cell? ⟨g, 2, none⟩ = some (.int .i64 z) ∧ w.cell? ⟨g, 3, none⟩ = some v := by
  refine ⟨?_, ?_⟩ <;> rw [cell_of_row _ _ _ _ _ _ h] <;> rfl
theorem QVarH.put {w : World} {g : Nat} {m t : ByteArray} {z : Int} {v u : Value} (h : QVarH w g m t z v) : QVarH (w.setCell ⟨g, 3, none⟩ u) g m t z u := by
  unfold QVarH; rw [heap_setCell_same _ _ _ _ _ _ h]; rfl
theorem QVarH.frozen {w : World} {g i : Nat} {m t : ByteArray} {z : Int} {v : Value} (h : QVarH w g m t z v) : w.frozen? ⟨g, i, none⟩ = false := by
  unfold QVarH at h; simp [World.frozen?, h]
theorem QVarH.cells6 {w : World} {g : Nat} {m t : ByteArray} {z : Int} {v : Value} (h : QVarH w g m t z v) : w.cell? ⟨g, 0, none⟩ = some (.string m) ∧ w.cell? ⟨g, 1, none⟩ = some (.string t) ∧ w.cell? ⟨g, 2, none⟩ = some (.int .i64 z) ∧ w.cell? ⟨g, 3, none⟩ = some v ∧ w.cell? ⟨g, 4, none⟩ = some (.bool false) ∧ w.cell? ⟨g, 5, none⟩ = some (.slice none 0 0) := by
  refine ⟨?_, ?_, ?_, ?_, ?_, ?_⟩ <;> rw [cell_of_row _ _ _ _ _ _ h] <;> rfl
theorem FldsIn.same {w w' : World} {a : Option Addr} {l : List Fld} (h : FldsIn w a l) (hs : ∀ y, a = some y → w'.heap[y.block]? = w.heap[y.block]?) : FldsIn w' a l := fun j hj => by
  obtain ⟨x, e, h1, h2⟩ := h j hj
  have hx := hs x e
  exact ⟨x, e, (cell_same (w := w) (w' := w') (by rw [add_block]; exact hx)).trans h1, (cell_same (w := w) (w' := w') (by rw [add_block]; exact hx)).trans h2⟩
theorem StrsAt.tail {w : World} {g : Nat} {s : ByteArray} {l : List ByteArray} (h : StrsAt w (some ⟨g, 0, none⟩) (s :: l)) : StrsAt w (some ⟨g, 1, none⟩) l := fun j hj => by
  obtain ⟨b, off, e, hc⟩ := h (j + 1) (by rw [List.length_cons]; omega)
  cases e
  refine ⟨g, 1, rfl, ?_⟩
  rw [show 1 + j = 0 + (j + 1) by omega]
  exact hc
theorem StrsAt.head {w : World} {g : Nat} {s : ByteArray} {l : List ByteArray} (h : StrsAt w (some ⟨g, 0, none⟩) (s :: l)) : w.cell? ⟨g, 0, none⟩ = some (.string s) := by
  obtain ⟨b, off, e, hc⟩ := h 0 (by simp)
  cases e
  exact hc
set_option maxRecDepth 100000 in
set_option maxHeartbeats 4000000 in
theorem refHeadReq_any (b : List UInt8) (a : Option Addr) (c : Nat) (w : World) (h : IsBytes w a b c) (hl : b.length ≤ 4000000) :
    Calls Tryz.prog 15 #[.slice a b.length c] w (RetReqH w (headR b)) := by
  obtain ⟨W0, hW0⟩ : ∃ W0, W0 = w.alloc (.cells #[.string ⟨#[]⟩, .string ⟨#[]⟩, .int .i64 0, .slice none 0 0, .bool false, .slice none 0 0] 35) := ⟨_, rfl⟩
  have HB0 := Box.mk (show Below w.heap.size w W0 by rw [hW0]; exact below_oneF w _)
  have HR0 := Box.mk (show QVarH W0 w.heap.size ⟨#[]⟩ ⟨#[]⟩ 0 (.slice none 0 0) by rw [hW0]; exact heap_alloc_new _ _)
  have HCALL := Box.mk (refLines_any b a c W0 (h.keep HB0.out) hl)
  have HSZ := Box.mk (fun L hL => linesS_facts (b := b) (L := L) hL)
  have HD := Box.mk (show headR b = match linesS b with
    | some (l0 :: ls) =>
      match lineR (splitS 32 l0) with
      | (some f, _) =>
        if (fieldsS ls).1 = 0 then (if 1 < (valuesL (fieldsS ls).2 hostN).length ∨ ((valuesL (fieldsS ls).2 hostN).length = 0 ∧ f.2.2 = 1) then (2, ⟨#[]⟩, ⟨#[]⟩, 0, []) else (0, f.1, f.2.1, f.2.2, (fieldsS ls).2))
        else ((fieldsS ls).1, ⟨#[]⟩, ⟨#[]⟩, 0, [])
      | (none, e) => (e, ⟨#[]⟩, ⟨#[]⟩, 0, [])
    | _ => (2, ⟨#[]⟩, ⟨#[]⟩, 0, []) from rfl)
  generalize headR b = R at *
  have HW0 := Box.mk hW0
  clear h hW0
  go_enter Tryz.func15, Tryz.ntmps15
  go_wp2_with fail
  rw [← HW0.out]
  clear HW0
  refine HCALL.out.mono ?_
  intro e w1 hret
  clear HCALL
  rcases ho : linesS b with _ | L
  · rw [ho] at hret
    obtain ⟨rfl, hb1⟩ := hret
    have HP := Box.mk (show R = (2, ⟨#[]⟩, ⟨#[]⟩, 0, []) by rw [HD.out, ho])
    have HB1 := Box.mk (below_trans HB0.out hb1)
    have HR1 := Box.mk (HR0.out.keep hb1)
    clear ho hb1 HD HSZ
    go_wp2_with (refine wpList_store_row rfl 35 _ _ rfl w.heap.size #[.string ⟨#[]⟩, .string ⟨#[]⟩, .int .i64 0, .slice none 0 0, .bool false, .slice none 0 0] rfl rfl 35 _ HR1.out sizeR rfl (oneQH _ _ _ _ _ _) ?_)
    (try simp only [Exit.inBlock, Exit.then])
    refine bodyPost_ret (results_row_tmpF rfl _ _ w.heap.size _ _ _ _ rfl (setRow_heap _ _ _ _ _ _ HR1.out) Tryz.underlying35 rfl sizeR) rfl ?_
    rw [HP.out]
    exact ⟨none, 0, rfl, FldsIn.nil _ _, below_setRow HB1.out (Nat.le_refl _) _⟩
  · rw [ho] at hret
    obtain ⟨g, lc, rfl, hlc, hcm, hL0, hst, hb1⟩ := hret
    obtain ⟨hz1, hz2⟩ := HSZ.out L ho
    obtain ⟨l0, ls, rfl⟩ : ∃ l0 ls, L = l0 :: ls := by
      cases L with
      | nil => exact absurd hL0 (Nat.lt_irrefl _)
      | cons x r => exact ⟨x, r, rfl⟩
    have HB1 := Box.mk (below_trans HB0.out hb1)
    have HR1 := Box.mk (HR0.out.keep hb1)
    have hc0 := hst.head
    have HT := Box.mk hst.tail
    have HZ0 := Box.mk (show l0.size ≤ 4000000 from Nat.le_trans (hz1 l0 (List.mem_cons_self ..)) hl)
    have HZL := Box.mk (show ∀ s ∈ ls, s.size ≤ maxLen from fun s hs => Nat.le_trans (hz1 s (List.mem_cons_of_mem _ hs)) (by unfold maxLen; omega))
    have hll : ls.length ≤ 4000000 := by rw [List.length_cons] at hz2; omega
    rw [List.length_cons] at hlc
    have HD2 := Box.mk (show R = match lineR (splitS 32 l0) with
      | (some f, _) =>
        if (fieldsS ls).1 = 0 then (if 1 < (valuesL (fieldsS ls).2 hostN).length ∨ ((valuesL (fieldsS ls).2 hostN).length = 0 ∧ f.2.2 = 1) then (2, ⟨#[]⟩, ⟨#[]⟩, 0, []) else (0, f.1, f.2.1, f.2.2, (fieldsS ls).2))
        else ((fieldsS ls).1, ⟨#[]⟩, ⟨#[]⟩, 0, [])
      | (none, e) => (e, ⟨#[]⟩, ⟨#[]⟩, 0, []) by rw [HD.out, ho])
    clear ho hb1 hst hz1 hz2 HD HSZ HB0 HR0 hL0
    go_wp2_with fail
    refine (refParseReq_any l0 _ (by have := HZ0.out; omega)).mono ?_
    rintro e w2 ⟨he, hb2⟩
    have HB2 := Box.mk (below_trans HB1.out hb2)
    have HR2 := Box.mk (HR1.out.keep hb2)
    have HT2 := Box.mk (HT.out.keep hb2)
    have hne := lineR_ne (splitS 32 l0)
    clear hb2 HB1 HR1 HT hc0
    generalize lineR (splitS 32 l0) = o at *
    obtain ⟨o1, er⟩ := o
    rcases o1 with _ | ⟨m, t, z⟩
    · simp only [reqV] at he
      subst he
      have HP := Box.mk (show R = (er, ⟨#[]⟩, ⟨#[]⟩, 0, []) from HD2.out)
      have e0 : (er != 0) = true := by rw [bne_iff_ne]; exact hne rfl
      have hb3 := below_oneF w2 (.cells #[.string ⟨#[]⟩, .string ⟨#[]⟩, .int .i64 0, .slice none 0 0, .bool false, .slice none 0 0] 35)
      have HB3 := Box.mk (below_trans HB2.out hb3)
      have HR3 := Box.mk (HR2.out.keep hb3)
      clear hne HD2 hb3
      go_wp2_with (refine wpList_store_row rfl 35 _ _ rfl w.heap.size #[.string ⟨#[]⟩, .string ⟨#[]⟩, .int .i64 0, .slice none 0 0, .bool false, .slice none 0 0] rfl rfl 35 _ HR3.out sizeR rfl (oneQH _ _ _ _ _ _) ?_)
      (try simp only [Exit.inBlock, Exit.then])
      refine bodyPost_ret (results_row_tmpF rfl _ _ w.heap.size _ _ _ _ rfl (setRow_heap _ _ _ _ _ _ HR3.out) Tryz.underlying35 rfl sizeR) rfl ?_
      rw [HP.out]
      exact ⟨none, 0, rfl, FldsIn.nil _ _, below_setRow HB3.out (Nat.le_refl _) _⟩
    · simp only [reqV] at he
      subst he
      have HD3 := Box.mk (show R = if (fieldsS ls).1 = 0 then (if 1 < (valuesL (fieldsS ls).2 hostN).length ∨ ((valuesL (fieldsS ls).2 hostN).length = 0 ∧ z = 1) then (2, ⟨#[]⟩, ⟨#[]⟩, 0, []) else (0, m, t, z, (fieldsS ls).2))
        else ((fieldsS ls).1, ⟨#[]⟩, ⟨#[]⟩, 0, []) from HD2.out)
      clear hne HD2
      obtain ⟨W3, hW3⟩ : ∃ W3, W3 = w2.alloc (.cells #[.string m, .string t, .int .i64 z, .slice none 0 0, .bool false, .slice none 0 0] 35) := ⟨_, rfl⟩
      have hb3 : Below w2.heap.size w2 W3 := by rw [hW3]; exact below_oneF w2 _
      have HB3 := Box.mk (below_trans HB2.out hb3)
      have HR3 := Box.mk (HR2.out.keep hb3)
      have HV3 := Box.mk (show QVarH W3 w2.heap.size m t z (.slice none 0 0) by rw [hW3]; exact heap_alloc_new _ _)
      have HT3 := Box.mk (HT2.out.keep hb3)
      have hlt := HB2.out.size
      have hrl := (Array.getElem?_eq_some_iff.1 HR2.out).1
      have HW3 := Box.mk hW3
      clear hb3 hW3 HB2 HR2 HT2
      by_cases hc1 : lc = 1
      · subst hc1
        obtain rfl : ls = [] := List.eq_nil_of_length_eq_zero (by omega)
        go_wp2_with fail
        rw [← HW3.out]
        refine (refFieldsH_any [] (some ⟨g, 0, none⟩) 0 W3 (StrsAt.nil _ _) HZL.out (by simp)).mono ?_
        rintro e w4 ⟨x, fa, fc, er, hx, rfl, hfx, hfr, hb4⟩
        obtain ⟨hs1, hs2, hs3⟩ := fieldsS_small hx HZL.out
        have HX := Box.mk hx
        have HD4 := Box.mk (show R = if er = 0 then (if 1 < (valuesL x hostN).length ∨ ((valuesL x hostN).length = 0 ∧ z = 1) then (2, ⟨#[]⟩, ⟨#[]⟩, 0, []) else (0, m, t, z, x)) else (er, ⟨#[]⟩, ⟨#[]⟩, 0, []) by
          have h := HD3.out
          rw [hx] at h
          exact h)
        have HS1 := Box.mk hs1
        have HV4 := Box.mk (HV3.out.keep hb4)
        have HR4 := Box.mk (HR3.out.keep hb4)
        have HB4 := Box.mk (below_trans HB3.out hb4)
        have hf3 := HV4.out.frozen (i := 3)
        obtain ⟨hd2, hd3⟩ := HV4.out.cells
        have HV5 := Box.mk (HV4.out.put (u := .slice fa x.length fc))
        have HR5 := Box.mk (show QVarH (w4.setCell ⟨w2.heap.size, 3, none⟩ (.slice fa x.length fc)) w.heap.size ⟨#[]⟩ ⟨#[]⟩ 0 (.slice none 0 0) by
          unfold QVarH; rw [heap_setCell_other _ _ _ _ (by show w.heap.size ≠ w2.heap.size; omega)]; exact HR4.out)
        have HB5 := Box.mk (HB4.out.setCell (p := ⟨w2.heap.size, 3, none⟩) (show w.heap.size ≤ w2.heap.size from hlt) (.slice fa x.length fc))
        have hw3 : w2.heap.size < W3.heap.size := (Array.getElem?_eq_some_iff.1 HV3.out).1
        have HFR := Box.mk (show ∀ y, fa = some y → w2.heap.size < y.block from fun y hy => Nat.lt_of_lt_of_le hw3 (hfr y hy))
        have HX5 := Box.mk (show FldsIn (w4.setCell ⟨w2.heap.size, 3, none⟩ (.slice fa x.length fc)) fa x from hfx.same fun y hy => heap_setCell_other _ _ _ _ (by have := HFR.out y hy; show y.block ≠ w2.heap.size; omega))
        have HX0 := Box.mk hs3
        clear hx hfx hfr hb4 hs1 hs3 HD3 HV3 HR3 HB3 HW3 HT3
        by_cases h0 : er = 0
        · have e0 : (er != 0) = false := by rw [h0]; rfl
          have HD5 := Box.mk (show R = if 1 < (valuesL x hostN).length ∨ ((valuesL x hostN).length = 0 ∧ z = 1) then (2, ⟨#[]⟩, ⟨#[]⟩, 0, []) else (0, m, t, z, x) by rw [HD4.out, if_pos h0])
          obtain ⟨hg2, hg3⟩ := HV5.out.cells
          clear h0 HD4 HX0
          go_wp2_with fail
          refine (refValues_any x hostN fa fc _ HX5.out HS1.out (by decide) (by omega)).mono ?_
          rintro e w6 ⟨va, vc, rfl, _, hb6⟩
          have HV6 := Box.mk (HV5.out.keep hb6)
          have HR6 := Box.mk (HR5.out.keep hb6)
          have HB6 := Box.mk (below_trans HB5.out hb6)
          have HX6 := Box.mk (HX5.out.keep hb6)
          have hvl : (valuesL x hostN).length ≤ 64 := Nat.le_trans (by unfold valuesL; rw [List.length_map]; exact List.length_filter_le _ _) hs2
          generalize (valuesL x hostN).length = nv at *
          obtain ⟨c0, c1, c2, c3, c4, c5⟩ := HV6.out.cells6
          clear hb6 hg2 hg3 HV5 HR5 HB5 HX5 hd2 hd3 hf3 HV4 HR4 HB4
          by_cases hn1 : 1 < nv
          · have HP := Box.mk (show R = (2, ⟨#[]⟩, ⟨#[]⟩, 0, []) by rw [HD5.out, if_pos (.inl hn1)])
            have hn2 : (1 : Int) < (nv : Int) := by omega
            clear HD5
            go_wp2_with (refine wpList_store_row rfl 35 _ _ rfl w.heap.size #[.string ⟨#[]⟩, .string ⟨#[]⟩, .int .i64 0, .slice none 0 0, .bool false, .slice none 0 0] rfl rfl 35 _ HR6.out sizeR rfl (oneQH _ _ _ _ _ _) ?_)
            (try simp only [Exit.inBlock, Exit.then])
            refine bodyPost_ret (results_row_tmpF rfl _ _ w.heap.size _ _ _ _ rfl (setRow_heap _ _ _ _ _ _ HR6.out) Tryz.underlying35 rfl sizeR) rfl ?_
            rw [HP.out]
            exact ⟨none, 0, rfl, FldsIn.nil _ _, below_setRow HB6.out (Nat.le_refl _) _⟩
          · have hn2 : ¬ (1 : Int) < (nv : Int) := by omega
            by_cases hn0 : nv = 0
            · have en : ((nv : Int) == 0) = true := by rw [hn0]; rfl
              by_cases hz1 : z = 1
              · have ez : (z == 1) = true := by rw [hz1]; rfl
                have HP := Box.mk (show R = (2, ⟨#[]⟩, ⟨#[]⟩, 0, []) by rw [HD5.out, if_pos (.inr ⟨hn0, hz1⟩)])
                clear HD5 hz1 hn0
                go_wp2_with (refine wpList_store_row rfl 35 _ _ rfl w.heap.size #[.string ⟨#[]⟩, .string ⟨#[]⟩, .int .i64 0, .slice none 0 0, .bool false, .slice none 0 0] rfl rfl 35 _ HR6.out sizeR rfl (oneQH _ _ _ _ _ _) ?_)
                (try simp only [Exit.inBlock, Exit.then])
                refine bodyPost_ret (results_row_tmpF rfl _ _ w.heap.size _ _ _ _ rfl (setRow_heap _ _ _ _ _ _ HR6.out) Tryz.underlying35 rfl sizeR) rfl ?_
                rw [HP.out]
                exact ⟨none, 0, rfl, FldsIn.nil _ _, below_setRow HB6.out (Nat.le_refl _) _⟩
              · have ez : (z == 1) = false := by rw [beq_eq_false_iff_ne]; exact hz1
                have HP := Box.mk (show R = (0, m, t, z, x) by rw [HD5.out, if_neg (fun h => h.elim hn1 (fun h => hz1 h.2))])
                clear HD5 hz1 hn0
                go_wp2_with (refine wpList_store_row rfl 35 _ _ rfl w.heap.size #[.string m, .string t, .int .i64 z, .slice fa x.length fc, .bool false, .slice none 0 0] rfl rfl 35 _ HR6.out sizeR rfl (oneQH _ _ _ _ _ _) ?_)
                (try simp only [Exit.inBlock, Exit.then])
                refine bodyPost_ret (results_row_tmpF rfl _ _ w.heap.size _ _ _ _ rfl (setRow_heap _ _ _ _ _ _ HR6.out) Tryz.underlying35 rfl sizeR) rfl ?_
                rw [HP.out]
                exact ⟨fa, fc, rfl, HX6.out.same fun y hy => setRow_other _ _ _ _ (by have := HFR.out y hy; omega), below_setRow HB6.out (Nat.le_refl _) _⟩
            · have en : ((nv : Int) == 0) = false := by rw [beq_eq_false_iff_ne]; omega
              have HP := Box.mk (show R = (0, m, t, z, x) by rw [HD5.out, if_neg (fun h => h.elim hn1 (fun h => hn0 h.1))])
              clear HD5 hn0
              go_wp2_with (refine wpList_store_row rfl 35 _ _ rfl w.heap.size #[.string m, .string t, .int .i64 z, .slice fa x.length fc, .bool false, .slice none 0 0] rfl rfl 35 _ HR6.out sizeR rfl (oneQH _ _ _ _ _ _) ?_)
              (try simp only [Exit.inBlock, Exit.then])
              refine bodyPost_ret (results_row_tmpF rfl _ _ w.heap.size _ _ _ _ rfl (setRow_heap _ _ _ _ _ _ HR6.out) Tryz.underlying35 rfl sizeR) rfl ?_
              rw [HP.out]
              exact ⟨fa, fc, rfl, HX6.out.same fun y hy => setRow_other _ _ _ _ (by have := HFR.out y hy; omega), below_setRow HB6.out (Nat.le_refl _) _⟩
        · have e0 : (er != 0) = true := by rw [bne_iff_ne]; exact h0
          have HP := Box.mk (show R = (er, ⟨#[]⟩, ⟨#[]⟩, 0, []) by rw [HD4.out, if_neg h0])
          clear h0 HD4
          go_wp2_with (refine wpList_store_row rfl 35 _ _ rfl w.heap.size #[.string ⟨#[]⟩, .string ⟨#[]⟩, .int .i64 0, .slice none 0 0, .bool false, .slice none 0 0] rfl rfl 35 _ HR5.out sizeR rfl (oneQH _ _ _ _ _ _) ?_)
          (try simp only [Exit.inBlock, Exit.then])
          refine bodyPost_ret (results_row_tmpF rfl _ _ w.heap.size _ _ _ _ rfl (setRow_heap _ _ _ _ _ _ HR5.out) Tryz.underlying35 rfl sizeR) rfl ?_
          rw [HP.out]
          exact ⟨none, 0, rfl, FldsIn.nil _ _, below_setRow HB5.out (Nat.le_refl _) _⟩
      · have hlc2 : 1 ≤ lc := by omega
        go_wp2_with fail
        rw [← HW3.out]
        refine (refFieldsH_any ls (some ⟨g, 1, none⟩) (lc - 1) W3 HT3.out HZL.out hll).mono ?_
        rintro e w4 ⟨x, fa, fc, er, hx, rfl, hfx, hfr, hb4⟩
        obtain ⟨hs1, hs2, hs3⟩ := fieldsS_small hx HZL.out
        have HX := Box.mk hx
        have HD4 := Box.mk (show R = if er = 0 then (if 1 < (valuesL x hostN).length ∨ ((valuesL x hostN).length = 0 ∧ z = 1) then (2, ⟨#[]⟩, ⟨#[]⟩, 0, []) else (0, m, t, z, x)) else (er, ⟨#[]⟩, ⟨#[]⟩, 0, []) by
          have h := HD3.out
          rw [hx] at h
          exact h)
        have HS1 := Box.mk hs1
        have HV4 := Box.mk (HV3.out.keep hb4)
        have HR4 := Box.mk (HR3.out.keep hb4)
        have HB4 := Box.mk (below_trans HB3.out hb4)
        have hf3 := HV4.out.frozen (i := 3)
        obtain ⟨hd2, hd3⟩ := HV4.out.cells
        have HV5 := Box.mk (HV4.out.put (u := .slice fa x.length fc))
        have HR5 := Box.mk (show QVarH (w4.setCell ⟨w2.heap.size, 3, none⟩ (.slice fa x.length fc)) w.heap.size ⟨#[]⟩ ⟨#[]⟩ 0 (.slice none 0 0) by
          unfold QVarH; rw [heap_setCell_other _ _ _ _ (by show w.heap.size ≠ w2.heap.size; omega)]; exact HR4.out)
        have HB5 := Box.mk (HB4.out.setCell (p := ⟨w2.heap.size, 3, none⟩) (show w.heap.size ≤ w2.heap.size from hlt) (.slice fa x.length fc))
        have hw3 : w2.heap.size < W3.heap.size := (Array.getElem?_eq_some_iff.1 HV3.out).1
        have HFR := Box.mk (show ∀ y, fa = some y → w2.heap.size < y.block from fun y hy => Nat.lt_of_lt_of_le hw3 (hfr y hy))
        have HX5 := Box.mk (show FldsIn (w4.setCell ⟨w2.heap.size, 3, none⟩ (.slice fa x.length fc)) fa x from hfx.same fun y hy => heap_setCell_other _ _ _ _ (by have := HFR.out y hy; show y.block ≠ w2.heap.size; omega))
        have HX0 := Box.mk hs3
        clear hx hfx hfr hb4 hs1 hs3 HD3 HV3 HR3 HB3 HW3 HT3
        by_cases h0 : er = 0
        · have e0 : (er != 0) = false := by rw [h0]; rfl
          have HD5 := Box.mk (show R = if 1 < (valuesL x hostN).length ∨ ((valuesL x hostN).length = 0 ∧ z = 1) then (2, ⟨#[]⟩, ⟨#[]⟩, 0, []) else (0, m, t, z, x) by rw [HD4.out, if_pos h0])
          obtain ⟨hg2, hg3⟩ := HV5.out.cells
          clear h0 HD4 HX0
          go_wp2_with fail
          refine (refValues_any x hostN fa fc _ HX5.out HS1.out (by decide) (by omega)).mono ?_
          rintro e w6 ⟨va, vc, rfl, _, hb6⟩
          have HV6 := Box.mk (HV5.out.keep hb6)
          have HR6 := Box.mk (HR5.out.keep hb6)
          have HB6 := Box.mk (below_trans HB5.out hb6)
          have HX6 := Box.mk (HX5.out.keep hb6)
          have hvl : (valuesL x hostN).length ≤ 64 := Nat.le_trans (by unfold valuesL; rw [List.length_map]; exact List.length_filter_le _ _) hs2
          generalize (valuesL x hostN).length = nv at *
          obtain ⟨c0, c1, c2, c3, c4, c5⟩ := HV6.out.cells6
          clear hb6 hg2 hg3 HV5 HR5 HB5 HX5 hd2 hd3 hf3 HV4 HR4 HB4
          by_cases hn1 : 1 < nv
          · have HP := Box.mk (show R = (2, ⟨#[]⟩, ⟨#[]⟩, 0, []) by rw [HD5.out, if_pos (.inl hn1)])
            have hn2 : (1 : Int) < (nv : Int) := by omega
            clear HD5
            go_wp2_with (refine wpList_store_row rfl 35 _ _ rfl w.heap.size #[.string ⟨#[]⟩, .string ⟨#[]⟩, .int .i64 0, .slice none 0 0, .bool false, .slice none 0 0] rfl rfl 35 _ HR6.out sizeR rfl (oneQH _ _ _ _ _ _) ?_)
            (try simp only [Exit.inBlock, Exit.then])
            refine bodyPost_ret (results_row_tmpF rfl _ _ w.heap.size _ _ _ _ rfl (setRow_heap _ _ _ _ _ _ HR6.out) Tryz.underlying35 rfl sizeR) rfl ?_
            rw [HP.out]
            exact ⟨none, 0, rfl, FldsIn.nil _ _, below_setRow HB6.out (Nat.le_refl _) _⟩
          · have hn2 : ¬ (1 : Int) < (nv : Int) := by omega
            by_cases hn0 : nv = 0
            · have en : ((nv : Int) == 0) = true := by rw [hn0]; rfl
              by_cases hz1 : z = 1
              · have ez : (z == 1) = true := by rw [hz1]; rfl
                have HP := Box.mk (show R = (2, ⟨#[]⟩, ⟨#[]⟩, 0, []) by rw [HD5.out, if_pos (.inr ⟨hn0, hz1⟩)])
                clear HD5 hz1 hn0
                go_wp2_with (refine wpList_store_row rfl 35 _ _ rfl w.heap.size #[.string ⟨#[]⟩, .string ⟨#[]⟩, .int .i64 0, .slice none 0 0, .bool false, .slice none 0 0] rfl rfl 35 _ HR6.out sizeR rfl (oneQH _ _ _ _ _ _) ?_)
                (try simp only [Exit.inBlock, Exit.then])
                refine bodyPost_ret (results_row_tmpF rfl _ _ w.heap.size _ _ _ _ rfl (setRow_heap _ _ _ _ _ _ HR6.out) Tryz.underlying35 rfl sizeR) rfl ?_
                rw [HP.out]
                exact ⟨none, 0, rfl, FldsIn.nil _ _, below_setRow HB6.out (Nat.le_refl _) _⟩
              · have ez : (z == 1) = false := by rw [beq_eq_false_iff_ne]; exact hz1
                have HP := Box.mk (show R = (0, m, t, z, x) by rw [HD5.out, if_neg (fun h => h.elim hn1 (fun h => hz1 h.2))])
                clear HD5 hz1 hn0
                go_wp2_with (refine wpList_store_row rfl 35 _ _ rfl w.heap.size #[.string m, .string t, .int .i64 z, .slice fa x.length fc, .bool false, .slice none 0 0] rfl rfl 35 _ HR6.out sizeR rfl (oneQH _ _ _ _ _ _) ?_)
                (try simp only [Exit.inBlock, Exit.then])
                refine bodyPost_ret (results_row_tmpF rfl _ _ w.heap.size _ _ _ _ rfl (setRow_heap _ _ _ _ _ _ HR6.out) Tryz.underlying35 rfl sizeR) rfl ?_
                rw [HP.out]
                exact ⟨fa, fc, rfl, HX6.out.same fun y hy => setRow_other _ _ _ _ (by have := HFR.out y hy; omega), below_setRow HB6.out (Nat.le_refl _) _⟩
            · have en : ((nv : Int) == 0) = false := by rw [beq_eq_false_iff_ne]; omega
              have HP := Box.mk (show R = (0, m, t, z, x) by rw [HD5.out, if_neg (fun h => h.elim hn1 (fun h => hn0 h.1))])
              clear HD5 hn0
              go_wp2_with (refine wpList_store_row rfl 35 _ _ rfl w.heap.size #[.string m, .string t, .int .i64 z, .slice fa x.length fc, .bool false, .slice none 0 0] rfl rfl 35 _ HR6.out sizeR rfl (oneQH _ _ _ _ _ _) ?_)
              (try simp only [Exit.inBlock, Exit.then])
              refine bodyPost_ret (results_row_tmpF rfl _ _ w.heap.size _ _ _ _ rfl (setRow_heap _ _ _ _ _ _ HR6.out) Tryz.underlying35 rfl sizeR) rfl ?_
              rw [HP.out]
              exact ⟨fa, fc, rfl, HX6.out.same fun y hy => setRow_other _ _ _ _ (by have := HFR.out y hy; omega), below_setRow HB6.out (Nat.le_refl _) _⟩
        · have e0 : (er != 0) = true := by rw [bne_iff_ne]; exact h0
          have HP := Box.mk (show R = (er, ⟨#[]⟩, ⟨#[]⟩, 0, []) by rw [HD4.out, if_neg h0])
          clear h0 HD4
          go_wp2_with (refine wpList_store_row rfl 35 _ _ rfl w.heap.size #[.string ⟨#[]⟩, .string ⟨#[]⟩, .int .i64 0, .slice none 0 0, .bool false, .slice none 0 0] rfl rfl 35 _ HR5.out sizeR rfl (oneQH _ _ _ _ _ _) ?_)
          (try simp only [Exit.inBlock, Exit.then])
          refine bodyPost_ret (results_row_tmpF rfl _ _ w.heap.size _ _ _ _ rfl (setRow_heap _ _ _ _ _ _ HR5.out) Tryz.underlying35 rfl sizeR) rfl ?_
          rw [HP.out]
          exact ⟨none, 0, rfl, FldsIn.nil _ _, below_setRow HB5.out (Nat.le_refl _) _⟩
end Go.Proofs.YtcdianojchmgpaaGreatDoor
namespace Go.Proofs.YtcdianojchmgpaaGreatDoor
open Go.RowKit

/-- What ParseReply returns: error, status, reason, minor version, fields. -/
def headA (b : List UInt8) : Int × Int × ByteArray × Int × List Fld :=
  match linesS b with
  | some (l0 :: ls) =>
    match parseA l0 with
    | some f => if (fieldsS ls).1 = 0 then (0, f.1, f.2.1, f.2.2, (fieldsS ls).2) else ((fieldsS ls).1, 0, ⟨#[]⟩, 0, [])
    | none => (2, 0, ⟨#[]⟩, 0, [])
  | _ => (2, 0, ⟨#[]⟩, 0, [])
def RetRepH (w : World) (r : Int × Int × ByteArray × Int × List Fld) (e : Ending) (w' : World) : Prop :=
  ∃ fa fc, e = .returned (.tuple #[.agg #[.int .i64 r.2.1, .string r.2.2.1, .int .i64 r.2.2.2.1, .slice fa r.2.2.2.2.length fc, .slice none 0 0], .int .i64 r.1]) ∧ FldsIn w' fa r.2.2.2.2 ∧ Below w.heap.size w w'
/-- A reply's variable with its fields. -/
def AVarH (w : World) (g : Nat) (m : Int) (t : ByteArray) (z : Int) (v : Value) : Prop := w.heap[g]? = some (.cells #[.int .i64 m, .string t, .int .i64 z, v, .slice none 0 0] 39 (0, 0))
theorem AVarH.keep {w w' : World} {g : Nat} {m : Int} {t : ByteArray} {z : Int} {v : Value} (h : AVarH w g m t z v) (hb : Below w.heap.size w w') : AVarH w' g m t z v := by
  unfold AVarH at *
  rw [hb.block g (Array.getElem?_eq_some_iff.1 h).1]; exact h
theorem oneAH (m : Int) (t : ByteArray) (z : Int) (a : Option Addr) (n c : Nat) : (#[.int .i64 m, .string t, .int .i64 z, .slice a n c, .slice none 0 0] : Array Value).all (·.oneCell') = true := by simp [Value.oneCell']
theorem AVarH.cells {w : World} {g : Nat} {m : Int} {t : ByteArray} {z : Int} {v : Value} (h : AVarH w g m t z v) : w.cell? ⟨g, 2, none⟩ = some (.int .i64 z) ∧ w.cell? ⟨g, 3, none⟩ = some v := by
  refine ⟨?_, ?_⟩ <;> rw [cell_of_row _ _ _ _ _ _ h] <;> rfl
theorem AVarH.put {w : World} {g : Nat} {m : Int} {t : ByteArray} {z : Int} {v u : Value} (h : AVarH w g m t z v) : AVarH (w.setCell ⟨g, 3, none⟩ u) g m t z u := by
  unfold AVarH; rw [heap_setCell_same _ _ _ _ _ _ h]; rfl
theorem AVarH.frozen {w : World} {g i : Nat} {m : Int} {t : ByteArray} {z : Int} {v : Value} (h : AVarH w g m t z v) : w.frozen? ⟨g, i, none⟩ = false := by
  unfold AVarH at h; simp [World.frozen?, h]
theorem AVarH.cells5 {w : World} {g : Nat} {m : Int} {t : ByteArray} {z : Int} {v : Value} (h : AVarH w g m t z v) : w.cell? ⟨g, 0, none⟩ = some (.int .i64 m) ∧ w.cell? ⟨g, 1, none⟩ = some (.string t) ∧ w.cell? ⟨g, 2, none⟩ = some (.int .i64 z) ∧ w.cell? ⟨g, 3, none⟩ = some v ∧ w.cell? ⟨g, 4, none⟩ = some (.slice none 0 0) := by
  refine ⟨?_, ?_, ?_, ?_, ?_⟩ <;> rw [cell_of_row _ _ _ _ _ _ h] <;> rfl
set_option maxRecDepth 100000 in
set_option maxHeartbeats 4000000 in
theorem refHeadRep_any (b : List UInt8) (a : Option Addr) (c : Nat) (w : World) (h : IsBytes w a b c) (hl : b.length ≤ 4000000) :
    Calls Tryz.prog 17 #[.slice a b.length c] w (RetRepH w (headA b)) := by
  obtain ⟨W0, hW0⟩ : ∃ W0, W0 = w.alloc (.cells #[.int .i64 0, .string ⟨#[]⟩, .int .i64 0, .slice none 0 0, .slice none 0 0] 39) := ⟨_, rfl⟩
  have HB0 := Box.mk (show Below w.heap.size w W0 by rw [hW0]; exact below_oneF w _)
  have HR0 := Box.mk (show AVarH W0 w.heap.size 0 ⟨#[]⟩ 0 (.slice none 0 0) by rw [hW0]; exact heap_alloc_new _ _)
  have HCALL := Box.mk (refLines_any b a c W0 (h.keep HB0.out) hl)
  have HSZ := Box.mk (fun L hL => linesS_facts (b := b) (L := L) hL)
  have HD := Box.mk (show headA b = match linesS b with
    | some (l0 :: ls) =>
      match parseA l0 with
      | some f => if (fieldsS ls).1 = 0 then (0, f.1, f.2.1, f.2.2, (fieldsS ls).2) else ((fieldsS ls).1, 0, ⟨#[]⟩, 0, [])
      | none => (2, 0, ⟨#[]⟩, 0, [])
    | _ => (2, 0, ⟨#[]⟩, 0, []) from rfl)
  generalize headA b = R at *
  have HW0 := Box.mk hW0
  clear h hW0
  go_enter Tryz.func17, Tryz.ntmps17
  go_wp2_with fail
  rw [← HW0.out]
  clear HW0
  refine HCALL.out.mono ?_
  intro e w1 hret
  clear HCALL
  rcases ho : linesS b with _ | L
  · rw [ho] at hret
    obtain ⟨rfl, hb1⟩ := hret
    have HP := Box.mk (show R = (2, 0, ⟨#[]⟩, 0, []) by rw [HD.out, ho])
    have HB1 := Box.mk (below_trans HB0.out hb1)
    have HR1 := Box.mk (HR0.out.keep hb1)
    clear ho hb1 HD HSZ
    go_wp2_with (refine wpList_store_row rfl 39 _ _ rfl w.heap.size #[.int .i64 0, .string ⟨#[]⟩, .int .i64 0, .slice none 0 0, .slice none 0 0] rfl rfl 39 _ HR1.out sizeA rfl (oneAH _ _ _ _ _ _) ?_)
    (try simp only [Exit.inBlock, Exit.then])
    refine bodyPost_ret (results_row_tmpF rfl _ _ w.heap.size _ _ _ _ rfl (setRow_heap _ _ _ _ _ _ HR1.out) Tryz.underlying39 rfl sizeA) rfl ?_
    rw [HP.out]
    exact ⟨none, 0, rfl, FldsIn.nil _ _, below_setRow HB1.out (Nat.le_refl _) _⟩
  · rw [ho] at hret
    obtain ⟨g, lc, rfl, hlc, hcm, hL0, hst, hb1⟩ := hret
    obtain ⟨hz1, hz2⟩ := HSZ.out L ho
    obtain ⟨l0, ls, rfl⟩ : ∃ l0 ls, L = l0 :: ls := by
      cases L with
      | nil => exact absurd hL0 (Nat.lt_irrefl _)
      | cons x r => exact ⟨x, r, rfl⟩
    have HB1 := Box.mk (below_trans HB0.out hb1)
    have HR1 := Box.mk (HR0.out.keep hb1)
    have hc0 := hst.head
    have HT := Box.mk hst.tail
    have HZ0 := Box.mk (show l0.size ≤ 4000000 from Nat.le_trans (hz1 l0 (List.mem_cons_self ..)) hl)
    have HZL := Box.mk (show ∀ s ∈ ls, s.size ≤ maxLen from fun s hs => Nat.le_trans (hz1 s (List.mem_cons_of_mem _ hs)) (by unfold maxLen; omega))
    have hll : ls.length ≤ 4000000 := by rw [List.length_cons] at hz2; omega
    rw [List.length_cons] at hlc
    have HD2 := Box.mk (show R = match parseA l0 with
      | some f => if (fieldsS ls).1 = 0 then (0, f.1, f.2.1, f.2.2, (fieldsS ls).2) else ((fieldsS ls).1, 0, ⟨#[]⟩, 0, [])
      | none => (2, 0, ⟨#[]⟩, 0, []) by rw [HD.out, ho])
    clear ho hb1 hst hz1 hz2 HD HSZ HB0 HR0 hL0
    go_wp2_with fail
    refine (refParseRep_any l0 _ (by have := HZ0.out; unfold maxLen; omega)).mono ?_
    rintro e w2 ⟨he, hb2⟩
    have HB2 := Box.mk (below_trans HB1.out hb2)
    have HR2 := Box.mk (HR1.out.keep hb2)
    have HT2 := Box.mk (HT.out.keep hb2)
    clear hb2 HB1 HR1 HT hc0
    generalize parseA l0 = o at *
    rcases o with _ | ⟨m, t, z⟩
    · simp only [replyV] at he
      subst he
      have HP := Box.mk (show R = (2, 0, ⟨#[]⟩, 0, []) from HD2.out)
      have hb3 := below_oneF w2 (.cells #[.int .i64 0, .string ⟨#[]⟩, .int .i64 0, .slice none 0 0, .slice none 0 0] 39)
      have HB3 := Box.mk (below_trans HB2.out hb3)
      have HR3 := Box.mk (HR2.out.keep hb3)
      clear HD2 hb3
      go_wp2_with (refine wpList_store_row rfl 39 _ _ rfl w.heap.size #[.int .i64 0, .string ⟨#[]⟩, .int .i64 0, .slice none 0 0, .slice none 0 0] rfl rfl 39 _ HR3.out sizeA rfl (oneAH _ _ _ _ _ _) ?_)
      (try simp only [Exit.inBlock, Exit.then])
      refine bodyPost_ret (results_row_tmpF rfl _ _ w.heap.size _ _ _ _ rfl (setRow_heap _ _ _ _ _ _ HR3.out) Tryz.underlying39 rfl sizeA) rfl ?_
      rw [HP.out]
      exact ⟨none, 0, rfl, FldsIn.nil _ _, below_setRow HB3.out (Nat.le_refl _) _⟩
    · simp only [replyV] at he
      subst he
      have HD3 := Box.mk (show R = if (fieldsS ls).1 = 0 then (0, m, t, z, (fieldsS ls).2) else ((fieldsS ls).1, 0, ⟨#[]⟩, 0, []) from HD2.out)
      clear HD2
      obtain ⟨W3, hW3⟩ : ∃ W3, W3 = w2.alloc (.cells #[.int .i64 m, .string t, .int .i64 z, .slice none 0 0, .slice none 0 0] 39) := ⟨_, rfl⟩
      have hb3 : Below w2.heap.size w2 W3 := by rw [hW3]; exact below_oneF w2 _
      have HB3 := Box.mk (below_trans HB2.out hb3)
      have HR3 := Box.mk (HR2.out.keep hb3)
      have HV3 := Box.mk (show AVarH W3 w2.heap.size m t z (.slice none 0 0) by rw [hW3]; exact heap_alloc_new _ _)
      have HT3 := Box.mk (HT2.out.keep hb3)
      have hlt := HB2.out.size
      have hrl := (Array.getElem?_eq_some_iff.1 HR2.out).1
      have HW3 := Box.mk hW3
      clear hb3 hW3 HB2 HR2 HT2
      by_cases hc1 : lc = 1
      · subst hc1
        obtain rfl : ls = [] := List.eq_nil_of_length_eq_zero (by omega)
        go_wp2_with fail
        rw [← HW3.out]
        refine (refFieldsH_any [] (some ⟨g, 0, none⟩) 0 W3 (StrsAt.nil _ _) HZL.out (by simp)).mono ?_
        rintro e w4 ⟨x, fa, fc, er, hx, rfl, hfx, hfr, hb4⟩
        obtain ⟨hs1, hs2, hs3⟩ := fieldsS_small hx HZL.out
        have HX := Box.mk hx
        have HD4 := Box.mk (show R = if er = 0 then (0, m, t, z, x) else (er, 0, ⟨#[]⟩, 0, []) by
          have h := HD3.out
          rw [hx] at h
          exact h)
        have HS1 := Box.mk hs1
        have HV4 := Box.mk (HV3.out.keep hb4)
        have HR4 := Box.mk (HR3.out.keep hb4)
        have HB4 := Box.mk (below_trans HB3.out hb4)
        have hf3 := HV4.out.frozen (i := 3)
        obtain ⟨hd2, hd3⟩ := HV4.out.cells
        have HV5 := Box.mk (HV4.out.put (u := .slice fa x.length fc))
        have HR5 := Box.mk (show AVarH (w4.setCell ⟨w2.heap.size, 3, none⟩ (.slice fa x.length fc)) w.heap.size 0 ⟨#[]⟩ 0 (.slice none 0 0) by
          unfold AVarH; rw [heap_setCell_other _ _ _ _ (by show w.heap.size ≠ w2.heap.size; omega)]; exact HR4.out)
        have HB5 := Box.mk (HB4.out.setCell (p := ⟨w2.heap.size, 3, none⟩) (show w.heap.size ≤ w2.heap.size from hlt) (.slice fa x.length fc))
        have hw3 : w2.heap.size < W3.heap.size := (Array.getElem?_eq_some_iff.1 HV3.out).1
        have HFR := Box.mk (show ∀ y, fa = some y → w2.heap.size < y.block from fun y hy => Nat.lt_of_lt_of_le hw3 (hfr y hy))
        have HX5 := Box.mk (show FldsIn (w4.setCell ⟨w2.heap.size, 3, none⟩ (.slice fa x.length fc)) fa x from hfx.same fun y hy => heap_setCell_other _ _ _ _ (by have := HFR.out y hy; show y.block ≠ w2.heap.size; omega))
        have HX0 := Box.mk hs3
        clear hx hfx hfr hb4 hs1 hs3 HD3 HV3 HR3 HB3 HW3 HT3
        by_cases h0 : er = 0
        · have e0 : (er != 0) = false := by rw [h0]; rfl
          have HP := Box.mk (show R = (0, m, t, z, x) by rw [HD4.out, if_pos h0])
          obtain ⟨c0, c1, c2, c3, c4⟩ := HV5.out.cells5
          clear h0 HD4 HX0
          go_wp2_with (refine wpList_store_row rfl 39 _ _ rfl w.heap.size #[.int .i64 m, .string t, .int .i64 z, .slice fa x.length fc, .slice none 0 0] rfl rfl 39 _ HR5.out sizeA rfl (oneAH _ _ _ _ _ _) ?_)
          (try simp only [Exit.inBlock, Exit.then])
          refine bodyPost_ret (results_row_tmpF rfl _ _ w.heap.size _ #[.int .i64 m, .string t, .int .i64 z, .slice fa x.length fc, .slice none 0 0] _ _ rfl (setRow_heap _ _ _ _ _ _ HR5.out) Tryz.underlying39 rfl sizeA) rfl ?_
          rw [HP.out]
          exact ⟨fa, fc, rfl, HX5.out.same fun y hy => setRow_other _ _ _ _ (by have := HFR.out y hy; omega), below_setRow HB5.out (Nat.le_refl _) _⟩
        · have e0 : (er != 0) = true := by rw [bne_iff_ne]; exact h0
          have HP := Box.mk (show R = (er, 0, ⟨#[]⟩, 0, []) by rw [HD4.out, if_neg h0])
          clear h0 HD4
          go_wp2_with (refine wpList_store_row rfl 39 _ _ rfl w.heap.size #[.int .i64 0, .string ⟨#[]⟩, .int .i64 0, .slice none 0 0, .slice none 0 0] rfl rfl 39 _ HR5.out sizeA rfl (oneAH _ _ _ _ _ _) ?_)
          (try simp only [Exit.inBlock, Exit.then])
          refine bodyPost_ret (results_row_tmpF rfl _ _ w.heap.size _ _ _ _ rfl (setRow_heap _ _ _ _ _ _ HR5.out) Tryz.underlying39 rfl sizeA) rfl ?_
          rw [HP.out]
          exact ⟨none, 0, rfl, FldsIn.nil _ _, below_setRow HB5.out (Nat.le_refl _) _⟩
      · have hlc2 : 1 ≤ lc := by omega
        go_wp2_with fail
        rw [← HW3.out]
        refine (refFieldsH_any ls (some ⟨g, 1, none⟩) (lc - 1) W3 HT3.out HZL.out hll).mono ?_
        rintro e w4 ⟨x, fa, fc, er, hx, rfl, hfx, hfr, hb4⟩
        obtain ⟨hs1, hs2, hs3⟩ := fieldsS_small hx HZL.out
        have HX := Box.mk hx
        have HD4 := Box.mk (show R = if er = 0 then (0, m, t, z, x) else (er, 0, ⟨#[]⟩, 0, []) by
          have h := HD3.out
          rw [hx] at h
          exact h)
        have HS1 := Box.mk hs1
        have HV4 := Box.mk (HV3.out.keep hb4)
        have HR4 := Box.mk (HR3.out.keep hb4)
        have HB4 := Box.mk (below_trans HB3.out hb4)
        have hf3 := HV4.out.frozen (i := 3)
        obtain ⟨hd2, hd3⟩ := HV4.out.cells
        have HV5 := Box.mk (HV4.out.put (u := .slice fa x.length fc))
        have HR5 := Box.mk (show AVarH (w4.setCell ⟨w2.heap.size, 3, none⟩ (.slice fa x.length fc)) w.heap.size 0 ⟨#[]⟩ 0 (.slice none 0 0) by
          unfold AVarH; rw [heap_setCell_other _ _ _ _ (by show w.heap.size ≠ w2.heap.size; omega)]; exact HR4.out)
        have HB5 := Box.mk (HB4.out.setCell (p := ⟨w2.heap.size, 3, none⟩) (show w.heap.size ≤ w2.heap.size from hlt) (.slice fa x.length fc))
        have hw3 : w2.heap.size < W3.heap.size := (Array.getElem?_eq_some_iff.1 HV3.out).1
        have HFR := Box.mk (show ∀ y, fa = some y → w2.heap.size < y.block from fun y hy => Nat.lt_of_lt_of_le hw3 (hfr y hy))
        have HX5 := Box.mk (show FldsIn (w4.setCell ⟨w2.heap.size, 3, none⟩ (.slice fa x.length fc)) fa x from hfx.same fun y hy => heap_setCell_other _ _ _ _ (by have := HFR.out y hy; show y.block ≠ w2.heap.size; omega))
        have HX0 := Box.mk hs3
        clear hx hfx hfr hb4 hs1 hs3 HD3 HV3 HR3 HB3 HW3 HT3
        by_cases h0 : er = 0
        · have e0 : (er != 0) = false := by rw [h0]; rfl
          have HP := Box.mk (show R = (0, m, t, z, x) by rw [HD4.out, if_pos h0])
          obtain ⟨c0, c1, c2, c3, c4⟩ := HV5.out.cells5
          clear h0 HD4 HX0
          go_wp2_with (refine wpList_store_row rfl 39 _ _ rfl w.heap.size #[.int .i64 m, .string t, .int .i64 z, .slice fa x.length fc, .slice none 0 0] rfl rfl 39 _ HR5.out sizeA rfl (oneAH _ _ _ _ _ _) ?_)
          (try simp only [Exit.inBlock, Exit.then])
          refine bodyPost_ret (results_row_tmpF rfl _ _ w.heap.size _ #[.int .i64 m, .string t, .int .i64 z, .slice fa x.length fc, .slice none 0 0] _ _ rfl (setRow_heap _ _ _ _ _ _ HR5.out) Tryz.underlying39 rfl sizeA) rfl ?_
          rw [HP.out]
          exact ⟨fa, fc, rfl, HX5.out.same fun y hy => setRow_other _ _ _ _ (by have := HFR.out y hy; omega), below_setRow HB5.out (Nat.le_refl _) _⟩
        · have e0 : (er != 0) = true := by rw [bne_iff_ne]; exact h0
          have HP := Box.mk (show R = (er, 0, ⟨#[]⟩, 0, []) by rw [HD4.out, if_neg h0])
          clear h0 HD4
          go_wp2_with (refine wpList_store_row rfl 39 _ _ rfl w.heap.size #[.int .i64 0, .string ⟨#[]⟩, .int .i64 0, .slice none 0 0, .slice none 0 0] rfl rfl 39 _ HR5.out sizeA rfl (oneAH _ _ _ _ _ _) ?_)
          (try simp only [Exit.inBlock, Exit.then])
          refine bodyPost_ret (results_row_tmpF rfl _ _ w.heap.size _ _ _ _ rfl (setRow_heap _ _ _ _ _ _ HR5.out) Tryz.underlying39 rfl sizeA) rfl ?_
          rw [HP.out]
          exact ⟨none, 0, rfl, FldsIn.nil _ _, below_setRow HB5.out (Nat.le_refl _) _⟩
end Go.Proofs.YtcdianojchmgpaaGreatDoor
