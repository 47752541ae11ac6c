/- Slices of fields in memory: read, appended to, opened among the arguments. Values, Has and Without, in the reference. Values, Without and Has of package field. Has of package field (a closure), Elements, SameFields. With: appends of whole slices of fields, slices.Grow and slices.Concat. slices.Concat, With of package field and of its reference, SameFields. Format, by the library's Builder and in the reference. Parse of package field: the index of a colon, strings.Cut. A region that draws its order, in phases: between its breaking operations the others come in whatever order. The source of numbers of the laws: Within, Next, Of. The fields that the laws make: Field, Fields, fields, name. Fields of the source; fields and name of the laws. fields, name and awake of the laws; Short. awake of the laws; the law FieldFormat. How much the values of a name hold together. The contracts of awake and of the laws of layer 1. The contract of the law AsciiList. Frames of messages: what is said of them; the reference's frame, OfRequest, OfReply, Persistent. OfRequest, OfReply and Persistent of package framing, and what they call. What package hop does to fields: mathematics. -/
import Derived.Test.YtnpbnaapbimjaaaGreatDoorPk1
import Derived.Test.YtnpbnaapbimjaaaGreatDoorRows
import Derived.WalkKit
import Derived.WalkSpells
import Derived.WalkLawsBesides
import Derived.BigQuiet
import Derived.Deep.QuietTactic
import Derived.Lib.Bytealg
import Derived.Lib.IndexLaws
import Derived.Lib.Hide
import Derived.Laws.IdiomStrings
import Derived.Lib.SlTrimSet
import Derived.Lib.IndexBytes
import Derived.Lib.Split
import Derived.Deep.AppendLies
import Derived.Shelf.SlGeneric
import Derived.Shelf.Strings.SlTrimAscii
import Derived.Shelf.Strings.SplitShaped
import Derived.Shelf.LaysM
import Derived.Shelf.Strings.BuilderK
import Derived.Shelf.Strconv.Itoa4
import Derived.Shelf.Strings.Builder2
import Derived.Shelf.SlLaysF0
import Derived.Shelf.SlLaysM
import Derived.Shelf.SlLaysN
import Derived.Ground.SlsfProg
import Derived.Ground.SlgmProg
import Derived.Ground.SlgnProg
import Derived.Test.YtnpbnaapbimjaaaGreatDoorProg
import Derived.Lib.SplitLaws
import Derived.WalkSmall
import Derived.ProofKit
import Derived.OpenShut
import Derived.Lib.Strings
import Derived.SliceStrings
import Derived.Deep.Quiet
import Derived.Tactics
import Derived.KernelRfl
import Derived.Below
import Derived.Laws.Bits64
import Derived.Lib.SlBytesConst
import Derived.Maps.AppendAt
import Derived.Laws.AppendOwnNone
import Derived.Great.BuildSlice
import Derived.Laws.Rows
import Derived.Laws.BitsAllLaws
import Derived.Laws.Shifts
import Derived.Maps.OwnOps
import Derived.Maps.OwnSet
import Derived.Deep.SlicePairs
import Derived.Lib.AppendZerosOnto
import Derived.Lib.AppendStr
import Derived.Laws.CopyOwn
import Derived.OwnWalk
import Derived.Laws.Strings3
import Derived.Laws.Concat
import Derived.Deep.RegionHeld3
import Derived.Lib.ItoaMem
import Derived.IntWalk
import Derived.Sort.Grow
import Derived.Lib.LaidTab
import Derived.LaidSub
namespace Go.Proofs.YtnpbnaapbimjaaaGreatDoor
open Go.ChangeShapes Go.WideShapes Go.ChangeAt Go.RowKit

abbrev Fld := ByteArray × ByteArray
/-- The cells of fields. -/
def cellsF (l : List Fld) : List Value := l.flatMap fun f => [.string f.1, .string f.2]
theorem cellsF_len (l : List Fld) : (cellsF l).length = l.length * 2 := by
  induction l with
  | nil => rfl
  | cons a t ih =>
    have : cellsF (a :: t) = .string a.1 :: .string a.2 :: cellsF t := rfl
    rw [this]; simp only [List.length_cons, ih]; omega
theorem cellsF_app (a b : List Fld) : cellsF (a ++ b) = cellsF a ++ cellsF b := by unfold cellsF; rw [List.flatMap_append]
theorem cellsF_get : ∀ (l : List Fld) (j : Nat) (hj : j < l.length), (cellsF l)[j * 2]? = some (.string l[j].1) ∧ (cellsF l)[j * 2 + 1]? = some (.string l[j].2)
  | a :: t, 0, _ => ⟨rfl, rfl⟩
  | a :: t, j + 1, hj => by
    have ih := cellsF_get t j (by simpa using hj)
    have e : cellsF (a :: t) = .string a.1 :: .string a.2 :: cellsF t := rfl
    rw [e, show (j + 1) * 2 = j * 2 + 1 + 1 by omega, show j * 2 + 1 + 1 + 1 = (j * 2 + 1) + 1 + 1 by omega]
    simpa using ih
theorem cell_next {w : World} {x : Addr} {i : Nat} {v : Value} (h : w.cell? (x.add (i + 1)) = some v) : w.cell? ⟨(x.add i).block, (x.add i).off + 1, none⟩ = some v := by
  rw [← Go.Deep.add_add] at h
  rw [← h]; rfl
/-- The slice at a holds the fields l. -/
def FldsIn (w : World) (a : Option Addr) (l : List Fld) : Prop :=
  ∀ j (hj : j < l.length), ∃ x, a = some x ∧ w.cell? (x.add (j * 2)) = some (.string l[j].1) ∧ w.cell? (x.add (j * 2 + 1)) = some (.string l[j].2)
theorem FldsIn.keep {w w' : World} {a : Option Addr} {l : List Fld} (h : FldsIn w a l) (hb : Below w.heap.size w w') : FldsIn w' a l := fun j hj => by
  obtain ⟨x, e, h1, h2⟩ := h j hj
  exact ⟨x, e, below_cell hb h1, below_cell hb h2⟩
theorem FldsIn.nil (w : World) (a : Option Addr) : FldsIn w a [] := fun _ hj => absurd hj (Nat.not_lt_zero _)
theorem FldsIn.take {w : World} {a : Option Addr} {l : List Fld} (h : FldsIn w a l) (k : Nat) : FldsIn w a (l.take k) := fun j hj => by
  have hj' : j < l.length := by rw [List.length_take] at hj; omega
  obtain ⟨x, e, h1, h2⟩ := h j hj'
  exact ⟨x, e, by rw [List.getElem_take]; exact h1, by rw [List.getElem_take]; exact h2⟩
theorem FldsIn.cells {w : World} {x : Addr} {l : List Fld} (h : FldsIn w (some x) l) : ∀ j u, (cellsF l)[j]? = some u → w.cell? (x.add j) = some u := fun j u hj => by
  have hlt : j < l.length * 2 := by rw [← cellsF_len]; exact (List.getElem?_eq_some_iff.1 hj).1
  have hk : j / 2 < l.length := by omega
  obtain ⟨y, e, h1, h2⟩ := h (j / 2) hk
  obtain rfl := Option.some.inj e
  obtain ⟨g1, g2⟩ := cellsF_get l (j / 2) hk
  rcases Nat.mod_two_eq_zero_or_one j with hm | hm
  · have : j / 2 * 2 = j := by omega
    rw [this] at h1 g1
    rw [hj] at g1; rw [h1, ← g1]
  · have : j / 2 * 2 + 1 = j := by omega
    rw [this] at h2 g2
    rw [hj] at g2; rw [h2, ← g2]
theorem FldsIn.of_cells {w : World} {x : Addr} {l : List Fld} (h : ∀ j u, (cellsF l)[j]? = some u → w.cell? (x.add j) = some u) : FldsIn w (some x) l := fun j hj =>
  ⟨x, rfl, h _ _ (cellsF_get l j hj).1, h _ _ (cellsF_get l j hj).2⟩

theorem run_loadF (w : World) (p : Addr) (n v : ByteArray) (h0 : w.cell? p = some (.string n)) (h1 : w.cell? (p.add 1) = some (.string v)) :
    (Instr.loadAt 34 (.pointer (some p))).run Tryz.prog w = .ok (.agg #[.string n, .string v]) w := by
  have hl : (loadCells p 2).run Tryz.prog w = .ok #[.string n, .string v] w :=
    run_loadCells_list (P := Tryz.prog) w p [.string n, .string v] (fun j u hj => by
      match j, hj with
      | 0, hj => simp at hj; subst hj; rw [show p.add 0 = p by unfold Addr.add; split <;> simp_all]; exact h0
      | 1, hj => simp at hj; subst hj; exact h1
      | j + 2, hj => simp at hj)
  have hagg : (isAgg 34).run Tryz.prog w = .ok true w := by
    unfold isAgg
    rw [Sem.run_bind, run_underlying Tryz.underlying34 w]; rfl
  have hs : ((Tryz.prog.info? 34).map (·.size)) = some 2 := by kernel_rfl
  cases hq : Tryz.prog.info? 34 with
  | none => rw [hq] at hs; cases hs
  | some i =>
    have hs' : i.size = 2 := by rw [hq] at hs; simpa using hs
    simp [Instr.loadAt, Instr.sureAddr, loadVar, Sem.run_bind, hagg, sizeOf, typeInfo, hq, hs', hl]
theorem FldsIn.load {w : World} {x : Addr} {l : List Fld} (h : FldsIn w (some x) l) {j : Nat} (hj : j < l.length) :
    (Instr.loadAt 34 (.pointer (some (x.add (j * 2))))).run Tryz.prog w = .ok (.agg #[.string l[j].1, .string l[j].2]) w := by
  obtain ⟨y, e, h1, h2⟩ := h j hj
  obtain rfl := Option.some.inj e
  exact run_loadF w _ _ _ h1 (by rw [Go.Deep.add_add]; exact h2)

theorem Tryz.info34 : (Tryz.prog.info? 34).map (fun i => (i.zero, i.size, i.bytes)) = some (some (.agg #[.string ⟨#[]⟩, .string ⟨#[]⟩]), 2, 32) := by kernel_rfl
/-- v is a slice of the call's own with the fields l; what was there before the call is as it was. -/
def AccF (w0 w : World) (v : Value) (l : List Fld) : Prop :=
  w.ownsRow w0.heap.size 34 2 v l.length (cellsF l) ∧ Below w0.heap.size w0 w
theorem AccF.start (w : World) : AccF w w (.slice none 0 0) [] := ⟨World.ownsRow_nil _ _ _ _, Below.refl _ _⟩
theorem AccF.size {w0 w : World} {v : Value} {l : List Fld} (h : AccF w0 w v l) : w0.heap.size ≤ w.heap.size := h.2.size
theorem AccF.keep {w0 w w' : World} {v : Value} {l : List Fld} (h : AccF w0 w v l) (hb : Below w.heap.size w w') : AccF w0 w' v l :=
  ⟨ownsRow_keep h.1 hb, h.2.trans (hb.mono h.2.size)⟩
theorem AccF.shape {w0 w : World} {v : Value} {l : List Fld} (h : AccF w0 w v l) : ∃ a cap, v = .slice a l.length cap ∧ FldsIn w a l := by
  obtain ⟨⟨h1, h2⟩, _⟩ := h
  rcases h2 with ⟨rfl, h2⟩ | ⟨g, cap, cur, rfl, hg, hc, hcap, hm, hsz, ht⟩
  · have : l = [] := List.eq_nil_of_length_eq_zero h2
    subst this
    exact ⟨none, 0, rfl, FldsIn.nil _ _⟩
  · refine ⟨_, cap, rfl, FldsIn.of_cells fun j u hj => ?_⟩
    have e := congrArg (fun x => x[j]?) ht
    have hlt : j < l.length * 2 := by rw [← cellsF_len]; exact (List.getElem?_eq_some_iff.1 hj).1
    rw [hj, List.getElem?_take_of_lt hlt] at e
    rw [Addr.add_lit]
    simp only [World.cell?, hc, Nat.zero_add]
    simpa using e

section
variable {ops : Array Oper} {rest : List Oper} {o : Oper} {act : Act} {Q : Exit → Act → World → Prop}
/-- APPEND of one field to a slice of the call's own. -/
theorem wpList_append_accf (w : World) (hgd : o.guard = none) (s x : Operand) (ho : o.op = .call { callee := .builtin .append, args := #[s, x], argTypes := #[23, 23] })
    {w0 : World} {v : Value} {l : List Fld} (hs : act.eval s = v) (h : AccF w0 w v l) {b c : Nat} (hx : act.eval x = .slice (some ⟨b, 0, none⟩) 1 c) {y : Fld} (hy : w.cell? ⟨b, 0, none⟩ = some (.string y.1)) (hy2 : w.cell? ⟨b, 1, none⟩ = some (.string y.2))
    (hn : l.length + 1 ≤ 4398046511104)
    (K : ∀ g cap w', AccF w0 w' (.slice (some ⟨g, 0, none⟩) (l.length + 1) cap) (l ++ [y]) →
      wpList Tryz.prog ops Q rest (act.put o.dst (.slice (some ⟨g, 0, none⟩) (l.length + 1) cap)) w') : wpList Tryz.prog ops Q (o :: rest) act w := by
  obtain ⟨i0, hi, hz0, hz1, hz2⟩ := info_parts Tryz.info34
  refine wpList_append_lies w hgd s x 23 ho w0.heap.size 34 i0 _ 2 32 Tryz.underlying23 hi hz0 hz1 hz2 rfl (by decide) v l.length (cellsF l) hs h.1 ⟨b, 0, none⟩ 1 c [.string y.1, .string y.2] hx rfl ?_ ?_ (by decide) (by unfold maxLen; omega) (by omega) h.2.size w.heap.size rfl ?_
  · intro j u hj
    match j, hj with
    | 0, hj => simp at hj; subst hj; rw [Addr.add_lit]; exact hy
    | 1, hj => simp at hj; subst hj; rw [Addr.add_lit]; exact hy2
    | j + 2, hj => simp at hj
  · intro u hu; simp at hu; rcases hu with rfl | rfl <;> rfl
  · intro g cap w' hown hgrow hg hlt
    refine K g cap w' ⟨?_, h.2.grown hgrow h.2.size fun k hk => ?_⟩
    · rw [List.length_append, cellsF_app]; exact hown
    · exact (World.ownsRow.lt h.1 k hk).1
end

/-- Strings that a program may hold. -/
def ShortF (l : List Fld) : Prop := ∀ f ∈ l, f.1.size ≤ maxLen ∧ f.2.size ≤ maxLen
theorem ShortF.take {l : List Fld} (h : ShortF l) (k : Nat) : ShortF (l.take k) := fun f hf => h f (List.mem_of_mem_take hf)
theorem bulk_mem {H : Type} {x : DataW H} : ∀ {l : List (DataW H)}, x ∈ l → Rows.uptoBulk x ≤ Rows.uptoBulkAll l
  | y :: r, h => by
    simp only [Rows.uptoBulkAll]
    rcases List.mem_cons.1 h with rfl | h
    · omega
    · have := bulk_mem h; omega
def strF : Value → ByteArray | .string s => s | _ => ⟨#[]⟩
theorem open_fields {H : Type} {enc : TypeId × Value → H} {W : World} {a : Option Addr} {len cap : Nat} {d : DataW H} {ps : List MemPlace} {base : Nat}
    (h : DataW.Trod enc Tryz.prog W base (fun _ => true) true 23 (.slice a len cap) d ps) :
    ∃ l : List Fld, len = l.length ∧ FldsIn W a l ∧ l.length ≤ cap ∧ cap ≤ maxLen ∧ ShortF l ∧ ∀ f ∈ l, f.1.size ≤ Rows.uptoBulk d ∧ f.2.size ≤ Rows.uptoBulk d := by
  obtain ⟨fuel, hf⟩ := h
  rcases Go.Deep.open_slice_pairs Tryz.underlying23 Tryz.underlying34 (by kernel_rfl) (by kernel_rfl) (by kernel_rfl) (by kernel_rfl) (by kernel_rfl) hf with ⟨hcs, _⟩ | ⟨x, n, c, m, k, V0, V1, D0, D1, P0, P1, hcs, _, hl, hm, hmm, hx, hi⟩
  · simp [Value.cells] at hcs
    obtain ⟨rfl, rfl, rfl⟩ := hcs
    exact ⟨[], rfl, FldsIn.nil _ _, Nat.le_refl _, Nat.zero_le _, (fun f hf => by cases hf), (fun f hf => by cases hf)⟩
  · simp [Value.cells] at hcs
    obtain ⟨rfl, rfl, rfl⟩ := hcs
    have hlm : len ≤ m := by rw [hmm]; split <;> omega
    have each : ∀ i, i < m → ∃ s t : ByteArray, V0 i = .string s ∧ V1 i = .string t ∧ s.size ≤ maxLen ∧ t.size ≤ maxLen ∧ D0 i = .lit (.string s.data.toList) ∧ D1 i = .lit (.string t.data.toList) := fun i him => by
      obtain ⟨_, _, h3, h4⟩ := hi i him
      obtain ⟨s, e1, e2, e3⟩ := DataW.trod_string Tryz.underlying9 h3
      obtain ⟨t, f1, f2, f3⟩ := DataW.trod_string Tryz.underlying9 h4
      injection e1 with e1; injection f1 with f1
      exact ⟨s, t, e1, f1, e3, f3, congrArg Prod.fst e2, congrArg Prod.fst f2⟩
    have hlen : ((List.range len).map fun i => ((strF (V0 i), strF (V1 i)) : Fld)).length = len := by simp
    have hd : d = .slice ((List.range len).map fun i => .agg [D0 i, D1 i]) ((List.range (m - len)).map fun j => .agg [D0 (len + j), D1 (len + j)]) := congrArg Prod.fst hx
    refine ⟨(List.range len).map fun i => (strF (V0 i), strF (V1 i)), hlen.symm, fun j hj => ?_, by rw [hlen]; exact hl, hm, fun f hf => ?_, fun f hf => ?_⟩
    · rw [hlen] at hj
      obtain ⟨h1, h2, _⟩ := hi j (by omega)
      obtain ⟨s, t, e1, e2, _⟩ := each j (by omega)
      refine ⟨x, rfl, ?_, ?_⟩
      · rw [h1, e1]; simp [strF, e1]
      · rw [h2, e2]; simp [strF, e2]
    · obtain ⟨i, hi', rfl⟩ := List.mem_map.1 hf
      obtain ⟨s, t, e1, e2, e3, e4, _⟩ := each i (by have := List.mem_range.1 hi'; omega)
      rw [e1, e2]; exact ⟨e3, e4⟩
    · obtain ⟨i, hi', rfl⟩ := List.mem_map.1 hf
      obtain ⟨s, t, e1, e2, e3, e4, e5, e6⟩ := each i (by have := List.mem_range.1 hi'; omega)
      have hb := bulk_mem (x := (.agg [D0 i, D1 i] : DataW H)) (l := (List.range len).map fun i => .agg [D0 i, D1 i]) (List.mem_map.2 ⟨i, hi', rfl⟩)
      rw [e5, e6] at hb
      simp only [Rows.uptoBulk, Rows.uptoBulkAll] at hb
      have g1 : s.data.toList.length = s.size := by rw [Array.length_toList]; rfl
      have g2 : t.data.toList.length = t.size := by rw [Array.length_toList]; rfl
      rw [e1, e2, hd]
      simp only [strF, Rows.uptoBulk]
      omega
end Go.Proofs.YtnpbnaapbimjaaaGreatDoor
namespace Go.Proofs.YtnpbnaapbimjaaaGreatDoor
open Go.RowKit

def valuesL (l : List Fld) (n : ByteArray) : List ByteArray := (l.filter fun f => foldS f.1 n).map (·.2)
theorem valuesL_yes (l : List Fld) (n : ByteArray) (k : Nat) (h : k < l.length) (hf : foldS l[k].1 n = true) : valuesL (l.take (k + 1)) n = valuesL (l.take k) n ++ [l[k].2] := by
  unfold valuesL
  rw [List.take_succ_eq_append_getElem h, List.filter_append, List.map_append]; simp [hf]
theorem valuesL_no (l : List Fld) (n : ByteArray) (k : Nat) (h : k < l.length) (hf : foldS l[k].1 n = false) : valuesL (l.take (k + 1)) n = valuesL (l.take k) n := by
  unfold valuesL
  rw [List.take_succ_eq_append_getElem h, List.filter_append, List.map_append]; simp [hf]
theorem valuesL_len (l : List Fld) (n : ByteArray) : (valuesL l n).length ≤ l.length := by
  unfold valuesL; rw [List.length_map]; exact List.length_filter_le _ _
set_option maxRecDepth 100000 in
set_option maxHeartbeats 1000000 in
theorem refValues_any (l : List Fld) (n : ByteArray) (a : Option Addr) (cap : Nat) (w : World) (h : FldsIn w a l) (hz : ShortF l) (hn : n.size ≤ maxLen) (hl : l.length ≤ 1000000) :
    Calls Tryz.prog 24 #[.slice a l.length cap, .string n] w (RetStrs w (valuesL l n)) := by
  have H0 := Box.mk h
  have HZ := Box.mk hz
  clear h hz
  go_enter Tryz.func24, Tryz.ntmps24
  go_wp2_with fail
  go_loopw [5, 6] (fun v iv wr => ∃ k : Nat, k ≤ l.length ∧ iv = .int .i64 k ∧ Box (Acc w wr v (valuesL (l.take k) n))) (fun _ iv _ => l.length - (intOf iv).toNat)
  case atStart => exact ⟨0, Nat.zero_le _, rfl, ⟨Acc.start w⟩⟩
  case round =>
    obtain ⟨k, hk, rfl, HM⟩ := hrel
    by_cases hlt : k < l.length
    · obtain ⟨x, rfl, hx1, hx2⟩ := (H0.out.keep HM.out.2) k hlt
      have HSZ := Box.mk (HZ.out _ (List.getElem_mem hlt))
      have hVL := valuesL_len (l.take k) n
      have hVL2 : (l.take k).length ≤ k := List.length_take_le _ _
      by_cases hf : foldS l[k].1 n = true
      · have HT := Box.mk (valuesL_yes l n k hlt hf)
        have HC2 := Box.mk hx2
        generalize l[k] = f at *
        go_wp2_with fail
        refine (refFold_any f.1 n _ HSZ.out.1 hn).mono ?_
        rintro e w1 ⟨rfl, hb1⟩
        have hc2 := cell_next (below_cell hb1 HC2.out)
        have HM1 := Box.mk (HM.out.keep hb1)
        clear hb1 hx2
        go_wp2_with (at_builtin; refine wpList_append_acc _ rfl _ _ rfl rfl (HM1.out.keep ((Below.refl _ _).alloc (Nat.le_refl _) _)) rfl (y := f.2) ?c1 ?c2 ?c3)
        case c1 => simp
        case c2 => omega
        case c3 =>
          intro g cap' w' hacc _
          have HACC := Box.mk (show Acc w w' (.slice (some ⟨g, 0, none⟩) ((valuesL (l.take k) n).length + 1) cap') (valuesL (l.take (k + 1)) n) by rw [HT.out]; exact hacc)
          clear hacc HM1 HT
          go_wp2_with fail
          go_roundw
          case rel => exact ⟨k + 1, by omega, by go_num, HACC⟩
          case measure => simp [intOf]; omega
      · have hf' : foldS l[k].1 n = false := by simpa using hf
        have HT := Box.mk (valuesL_no l n k hlt hf')
        clear hf
        generalize l[k] = f at *
        go_wp2_with fail
        refine (refFold_any f.1 n _ HSZ.out.1 hn).mono ?_
        rintro e w1 ⟨rfl, hb1⟩
        have HM1 := Box.mk (show Acc w w1 _ (valuesL (l.take (k + 1)) n) by rw [HT.out]; exact HM.out.keep hb1)
        clear hb1
        go_wp2_with fail
        go_roundw
        case rel => exact ⟨k + 1, by omega, by go_num, HM1⟩
        case measure => simp [intOf]; omega
    · have HE := Box.mk (show Acc w wr _ (valuesL l n) by have := HM.out; rw [List.take_of_length_le (by omega)] at this; exact this)
      go_wp2_with fail
      obtain ⟨a', cap', rfl, hs⟩ := HE.out.shape
      go_ret
      exact ⟨a', cap', rfl, hs, HE.out.2⟩

def inFoldL (l : List ByteArray) (s : ByteArray) : Bool := l.any fun x => foldS x s
theorem inFoldL_no {l : List ByteArray} {s : ByteArray} {k : Nat} (h1 : k ≤ l.length) (h2 : ¬ k < l.length) (h : ∀ x ∈ l.take k, foldS x s = false) : inFoldL l s = false := by
  unfold inFoldL
  rw [List.take_of_length_le (by omega)] at h
  rw [List.any_eq_false]
  intro x hx
  rw [h x hx]; simp
set_option maxRecDepth 100000 in
set_option maxHeartbeats 1000000 in
theorem inFold_big (l : List ByteArray) (s : ByteArray) (a : Option Addr) (cap : Nat) (w : World) (h : StrsIn w a l) (hz : ∀ x ∈ l, x.size ≤ maxLen) (hs : s.size ≤ maxLen) (hl : l.length ≤ 4000000000) :
    Calls Tryz.prog 38 #[.slice a l.length cap, .string s] w fun e w' => e = .returned (.bool (inFoldL l s)) ∧ Below w.heap.size w w' := by
  have H0 := Box.mk h
  have HZ := Box.mk hz
  clear h hz
  go_enter Tryz.func38, Tryz.ntmps38
  go_wp2_with fail
  go_loopw [5] (fun iv wr => ∃ k : Nat, k ≤ l.length ∧ iv = .int .i64 k ∧ Box (Below w.heap.size w wr ∧ ∀ x ∈ l.take k, foldS x s = false)) (fun iv _ => l.length - (intOf iv).toNat)
  case atStart => exact ⟨0, Nat.zero_le _, rfl, ⟨Below.refl _ _, by simp⟩⟩
  case round =>
    obtain ⟨k, hk, rfl, HM⟩ := hrel
    by_cases hlt : k < l.length
    · obtain ⟨x, rfl, hx⟩ := (H0.out.keep HM.out.1) k hlt
      have HSZ := Box.mk (HZ.out _ (List.getElem_mem hlt))
      by_cases hf : foldS l[k] s = true
      · have HT := Box.mk (show inFoldL l s = true by unfold inFoldL; exact List.any_eq_true.2 ⟨_, List.getElem_mem hlt, hf⟩)
        generalize l[k] = f at *
        go_wp2_with fail
        refine (refFold_any f s _ HSZ.out hs).mono ?_
        rintro e w1 ⟨rfl, hb1⟩
        have HB1 := Box.mk (below_trans HM.out.1 hb1)
        clear hb1
        go_wp2_with fail
        go_ret
        exact ⟨ret_bool HT.out.symm, HB1.out⟩
      · have hf' : foldS l[k] s = false := by simpa using hf
        have HT := Box.mk (show ∀ x ∈ l.take (k + 1), foldS x s = false by
          rw [List.take_succ_eq_append_getElem hlt]
          intro x hx
          rcases List.mem_append.1 hx with h | h
          · exact HM.out.2 x h
          · simp at h; rw [h]; exact hf')
        clear hf
        generalize l[k] = f at *
        go_wp2_with fail
        refine (refFold_any f s _ HSZ.out hs).mono ?_
        rintro e w1 ⟨rfl, hb1⟩
        have HM1 := Box.mk (And.intro (below_trans HM.out.1 hb1) HT.out)
        clear hb1 HT
        go_wp2_with fail
        go_roundw
        case rel => exact ⟨k + 1, by omega, by go_num, HM1⟩
        case measure => simp [intOf]; omega
    · have HE := Box.mk (inFoldL_no hk hlt HM.out.2)
      go_wp2_with fail
      go_ret
      exact ⟨ret_bool HE.out.symm, HM.out.1⟩

def withoutL (l : List Fld) (ns : List ByteArray) : List Fld := l.filter fun f => !inFoldL ns f.1
theorem withoutL_yes (l : List Fld) (ns : List ByteArray) (k : Nat) (h : k < l.length) (hf : inFoldL ns l[k].1 = false) : withoutL (l.take (k + 1)) ns = withoutL (l.take k) ns ++ [l[k]] := by
  unfold withoutL
  rw [List.take_succ_eq_append_getElem h, List.filter_append]; simp [hf]
theorem withoutL_no (l : List Fld) (ns : List ByteArray) (k : Nat) (h : k < l.length) (hf : inFoldL ns l[k].1 = true) : withoutL (l.take (k + 1)) ns = withoutL (l.take k) ns := by
  unfold withoutL
  rw [List.take_succ_eq_append_getElem h, List.filter_append]; simp [hf]
theorem withoutL_len (l : List Fld) (ns : List ByteArray) : (withoutL l ns).length ≤ l.length := by
  unfold withoutL; exact List.length_filter_le _ _
theorem withoutL_short {l : List Fld} (h : ShortF l) (ns : List ByteArray) : ShortF (withoutL l ns) := fun f hf => h f (List.mem_filter.1 hf).1
/-- The same, of the call's own. -/
def RetAccF (w : World) (l : List Fld) (e : Ending) (w' : World) : Prop := ∃ v, e = .returned v ∧ AccF w w' v l
theorem AccF.lift {w w1 w2 : World} {v : Value} {l : List Fld} (h : Below w.heap.size w w1) (k : AccF w1 w2 v l) : AccF w w2 v l := by
  refine ⟨?_, below_trans h k.2⟩
  obtain ⟨⟨h1, h2⟩, _⟩ := k
  refine ⟨h1, ?_⟩
  rcases h2 with h2 | ⟨g, cap, cur, hv, hg, r⟩
  · exact .inl h2
  · exact .inr ⟨g, cap, cur, hv, Nat.le_trans h.size hg, r⟩
set_option maxRecDepth 100000 in
set_option maxHeartbeats 1000000 in
theorem refWithout_acc (l : List Fld) (ns : List ByteArray) (a b : Option Addr) (cap cb : Nat) (w : World) (h : FldsIn w a l) (hz : ShortF l) (hn : StrsIn w b ns) (hnz : ∀ x ∈ ns, x.size ≤ maxLen) (hl : l.length ≤ 1000000) (hnl : ns.length ≤ 4000000000) :
    Calls Tryz.prog 20 #[.slice a l.length cap, .slice b ns.length cb] w (RetAccF w (withoutL l ns)) := by
  have H0 := Box.mk h
  have HZ := Box.mk hz
  have HN := Box.mk hn
  have HNZ := Box.mk hnz
  clear h hz hn hnz
  go_enter Tryz.func20, Tryz.ntmps20
  go_wp2_with fail
  go_loopw [5, 6] (fun v iv wr => ∃ k : Nat, k ≤ l.length ∧ iv = .int .i64 k ∧ Box (AccF w wr v (withoutL (l.take k) ns))) (fun _ iv _ => l.length - (intOf iv).toNat)
  case atStart => exact ⟨0, Nat.zero_le _, rfl, ⟨AccF.start w⟩⟩
  case round =>
    obtain ⟨k, hk, rfl, HM⟩ := hrel
    by_cases hlt : k < l.length
    · obtain ⟨x, rfl, hx1, hx2⟩ := (H0.out.keep HM.out.2) k hlt
      have HSZ := Box.mk (HZ.out _ (List.getElem_mem hlt))
      have hVL := withoutL_len (l.take k) ns
      have hVL2 : (l.take k).length ≤ k := List.length_take_le _ _
      have HN1 := Box.mk (HN.out.keep HM.out.2)
      by_cases hf : inFoldL ns l[k].1 = true
      · have HT := Box.mk (withoutL_no l ns k hlt hf)
        clear hx2
        generalize l[k] = f at *
        go_wp2_with fail
        refine (inFold_big ns f.1 b cb _ HN1.out HNZ.out HSZ.out.1 hnl).mono ?_
        rintro e w1 ⟨rfl, hb1⟩
        have HM1 := Box.mk (show AccF w w1 _ (withoutL (l.take (k + 1)) ns) by rw [HT.out]; exact HM.out.keep hb1)
        clear hb1
        go_wp2_with fail
        go_roundw
        case rel => exact ⟨k + 1, by omega, by go_num, HM1⟩
        case measure => simp [intOf]; omega
      · have hf' : inFoldL ns l[k].1 = false := by simpa using hf
        have HT := Box.mk (withoutL_yes l ns k hlt hf')
        have HC1 := Box.mk hx1
        have HC2 := Box.mk hx2
        clear hf hx2
        generalize l[k] = f at *
        go_wp2_with fail
        refine (inFold_big ns f.1 b cb _ HN1.out HNZ.out HSZ.out.1 hnl).mono ?_
        rintro e w1 ⟨rfl, hb1⟩
        have hc1 := below_cell hb1 HC1.out
        have hc2 := cell_next (below_cell hb1 HC2.out)
        clear hx1
        have HM1 := Box.mk (HM.out.keep hb1)
        clear hb1
        go_wp2_with (at_builtin; refine wpList_append_accf _ rfl _ _ rfl rfl (HM1.out.keep ((Below.refl _ _).alloc (Nat.le_refl _) _)) rfl (y := f) ?c1 ?c2 ?c3 ?c4)
        case c1 => simp
        case c2 => simp
        case c3 => omega
        case c4 =>
          intro g cap' w' hacc
          have HACC := Box.mk (show AccF w w' (.slice (some ⟨g, 0, none⟩) ((withoutL (l.take k) ns).length + 1) cap') (withoutL (l.take (k + 1)) ns) by rw [HT.out]; exact hacc)
          clear hacc HM1 HT
          go_wp2_with fail
          go_roundw
          case rel => exact ⟨k + 1, by omega, by go_num, HACC⟩
          case measure => simp [intOf]; omega
    · have HE := Box.mk (show AccF w wr _ (withoutL l ns) by have := HM.out; rw [List.take_of_length_le (by omega)] at this; exact this)
      go_wp2_with fail
      go_ret
      exact ⟨_, rfl, HE.out⟩
end Go.Proofs.YtnpbnaapbimjaaaGreatDoor
namespace Go.Proofs.YtnpbnaapbimjaaaGreatDoor
open Go.RowKit

theorem inS_map (s : ByteArray) (ns : List ByteArray) : inS (lowS s) (ns.map lowS) = inFoldL ns s := by
  unfold inS inFoldL foldS
  rw [List.any_map]; rfl
theorem inS_one (s n : ByteArray) : inS (lowS s) ([n].map lowS) = foldS s n := by
  rw [inS_map]
  unfold inFoldL foldS
  simp only [List.any_cons, List.any_nil, Bool.or_false]
  exact Bool.beq_comm
theorem new_cellF (w : World) (cs : Array Value) (t : TypeId) (j : Nat) : (w.alloc (.cells cs t (0, 0))).cell? ⟨w.heap.size, j, none⟩ = cs[j]? :=
  cell_of_row _ _ _ _ _ _ (heap_alloc_new w (.cells cs t (0, 0)))
theorem strsIn_one (w : World) (n : ByteArray) (t : TypeId) : StrsIn (w.alloc (.cells #[.string n] t)) (some ⟨w.heap.size, 0, none⟩) [n] := fun j hj => by
  obtain rfl : j = 0 := by simpa using hj
  exact ⟨_, rfl, by rw [Addr.add_lit, new_cellF]; rfl⟩
theorem below_twoF {w w1 : World} (h : Below w.heap.size w w1) (o : Obj) : Below w.heap.size w (w1.alloc o) := below_trans h (below_oneF w1 o)

theorem SetIn.grown {w w' : World} {b n : Nat} {S : List ByteArray} {row : Option Nat} (h : SetIn w b n S) (hg : w.grownBy w' row) (hne : row ≠ some b) : SetIn w' b n S := by
  obtain ⟨D, h1, h2⟩ := h
  exact ⟨D, h1.kept hg (fun e => hne e.symm), h2⟩
section
variable {ops : Array Oper} {rest : List Oper} {o : Oper} {act : Act} {Q : Exit → Act → World → Prop}
/-- APPEND of one string beside a set. -/
theorem wpList_append_accset (w : World) (hgd : o.guard = none) (s x : Operand) (ho : o.op = .call { callee := .builtin .append, args := #[s, x], argTypes := #[24, 24] })
    {w0 : World} {v : Value} {l : List ByteArray} (hs : act.eval s = v) (h : Acc w0 w v l) {b c : Nat} (hx : act.eval x = .slice (some ⟨b, 0, none⟩) 1 c) {y : ByteArray} (hy : w.cell? ⟨b, 0, none⟩ = some (.string y))
    {q m : Nat} {S : List ByteArray} (hS : SetIn w q m S) (hne : v.ownBlock ≠ some q) (hn : l.length + 1 ≤ 8796093022208)
    (K : ∀ v' w', Acc w0 w' v' (l ++ [y]) → SetIn w' q m S → v'.ownBlock ≠ some q → wpList Tryz.prog ops Q rest (act.put o.dst v') w') : wpList Tryz.prog ops Q (o :: rest) act w := by
  obtain ⟨i0, hi, hz0, hz1, hz2⟩ := info_parts Tryz.info9
  refine wpList_append_lies w hgd s x 24 ho w0.heap.size 9 i0 (.string ⟨#[]⟩) 1 16 Tryz.underlying24 hi hz0 hz1 hz2 rfl (by decide) v l.length (l.map Value.string) hs h.1 ⟨b, 0, none⟩ 1 c [.string y] hx rfl ?_ ?_ (by decide) (by unfold maxLen; omega) (by omega) h.2.size w.heap.size rfl ?_
  · intro j u hj
    match j, hj with
    | 0, hj => simp at hj; subst hj; rw [Addr.add_lit]; exact hy
    | j + 1, hj => simp at hj
  · intro u hu; simp at hu; subst hu; rfl
  · intro g cap w' hown hgrow hg hlt
    refine K _ w' ⟨by simpa using hown, h.2.grown hgrow h.2.size fun k hk => (World.ownsRow.lt h.1 k hk).1⟩ (hS.grown hgrow hne) (fun e => ?_)
    have : g = q := by simpa [Value.ownBlock] using e
    subst this
    rcases hg with hg | hg
    · exact hne hg
    · have := hS.lt; omega
/-- APPEND of one field beside a set. -/
theorem wpList_append_accfset (w : World) (hgd : o.guard = none) (s x : Operand) (ho : o.op = .call { callee := .builtin .append, args := #[s, x], argTypes := #[23, 23] })
    {w0 : World} {v : Value} {l : List Fld} (hs : act.eval s = v) (h : AccF w0 w v l) {b c : Nat} (hx : act.eval x = .slice (some ⟨b, 0, none⟩) 1 c) {y : Fld} (hy : w.cell? ⟨b, 0, none⟩ = some (.string y.1)) (hy2 : w.cell? ⟨b, 1, none⟩ = some (.string y.2))
    {q m : Nat} {S : List ByteArray} (hS : SetIn w q m S) (hne : v.ownBlock ≠ some q) (hn : l.length + 1 ≤ 4398046511104)
    (K : ∀ v' w', AccF w0 w' v' (l ++ [y]) → SetIn w' q m S → v'.ownBlock ≠ some q → wpList Tryz.prog ops Q rest (act.put o.dst v') w') : wpList Tryz.prog ops Q (o :: rest) act w := by
  obtain ⟨i0, hi, hz0, hz1, hz2⟩ := info_parts Tryz.info34
  refine wpList_append_lies w hgd s x 23 ho w0.heap.size 34 i0 _ 2 32 Tryz.underlying23 hi hz0 hz1 hz2 rfl (by decide) v l.length (cellsF l) hs h.1 ⟨b, 0, none⟩ 1 c [.string y.1, .string y.2] hx rfl ?_ ?_ (by decide) (by unfold maxLen; omega) (by omega) h.2.size w.heap.size rfl ?_
  · intro j u hj
    match j, hj with
    | 0, hj => simp at hj; subst hj; rw [Addr.add_lit]; exact hy
    | 1, hj => simp at hj; subst hj; rw [Addr.add_lit]; exact hy2
    | j + 2, hj => simp at hj
  · intro u hu; simp at hu; rcases hu with rfl | rfl <;> rfl
  · intro g cap w' hown hgrow hg hlt
    refine K _ w' ⟨by rw [List.length_append, cellsF_app]; exact hown, h.2.grown hgrow h.2.size fun k hk => (World.ownsRow.lt h.1 k hk).1⟩ (hS.grown hgrow hne) (fun e => ?_)
    have : g = q := by simpa [Value.ownBlock] using e
    subst this
    rcases hg with hg | hg
    · exact hne hg
    · have := hS.lt; omega
end
theorem one_short (n : ByteArray) : ([n] : List ByteArray).length ≤ 140737488355328 := by show 1 ≤ 140737488355328; decide

set_option maxRecDepth 100000 in
set_option maxHeartbeats 2000000 in
theorem fValues_any (l : List Fld) (n : ByteArray) (a : Option Addr) (cap : Nat) (w : World) (h : FldsIn w a l) (hz : ShortF l) (hn : n.size ≤ maxLen) (hl : l.length ≤ 1000000) :
    Calls Tryz.prog 89 #[.slice a l.length cap, .string n] w (RetStrs w (valuesL l n)) := by
  have H0 := Box.mk h
  have HZ := Box.mk hz
  clear h hz
  go_enter Tryz.func89, Tryz.ntmps89
  go_wp2_with fail
  refine (setOf_any [n] _ _ _ (strsIn_one w n _) (by simpa using hn) (one_short n)).mono ?_
  rintro e w1 ⟨b, m, rfl, hS, hb⟩
  have HS := Box.mk hS
  have HB := Box.mk (below_trans (below_oneF w (.cells #[.string n] 9)) hb)
  clear hS hb
  have HA0 := Box.mk (show Acc w w1 (.slice none 0 0) (valuesL (l.take 0) n) from ⟨World.ownsRow_nil _ _ _ _, HB.out⟩)
  go_wp2_with fail
  go_loopw [5, 14] (fun v iv wr => ∃ k : Nat, k ≤ l.length ∧ iv = .int .i64 k ∧ Box (Acc w wr v (valuesL (l.take k) n) ∧ SetIn wr b m ([n].map lowS) ∧ v.ownBlock ≠ some b)) (fun _ iv _ => l.length - (intOf iv).toNat)
  case atStart => exact ⟨0, Nat.zero_le _, rfl, ⟨HA0.out, HS.out, by simp [Value.ownBlock]⟩⟩
  case round =>
    clear HS HB HA0
    obtain ⟨k, hk, rfl, HM⟩ := hrel
    by_cases hlt : k < l.length
    · obtain ⟨x, rfl, hx1, hx2⟩ := (H0.out.keep HM.out.1.2) k hlt
      have hx2 := cell_next hx2
      have HSZ := Box.mk (HZ.out _ (List.getElem_mem hlt))
      have hVL := valuesL_len (l.take k) n
      have hVL2 : (l.take k).length ≤ k := List.length_take_le _ _
      by_cases hf : foldS l[k].1 n = true
      · have HT := Box.mk (valuesL_yes l n k hlt hf)
        have HIN := Box.mk (show inS (lowS l[k].1) ([n].map lowS) = true by rw [inS_one]; exact hf)
        clear hf
        generalize l[k] = f at *
        go_wp2_with fail
        refine (hdrIn_any f.1 f.2 b m _ _ (HM.out.2.1.keep (below_oneF wr (.cells #[.string f.1, .string f.2] 34))) HSZ.out.1).mono ?_
        rintro e w2 ⟨he, hb1⟩
        rw [HIN.out] at he
        subst he
        have hc2 : w2.cell? ⟨wr.heap.size, 1, none⟩ = some (.string f.2) := below_cell hb1 (by rw [new_cellF]; rfl)
        have HB2 := Box.mk (below_trans (below_oneF wr (.cells #[.string f.1, .string f.2] 34)) hb1)
        have HA2 := Box.mk (HM.out.1.keep HB2.out)
        have HS2 := Box.mk (HM.out.2.1.keep HB2.out)
        clear hb1 HIN
        go_wp2_with (at_builtin; refine wpList_append_accset _ rfl _ _ rfl rfl (HA2.out.keep ((Below.refl _ _).alloc (Nat.le_refl _) _)) rfl (y := f.2) ?c1 (HS2.out.keep ((Below.refl _ _).alloc (Nat.le_refl _) _)) HM.out.2.2 ?c2 ?c3)
        case c1 => simp
        case c2 => omega
        case c3 =>
          intro v' w' hacc hs' hne
          have HACC := Box.mk (show Acc w w' v' (valuesL (l.take (k + 1)) n) ∧ SetIn w' b m ([n].map lowS) ∧ v'.ownBlock ≠ some b by rw [HT.out]; exact ⟨hacc, hs', hne⟩)
          clear hacc hs' hne HT HA2 HS2 HB2 HM
          go_wp2_with fail
          go_roundw
          case rel => exact ⟨k + 1, by omega, by go_num, HACC⟩
          case measure => simp [intOf]; omega
      · have hf' : foldS l[k].1 n = false := by simpa using hf
        have HT := Box.mk (valuesL_no l n k hlt hf')
        have HIN := Box.mk (show inS (lowS l[k].1) ([n].map lowS) = false by rw [inS_one]; exact hf')
        clear hf hf'
        generalize l[k] = f at *
        go_wp2_with fail
        refine (hdrIn_any f.1 f.2 b m _ _ (HM.out.2.1.keep (below_oneF wr (.cells #[.string f.1, .string f.2] 34))) HSZ.out.1).mono ?_
        rintro e w2 ⟨he, hb1⟩
        rw [HIN.out] at he
        subst he
        have HB2 := Box.mk (below_trans (below_oneF wr (.cells #[.string f.1, .string f.2] 34)) hb1)
        have HM2 := Box.mk (show Acc w w2 _ (valuesL (l.take (k + 1)) n) ∧ SetIn w2 b m ([n].map lowS) ∧ _ by rw [HT.out]; exact ⟨HM.out.1.keep HB2.out, HM.out.2.1.keep HB2.out, HM.out.2.2⟩)
        clear hb1 HIN HT HB2
        go_wp2_with fail
        go_roundw
        case rel => exact ⟨k + 1, by omega, by go_num, HM2⟩
        case measure => simp [intOf]; omega
    · have HE := Box.mk (show Acc w wr _ (valuesL l n) by have := HM.out.1; rw [List.take_of_length_le (by omega)] at this; exact this)
      go_wp2_with fail
      obtain ⟨a', cap', rfl, hs⟩ := HE.out.shape
      go_ret
      exact ⟨a', cap', rfl, hs, HE.out.2⟩

set_option maxRecDepth 100000 in
set_option maxHeartbeats 2000000 in
theorem fWithout_acc (l : List Fld) (ns : List ByteArray) (a d : Option Addr) (cap cd : Nat) (w : World) (h : FldsIn w a l) (hz : ShortF l) (hn : StrsIn w d ns) (hnz : ∀ x ∈ ns, x.size ≤ maxLen) (hl : l.length ≤ 1000000) (hnl : ns.length ≤ 4000000000) :
    Calls Tryz.prog 30 #[.slice a l.length cap, .slice d ns.length cd] w (RetAccF w (withoutL l ns)) := by
  have H0 := Box.mk h
  have HZ := Box.mk hz
  have HN := Box.mk hn
  have HNZ := Box.mk hnz
  clear h hz hn hnz
  go_enter Tryz.func30, Tryz.ntmps30
  go_wp2_with fail
  refine (setOf_any ns _ _ _ HN.out HNZ.out (by omega)).mono ?_
  rintro e w1 ⟨b, m, rfl, hS, hb⟩
  have HS := Box.mk hS
  have HB := Box.mk hb
  clear hS hb
  have HA0 := Box.mk (show AccF w w1 (.slice none 0 0) (withoutL (l.take 0) ns) from ⟨World.ownsRow_nil _ _ _ _, HB.out⟩)
  go_wp2_with fail
  go_loopw [5, 13] (fun v iv wr => ∃ k : Nat, k ≤ l.length ∧ iv = .int .i64 k ∧ Box (AccF w wr v (withoutL (l.take k) ns) ∧ SetIn wr b m (ns.map lowS) ∧ v.ownBlock ≠ some b)) (fun _ iv _ => l.length - (intOf iv).toNat)
  case atStart => exact ⟨0, Nat.zero_le _, rfl, ⟨HA0.out, HS.out, by simp [Value.ownBlock]⟩⟩
  case round =>
    clear HS HB HA0
    obtain ⟨k, hk, rfl, HM⟩ := hrel
    by_cases hlt : k < l.length
    · obtain ⟨x, rfl, hx1, hx2⟩ := (H0.out.keep HM.out.1.2) k hlt
      have hx2 := cell_next hx2
      have HSZ := Box.mk (HZ.out _ (List.getElem_mem hlt))
      have hVL := withoutL_len (l.take k) ns
      have hVL2 : (l.take k).length ≤ k := List.length_take_le _ _
      by_cases hf' : inFoldL ns l[k].1 = false
      · have HT := Box.mk (withoutL_yes l ns k hlt hf')
        have HIN := Box.mk (show inS (lowS l[k].1) (ns.map lowS) = false by rw [inS_map]; exact hf')
        clear hf'
        generalize l[k] = f at *
        go_wp2_with fail
        refine (hdrIn_any f.1 f.2 b m _ _ (HM.out.2.1.keep (below_oneF wr (.cells #[.string f.1, .string f.2] 34))) HSZ.out.1).mono ?_
        rintro e w2 ⟨he, hb1⟩
        rw [HIN.out] at he
        subst he
        have hc1 : w2.cell? ⟨wr.heap.size, 0, none⟩ = some (.string f.1) := below_cell hb1 (by rw [new_cellF]; rfl)
        have hc2 : w2.cell? ⟨wr.heap.size, 1, none⟩ = some (.string f.2) := below_cell hb1 (by rw [new_cellF]; rfl)
        have HB2 := Box.mk (below_trans (below_oneF wr (.cells #[.string f.1, .string f.2] 34)) hb1)
        have HA2 := Box.mk (HM.out.1.keep HB2.out)
        have HS2 := Box.mk (HM.out.2.1.keep HB2.out)
        clear hb1 HIN
        go_wp2_with (at_builtin; refine wpList_append_accfset _ rfl _ _ rfl rfl (HA2.out.keep ((Below.refl _ _).alloc (Nat.le_refl _) _)) rfl (y := f) ?c1 ?c1b (HS2.out.keep ((Below.refl _ _).alloc (Nat.le_refl _) _)) HM.out.2.2 ?c2 ?c3)
        case c1 => simp
        case c1b => simp
        case c2 => omega
        case c3 =>
          intro v' w' hacc hs' hne
          have HACC := Box.mk (show AccF w w' v' (withoutL (l.take (k + 1)) ns) ∧ SetIn w' b m (ns.map lowS) ∧ v'.ownBlock ≠ some b by rw [HT.out]; exact ⟨hacc, hs', hne⟩)
          clear hacc hs' hne HT HA2 HS2 HB2 HM
          go_wp2_with fail
          go_roundw
          case rel => exact ⟨k + 1, by omega, by go_num, HACC⟩
          case measure => simp [intOf]; omega
      · have hf : inFoldL ns l[k].1 = true := by simpa using hf'
        have HT := Box.mk (withoutL_no l ns k hlt hf)
        have HIN := Box.mk (show inS (lowS l[k].1) (ns.map lowS) = true by rw [inS_map]; exact hf)
        clear hf hf'
        generalize l[k] = f at *
        go_wp2_with fail
        refine (hdrIn_any f.1 f.2 b m _ _ (HM.out.2.1.keep (below_oneF wr (.cells #[.string f.1, .string f.2] 34))) HSZ.out.1).mono ?_
        rintro e w2 ⟨he, hb1⟩
        rw [HIN.out] at he
        subst he
        have HB2 := Box.mk (below_trans (below_oneF wr (.cells #[.string f.1, .string f.2] 34)) hb1)
        have HM2 := Box.mk (show AccF w w2 _ (withoutL (l.take (k + 1)) ns) ∧ SetIn w2 b m (ns.map lowS) ∧ _ by rw [HT.out]; exact ⟨HM.out.1.keep HB2.out, HM.out.2.1.keep HB2.out, HM.out.2.2⟩)
        clear hb1 HIN HT HB2
        go_wp2_with fail
        go_roundw
        case rel => exact ⟨k + 1, by omega, by go_num, HM2⟩
        case measure => simp [intOf]; omega
    · have HE := Box.mk (show AccF w wr _ (withoutL l ns) by have := HM.out.1; rw [List.take_of_length_le (by omega)] at this; exact this)
      go_wp2_with fail
      go_ret
      exact ⟨_, rfl, HE.out⟩
end Go.Proofs.YtnpbnaapbimjaaaGreatDoor
namespace Go.Proofs.YtnpbnaapbimjaaaGreatDoor
open Go.RowKit

theorem StrsIn.at {w : World} {b off : Nat} {l : List ByteArray} (h : StrsIn w (some ⟨b, off, none⟩) l) : StrsAt w (some ⟨b, off, none⟩) l := fun j hj => by
  obtain ⟨x, e, hc⟩ := h j hj
  obtain rfl := Option.some.inj e
  exact ⟨b, off, rfl, by rw [← hc, show (⟨b, off, none⟩ : Addr).add j = ⟨b, off + j, none⟩ by unfold Addr.add; split <;> simp_all]⟩

section
variable (w : World) (m : Int)
set_option maxHeartbeats 1000000 in
theorem fElements_acc (l : List Fld) (n : ByteArray) (a : Option Addr) (cap : Nat) (h : FldsIn w a l) (hz : ShortF l) (hn : n.size ≤ maxLen) (hl : l.length ≤ 1000000) (hm : w.cell? ⟨0, 0, none⟩ = some (.int .i64 m)) (ht : total (valuesL l n) ≤ 4000000000) :
    Calls Tryz.prog 73 #[.slice a l.length cap, .string n] w (RetAcc w (listL (valuesL l n))) := by
  have H0 := Box.mk h
  have HM := Box.mk hm
  clear h hm
  go_enter Tryz.func73, Tryz.ntmps73
  go_wp2_with fail
  refine (fValues_any l n a cap _ H0.out hz hn hl).mono ?_
  rintro e w1 ⟨a', cap', rfl, hs, hb⟩
  have HB := Box.mk hb
  clear hb
  go_wp2_with fail
  refine (list_acc _ a' cap' _ m hs (below_cell HB.out HM.out) ht).mono ?_
  rintro e w2 ⟨v2, rfl, hs2⟩
  have HS2 := Box.mk (Acc.lift HB.out hs2)
  clear hs2 hs
  go_wp2_with fail
  go_ret
  exact ⟨v2, rfl, HS2.out⟩
set_option maxHeartbeats 1000000 in
theorem refElements_acc (l : List Fld) (n : ByteArray) (a : Option Addr) (cap : Nat) (h : FldsIn w a l) (hz : ShortF l) (hn : n.size ≤ maxLen) (hl : l.length ≤ 1000000) (ht : total (valuesL l n) ≤ 4000000000) :
    Calls Tryz.prog 39 #[.slice a l.length cap, .string n] w (RetAcc w (listL (valuesL l n))) := by
  have H0 := Box.mk h
  clear h
  go_enter Tryz.func39, Tryz.ntmps39
  go_wp2_with fail
  refine (refValues_any l n a cap _ H0.out hz hn hl).mono ?_
  rintro e w1 ⟨a', cap', rfl, hs, hb⟩
  have HB := Box.mk hb
  clear hb
  go_wp2_with fail
  refine (refList_acc _ a' cap' _ hs ht).mono ?_
  rintro e w2 ⟨v2, rfl, hs2⟩
  have HS2 := Box.mk (Acc.lift HB.out hs2)
  clear hs2 hs
  go_wp2_with fail
  go_ret
  exact ⟨v2, rfl, HS2.out⟩
end
end Go.Proofs.YtnpbnaapbimjaaaGreatDoor
namespace Go.Proofs.YtnpbnaapbimjaaaGreatDoor
open Go.RowKit

/-- The slice with its capacity: where it is nil, it is nil altogether. -/
def FldsC (w : World) (a : Option Addr) (l : List Fld) (c : Nat) : Prop := FldsIn w a l ∧ (a = none → l = [] ∧ c = 0)
theorem FldsC.keep {w w' : World} {a : Option Addr} {l : List Fld} {c : Nat} (h : FldsC w a l c) (hb : Below w.heap.size w w') : FldsC w' a l c := ⟨h.1.keep hb, h.2⟩
theorem AccF.empty (w : World) : AccF w (w.alloc (.cells #[] 34)) (.slice (some ⟨w.heap.size, 0, none⟩) 0 0) [] := by
  refine ⟨⟨rfl, .inr ⟨w.heap.size, 0, #[], rfl, Nat.le_refl _, ?_, Nat.le_refl _, Nat.zero_le _, rfl, rfl⟩⟩, (Below.refl _ _).alloc (Nat.le_refl _) _⟩
  show (w.heap.push _)[w.heap.size]? = _
  simp
theorem AccF.shapeC {w0 w : World} {v : Value} {l : List Fld} (h : AccF w0 w v l) : ∃ a cap, v = .slice a l.length cap ∧ FldsC w a l cap := by
  obtain ⟨a, cap, e, hs⟩ := h.shape
  refine ⟨a, cap, e, hs, fun ha => ?_⟩
  subst ha
  obtain ⟨⟨h1, h2⟩, _⟩ := h
  rcases h2 with ⟨rfl, h2⟩ | ⟨g, cap', cur, rfl, _⟩
  · injection e with e1 e2 e3
    exact ⟨List.eq_nil_of_length_eq_zero h2, e3.symm⟩
  · injection e with e1; cases e1

section
variable {ops : Array Oper} {rest : List Oper} {o : Oper} {act : Act} {Q : Exit → Act → World → Prop}
end

end Go.Proofs.YtnpbnaapbimjaaaGreatDoor
namespace Go.Proofs.YtnpbnaapbimjaaaGreatDoor
open Go.RowKit

def sameF (x y : List Fld) : Bool := decide (x = y)
theorem sameF_len {x y : List Fld} (h : ¬ x.length = y.length) : sameF x y = false := by
  unfold sameF; rw [decide_eq_false_iff_not]; intro e; exact h (by rw [e])
theorem sameF_no {x y : List Fld} {k : Nat} (h1 : k < x.length) (h2 : k < y.length) (h : ¬ x[k] = y[k]) : sameF x y = false := by
  unfold sameF; rw [decide_eq_false_iff_not]; intro e; subst e; exact h rfl
theorem sameF_yes {x y : List Fld} (hl : x.length = y.length) (h : ∀ j (h1 : j < x.length) (h2 : j < y.length), x[j] = y[j]) : sameF x y = true := by
  unfold sameF; rw [decide_eq_true_eq]; exact List.ext_getElem hl h
theorem sameF_self (x : List Fld) : sameF x x = true := by unfold sameF; simp

set_option maxRecDepth 100000 in
set_option maxHeartbeats 2000000 in
theorem sameFields_any (x y : List Fld) (a b : Option Addr) (ca cb : Nat) (w : World) (hx : FldsIn w a x) (hy : FldsIn w b y) (_hxl : x.length ≤ 2000000) (_hyl : y.length ≤ 2000000) :
    Calls Tryz.prog 6 #[.slice a x.length ca, .slice b y.length cb] w fun e w' => e = .returned (.bool (sameF x y)) ∧ Below w.heap.size w w' := by
  have HX := Box.mk hx
  have HY := Box.mk hy
  clear hx hy
  go_enter Tryz.func6, Tryz.ntmps6
  by_cases hl : x.length = y.length
  · have HL := Box.mk hl
    have hl1 : ((x.length : Int) != (y.length : Int)) = false := by simp [hl]
    have hl2 : x.length ≤ y.length := by omega
    clear hl
    go_wp2
    go_loopw [5] (fun i wr => ∃ k : Nat, k ≤ x.length ∧ i = .int .i64 k ∧ Box (∀ j (h1 : j < x.length) (h2 : j < y.length), j < k → x[j] = y[j]) ∧ Box (Below w.heap.size w wr)) (fun i _ => x.length - (intOf i).toNat)
    case atStart => exact ⟨0, Nat.zero_le _, rfl, ⟨by intro j _ _ h; omega⟩, ⟨Below.refl _ _⟩⟩
    case round =>
      obtain ⟨k, hk, rfl, HP, HB⟩ := hrel
      by_cases hlt : k < x.length
      · have hlt2 : k < y.length := by omega
        obtain ⟨x1, rfl, c1, c2⟩ := (HX.out.keep HB.out) k hlt
        obtain ⟨y1, rfl, d1, d2⟩ := (HY.out.keep HB.out) k hlt2
        have c2 := cell_next c2
        have d2 := cell_next d2
        by_cases he : x[k] = y[k]
        · have HE := Box.mk (show ∀ j (h1 : j < x.length) (h2 : j < y.length), j < k + 1 → x[j] = y[j] from fun j h1 h2 hj => by
            by_cases e : j = k
            · subst e; exact he
            · exact HP.out j h1 h2 (by omega))
          have e1 : (x[k].1.toList == y[k].1.toList) = true := by rw [he]; simp
          have e2 : (x[k].2.toList == y[k].2.toList) = true := by rw [he]; simp
          clear he
          generalize x[k] = f at *
          generalize y[k] = g at *
          go_wp2_with fail
          go_quiet (fail)
          go_wp2
          go_roundw
          case rel => exact ⟨k + 1, by omega, by go_num, HE, ⟨below_drewN HB.out _⟩⟩
          case measure => simp [intOf]; omega
        · have HN := Box.mk (sameF_no hlt hlt2 he)
          by_cases e1 : (x[k].1.toList == y[k].1.toList) = true
          · have e2 : (x[k].2.toList == y[k].2.toList) = false := by
              rw [toList_eq]; simp only [decide_eq_false_iff_not]
              intro h2
              rw [toList_eq] at e1
              exact he (Prod.ext (of_decide_eq_true e1) h2)
            clear he
            generalize x[k] = f at *
            generalize y[k] = g at *
            go_wp2_with fail
            go_quiet (fail)
            go_wp2
            go_ret
            exact ⟨ret_bool HN.out.symm, below_drewN HB.out _⟩
          · have e1' : (x[k].1.toList == y[k].1.toList) = false := by simpa using e1
            clear he e1
            generalize x[k] = f at *
            generalize y[k] = g at *
            go_wp2_with fail
            go_quiet (fail)
            go_wp2
            go_ret
            exact ⟨ret_bool HN.out.symm, below_drewN HB.out _⟩
      · go_wp2
        go_ret
        exact ⟨ret_bool (sameF_yes HL.out fun j h1 h2 => HP.out j h1 h2 (by omega)).symm, HB.out⟩
  · have hl1 : ((x.length : Int) != (y.length : Int)) = true := by rw [bne_iff_ne]; omega
    have HL := Box.mk hl
    clear hl
    go_wp2
    go_ret
    exact ⟨ret_bool (sameF_len HL.out).symm, Below.refl _ _⟩
end Go.Proofs.YtnpbnaapbimjaaaGreatDoor
namespace Go.Proofs.YtnpbnaapbimjaaaGreatDoor
open Go.RowKit

/-- Strings that are small enough to be joined. -/
def SmallF (l : List Fld) : Prop := ∀ f ∈ l, f.1.size ≤ 1048576 ∧ f.2.size ≤ 1048576
theorem le_maxLen {n : Nat} (h : n ≤ 1048576) : n ≤ maxLen := by unfold maxLen; omega

theorem ba_app_list (a b : ByteArray) : (a ++ b).data.toList = a.data.toList ++ b.data.toList := by rw [ByteArray.data_append]; simp

end Go.Proofs.YtnpbnaapbimjaaaGreatDoor
namespace Go.Proofs.YtnpbnaapbimjaaaGreatDoor
open Go.RowKit

theorem sizeF : (Tryz.prog.info? 34).map (·.size) = some 2 := by kernel_rfl
theorem oneF (a b : ByteArray) : (#[Value.string a, .string b] : Array Value).all (·.oneCell') = true := by simp [Value.oneCell']
/-- A field's variable. -/
def FVar (w : World) (g : Nat) (n v : ByteArray) : Prop := w.heap[g]? = some (.cells #[.string n, .string v] 34 (0, 0))
theorem FVar.keep {w w' : World} {g : Nat} {n v : ByteArray} (h : FVar w g n v) (hb : Below w.heap.size w w') : FVar w' g n v := by
  unfold FVar at *
  rw [hb.block g (Array.getElem?_eq_some_iff.1 h).1]; exact h
theorem FVar.new (w : World) (n v : ByteArray) : FVar (w.alloc (.cells #[.string n, .string v] 34)) w.heap.size n v := heap_alloc_new _ _
theorem FVar.c0 {w : World} {g : Nat} {n v : ByteArray} (h : FVar w g n v) : w.cell? ⟨g, 0, none⟩ = some (.string n) := by rw [cell_of_row _ _ _ _ _ _ h]; rfl
theorem FVar.c1 {w : World} {g : Nat} {n v : ByteArray} (h : FVar w g n v) : w.cell? ⟨g, 1, none⟩ = some (.string v) := by rw [cell_of_row _ _ _ _ _ _ h]; rfl
theorem FVar.run {w : World} {g : Nat} {n v : ByteArray} (h : FVar w g n v) : (Instr.loadAt 34 (.pointer (some ⟨g, 0, none⟩))).run Tryz.prog w = .ok (.agg #[.string n, .string v]) w :=
  run_loadF w _ _ _ h.c0 h.c1
theorem FVar.lt {w : World} {g : Nat} {n v : ByteArray} (h : FVar w g n v) : g < w.heap.size := (Array.getElem?_eq_some_iff.1 h).1

end Go.Proofs.YtnpbnaapbimjaaaGreatDoor
namespace Go.Proofs.YtnpbnaapbimjaaaGreatDoor
open Go.RowKit

/-- c waits for i, by others too. -/
def beforeB (ops : Array Oper) : Nat → Nat → Nat → Bool
  | 0, _, _ => false
  | f + 1, c, i => match ops[c]? with
    | some o => waitsFor o i || (List.range c).any fun k => waitsFor o k && beforeB ops f k i
    | none => false
def StepP (P : Program) (Q : Exit → Act → World → Prop) (ops : Array Oper) (S : List Spec) (Inv : World → Prop) (a0 : Act) (o : Oper) (s : Spec) : Prop :=
  ∀ a w, Inv w → Fr ops a0 a → (∀ j, waitsFor o j = true → Holds ops S a w j) →
    Region.wanted o (yielded ops a.tmps) = true ∧ o.wp P a w (fun a' w' => ∃ v, a' = a.put o.dst v ∧ Below w.heap.size w w' ∧ s.p v w') Q
def SidesOK (P : Program) (Q : Exit → Act → World → Prop) (ops : Array Oper) (S : List Spec) (Inv : World → Prop) (a0 : Act) : List Nat → Prop
  | i :: r => (match ops[i]?, S[i]? with | some o, some s => StepP P Q ops S Inv a0 o s | _, _ => False) ∧ SidesOK P Q ops S Inv a0 r
  | [] => True
/-- What is known in one phase stays known in the next. -/
def Over (ops : Array Oper) (a : Act) (w w' : World) (c : Nat) : Nat → List Spec → List Spec → Prop
  | k, s :: ss, t :: ts => (k = c ∨ ∀ v, (∀ o d, ops[k]? = some o → o.dst = some d → v = a.eval (.tmp d)) → s.p v w → t.p v w') ∧ Over ops a w w' c (k + 1) ss ts
  | _, [], [] => True
  | _, _, _ => False
def ChainOK (P : Program) (Q : Exit → Act → World → Prop) (ops : Array Oper) (S S' : List Spec) (Inv Inv' : World → Prop) (a0 : Act) (c : Nat) : Prop :=
  match ops[c]?, S'[c]? with
  | some o, some s => ∀ a w, Inv w → Fr ops a0 a → (∀ j, waitsFor o j = true → Holds ops S a w j) →
      Region.wanted o (yielded ops a.tmps) = true ∧ o.wp P a w (fun a' w' => ∃ v, a' = a.put o.dst v ∧ Inv' w' ∧ s.p v w' ∧ Over ops a w w' c 0 S S') Q
  | _, _ => False
/-- The operations outside the chain that may come up in phase p are those listed. -/
def sidesB (ops : Array Oper) (chain : List Nat) (M : Nat) (sides : List Nat) (p : Nat) : Bool :=
  (List.range ops.size).all fun i => chain.contains i || sides.contains i || (List.range M).any fun q => match chain[q]? with
    | some c => if q < p then beforeB ops ops.size c i else beforeB ops ops.size i c
    | none => false
def chainB (ops : Array Oper) (chain : List Nat) : Bool :=
  (List.range chain.length).all fun p => (List.range chain.length).all fun q => decide (q ≤ p) || (match chain[p]?, chain[q]? with | some c, some d => beforeB ops ops.size d c && decide (c ≠ d) && decide (d < ops.size) && decide (c < ops.size) | _, _ => false)

section
variable {P : Program} {Q : Exit → Act → World → Prop} {ops : Array Oper} {a0 : Act} {w0 : World}
theorem sidesOK_at {S : List Spec} {Inv : World → Prop} : ∀ {l : List Nat}, SidesOK P Q ops S Inv a0 l → ∀ i, i ∈ l → ∀ o, ops[i]? = some o → ∃ s, S[i]? = some s ∧ StepP P Q ops S Inv a0 o s
  | k :: r, h, i, hi, o, ho => by
    rcases List.mem_cons.1 hi with rfl | hi
    · have := h.1
      rw [ho] at this
      cases hs : S[i]? with
      | none => rw [hs] at this; exact this.elim
      | some s => rw [hs] at this; exact ⟨s, rfl, this⟩
    · exact sidesOK_at h.2 i hi o ho
theorem over_at {a : Act} {w w' : World} {c : Nat} : ∀ {ss ts : List Spec} {k : Nat}, Over ops a w w' c k ss ts → ∀ j t, ts[j]? = some t → k + j ≠ c → ∃ s, ss[j]? = some s ∧ ∀ v, (∀ o d, ops[k + j]? = some o → o.dst = some d → v = a.eval (.tmp d)) → s.p v w → t.p v w'
  | s :: ss, t :: ts, k, h, 0, t', ht, hne => by
    simp at ht; subst ht
    rcases h.1 with h1 | h1
    · exact absurd h1 (by simpa using hne)
    · exact ⟨s, rfl, h1⟩
  | s :: ss, t :: ts, k, h, j + 1, t', ht, hne => by
    have e : k + 1 + j = k + (j + 1) := by omega
    have := over_at (k := k + 1) h.2 j t' (by simpa using ht) (by omega)
    rw [e] at this; exact this
  | [], [], _, _, j, t', ht, _ => by simp at ht
  | s :: ss, [], _, h, j, t', ht, _ => by simp at ht
  | [], t :: ts, _, h, j, t', ht, _ => h.elim
theorem before_marked {m : Array Bool} (hcl : ∀ j o, ops[j]? = some o → m.getD j false = true → ∀ i, waitsFor o i = true → m.getD i false = true) :
    ∀ (f c i : Nat), beforeB ops f c i = true → m.getD c false = true → m.getD i false = true
  | 0, _, _, h, _ => by simp [beforeB] at h
  | f + 1, c, i, h, hc => by
    unfold beforeB at h
    cases ho : ops[c]? with
    | none => rw [ho] at h; cases h
    | some o =>
      rw [ho] at h
      simp only [Bool.or_eq_true, List.any_eq_true, Bool.and_eq_true] at h
      rcases h with h | ⟨k, _, h1, h2⟩
      · exact hcl c o ho hc i h
      · exact before_marked hcl f k i h2 (hcl c o ho hc k h1)
/-- What is ready waits for marked ones alone. -/
theorem before_ready {m : Array Bool} (hcl : ∀ j o, ops[j]? = some o → m.getD j false = true → ∀ i, waitsFor o i = true → m.getD i false = true) {c i : Nat} {o : Oper} (ho : ops[c]? = some o)
    (hd : ∀ j, waitsFor o j = true → m.getD j false = true) {f : Nat} (h : beforeB ops f c i = true) : m.getD i false = true := by
  cases f with
  | zero => simp [beforeB] at h
  | succ f =>
    unfold beforeB at h
    rw [ho] at h
    simp only [Bool.or_eq_true, List.any_eq_true, Bool.and_eq_true] at h
    rcases h with h | ⟨k, _, h1, h2⟩
    · exact hd i h
    · exact before_marked hcl f k i h2 (hd k h1)

theorem wp_region_phases {id : Nat} (chain : List Nat) (sides : Nat → List Nat) (S : Nat → List Spec) (Inv : Nat → World → Prop) (hm : P.follows .mixedOrders = true)
    (hB : (List.range ops.size).all (fun i => match ops[i]? with | some x => x.after.all (fun e => !Region.binds .any e || decide (e.on < i)) | none => true) = true)
    (hd : dstsOk ops a0.tmps.size = true) (hc : chainB ops chain = true) (hlt : chain.all (fun c => decide (c < ops.size)) = true) (hsB : (List.range (chain.length + 1)).all (fun p => sidesB ops chain chain.length (sides p) p) = true)
    (hI : ∀ p w w', Inv p w → Below w.heap.size w w' → Inv p w') (h0 : Inv 0 w0) (hS : ∀ p, p ≤ chain.length → SidesOK P Q ops (S p) (Inv p) a0 (sides p))
    (hC : ∀ p (hp : p < chain.length), ChainOK P Q ops (S p) (S (p + 1)) (Inv p) (Inv (p + 1)) a0 chain[p])
    (hQ : ∀ a w, Inv chain.length w → Fr ops a0 a → (∀ j, j < ops.size → Holds ops (S chain.length) a w j) → Q .normal a w) : (Code.region id ops true).wp P Q a0 w0 := by
  have hchain : ∀ p q (hp : p < chain.length) (hq : q < chain.length), p < q → beforeB ops ops.size chain[q] chain[p] = true ∧ chain[p] ≠ chain[q] := fun p q hp hq hpq => by
    have h1 := List.all_eq_true.1 (List.all_eq_true.1 hc p (List.mem_range.2 hp)) q (List.mem_range.2 hq)
    simp only [List.getElem?_eq_getElem hp, List.getElem?_eq_getElem hq, Bool.or_eq_true, Bool.and_eq_true, decide_eq_true_eq] at h1
    rcases h1 with h1 | h1
    · omega
    · exact ⟨h1.1.1.1, h1.1.1.2⟩
  refine wp_region_inv hm (fun m a w => Fr ops a0 a ∧ (∀ j o, ops[j]? = some o → m.getD j false = true → ∀ i, waitsFor o i = true → m.getD i false = true) ∧
    ∃ p, p ≤ chain.length ∧ (∀ q (hq : q < chain.length), m.getD chain[q] false = decide (q < p)) ∧ Inv p w ∧ ∀ j, m.getD j false = true → Holds ops (S p) a w j) ?_ ?_ ?_
  · rintro m a w hs ⟨hf, hcl, p, hp, hph, hinv, hh⟩ i hi
    obtain ⟨h1, o, ho, hall⟩ := mem_ready.1 hi
    have hil : i < ops.size := (Array.getElem?_eq_some_iff.1 ho).1
    have him : i < m.size := by rw [hs]; exact hil
    have hmi : m.getD i false = false := by simp [him] at h1 ⊢; exact h1
    have hdeps : ∀ j, waitsFor o j = true → m.getD j false = true := fun j hj => by
      obtain ⟨e, he, h2⟩ := List.any_eq_true.1 hj
      simp only [Bool.and_eq_true, beq_iff_eq] at h2
      obtain ⟨h3, rfl⟩ := h2
      exact hall e (Array.mem_toList_iff.1 he) h3
    have hcl' : ∀ j o, ops[j]? = some o → (m.setIfInBounds i true).getD j false = true → ∀ k, waitsFor o k = true → (m.setIfInBounds i true).getD k false = true := fun j oj hoj hj k hk => by
      by_cases hji : j = i
      · subst hji
        obtain rfl : o = oj := Option.some.inj (ho.symm.trans hoj)
        exact getD_set_true (hdeps k hk)
      · rw [getD_set_ne false (fun e => hji e.symm)] at hj
        exact getD_set_true (hcl j oj hoj hj k hk)
    unfold wpOp
    simp only [ho]
    by_cases hic : i ∈ chain
    · obtain ⟨q, hq, rfl⟩ := List.getElem_of_mem hic
      have hqp : p ≤ q := by
        have := hph q hq
        rw [hmi] at this
        have := of_decide_eq_false this.symm
        omega
      have hqe : q = p := by
        rcases Nat.lt_or_ge p q with h2 | h2
        · exfalso
          have h3 := before_ready hcl ho hdeps (hchain p q (by omega) hq h2).1
          rw [hph p (by omega)] at h3
          simp at h3
        · omega
      subst hqe
      have hCp := hC q hq
      unfold ChainOK at hCp
      rw [ho] at hCp
      cases hsc : (S (q + 1))[chain[q]]? with
      | none => rw [hsc] at hCp; exact hCp.elim
      | some s =>
        rw [hsc] at hCp
        simp only at hCp
        obtain ⟨hw, hwp⟩ := hCp a w hinv hf fun j hj => hh j (hdeps j hj)
        rw [if_pos hw]
        refine .inl (Oper.wp_mono ?_ hwp)
        rintro a' w' ⟨v, rfl, hinv', hsp, hov⟩
        refine ⟨fr_put ho hf v, hcl', q + 1, hq, fun r hr => ?_, hinv', fun j hj => ?_⟩
        · by_cases hrq : r = q
          · subst hrq
            simp [him]
          · have hne : chain[q] ≠ chain[r] := by
              rcases Nat.lt_or_ge q r with h2 | h2
              · exact (hchain q r hq hr h2).2
              · exact fun e => (hchain r q hr hq (by omega)).2 e.symm
            rw [getD_set_ne false hne, hph r hr]
            by_cases hrl : r < q
            · simp [hrl, show r < q + 1 by omega]
            · simp [hrl, show ¬ r < q + 1 by omega]
        · by_cases hji : j = chain[q]
          · subst hji
            unfold Holds
            simp only [ho, hsc]
            cases hdo : o.dst with
            | none => trivial
            | some d =>
              show s.p ((a.put (some d) v).eval (.tmp d)) w'
              rw [eval_put_same]
              · exact hsp
              · rw [hf.size]; exact (dsts_lt hd ho hdo).1
          · have hj' : m.getD j false = true := by rw [getD_set_ne false (fun e => hji e.symm)] at hj; exact hj
            have h5 := holds_put (a := a) (v := v) hd ho hji (hh j hj')
            unfold Holds at *
            cases hoj : ops[j]? with
            | none => simp
            | some o' =>
              cases hsj : (S (q + 1))[j]? with
              | none => simp
              | some s' =>
                obtain ⟨s0, hs0, himp⟩ := over_at hov j s' hsj (by omega)
                simp only [hoj, hs0] at h5
                simp only
                cases hdo : o'.dst with
                | none => trivial
                | some d =>
                  simp only [hdo] at h5
                  refine himp _ (fun o2 d2 ho2 hd2 => ?_) h5
                  rw [Nat.zero_add, hoj] at ho2
                  obtain rfl := Option.some.inj ho2
                  rw [hdo] at hd2
                  obtain rfl := Option.some.inj hd2
                  exact eval_put_other fun e => (dsts_lt hd ho e).2 j o' hoj hji hdo
    · have hside : i ∈ sides p := by
        have := List.all_eq_true.1 (List.all_eq_true.1 hsB p (List.mem_range.2 (by omega))) i (List.mem_range.2 hil)
        simp only [Bool.or_eq_true, List.contains_iff_mem, List.any_eq_true] at this
        rcases this with (h2 | h2) | ⟨q, hq, h2⟩
        · exact absurd h2 hic
        · exact h2
        · exfalso
          have hql := List.mem_range.1 hq
          rw [List.getElem?_eq_getElem hql] at h2
          simp only at h2
          by_cases hqp : q < p
          · rw [if_pos hqp] at h2
            have h3 := before_marked hcl _ _ _ h2 (by rw [hph q hql]; simp [hqp])
            rw [hmi] at h3; cases h3
          · rw [if_neg hqp] at h2
            have h3 := before_ready hcl ho hdeps h2
            rw [hph q hql] at h3
            simp [hqp] at h3
      obtain ⟨s, hsi, hstep⟩ := sidesOK_at (hS p hp) i hside o ho
      obtain ⟨hw, hwp⟩ := hstep a w hinv hf fun j hj => hh j (hdeps j hj)
      rw [if_pos hw]
      refine .inl (Oper.wp_mono ?_ hwp)
      rintro a' w' ⟨v, rfl, hb', hsp⟩
      refine ⟨fr_put ho hf v, hcl', p, hp, fun r hr => ?_, hI p w w' hinv hb', fun j hj => ?_⟩
      · rw [getD_set_ne false (fun e => hic (by rw [e]; exact List.getElem_mem hr)), hph r hr]
      · by_cases hji : j = i
        · subst hji
          unfold Holds
          simp only [ho, hsi]
          cases hdo : o.dst with
          | none => trivial
          | some d =>
            show s.p ((a.put (some d) v).eval (.tmp d)) w'
            rw [eval_put_same]
            · exact hsp
            · rw [hf.size]; exact (dsts_lt hd ho hdo).1
        · have hj' : m.getD j false = true := by rw [getD_set_ne false (fun e => hji e.symm)] at hj; exact hj
          exact holds_put hd ho hji (holds_mono (hh j hj') hb')
  · rintro m a w hs ⟨hf, hcl, p, hp, hph, hinv, hh⟩ hr
    have hmarked : ∀ j, j < ops.size → m.getD j false = true := fun j => by
      induction j using Nat.strongRecOn with
      | _ j ih =>
        intro hj
        cases hmj : m.getD j false with
        | true => rfl
        | false =>
          exfalso
          have hoj : ops[j]? = some ops[j] := Array.getElem?_eq_getElem hj
          have hbk := List.all_eq_true.1 hB j (List.mem_range.2 hj)
          rw [hoj] at hbk
          simp only [Array.all_eq_true_iff_forall_mem, Bool.or_eq_true, Bool.not_eq_true', decide_eq_true_eq] at hbk
          have hlt : ∀ e ∈ ops[j].after, Region.binds .any e = true → e.on < j := fun e he hbd => by
            rcases hbk e he with h | h
            · rw [hbd] at h; cases h
            · exact h
          have : j ∈ Region.ready .any ops m := mem_ready.2 ⟨by
            have hs' : j < m.size := by rw [hs]; exact hj
            simp [hs'] at hmj ⊢; exact hmj, ops[j], hoj, fun e he hbd => ih _ (hlt e he hbd) (by have := hlt e he hbd; omega)⟩
          rw [hr] at this; cases this
    have hpe : p = chain.length := by
      rcases Nat.lt_or_ge p chain.length with h2 | h2
      · exfalso
        have h3 := hph p h2
        have h4 := hmarked chain[p] (of_decide_eq_true (List.all_eq_true.1 hlt _ (List.getElem_mem h2)))
        rw [h4] at h3
        simp at h3
      · omega
    subst hpe
    exact hQ a w hinv hf fun j hj => hh j (hmarked j hj)
  · have hz : ∀ j, (Array.replicate ops.size false).getD j false = false := fun j => by
      simp only [Array.getD_eq_getD_getElem?, Array.getElem?_replicate]; split <;> rfl
    refine ⟨⟨rfl, rfl, fun _ _ => rfl⟩, fun j o _ hj => (by rw [hz] at hj; cases hj), 0, Nat.zero_le _, fun q _ => by rw [hz]; rfl, hI 0 w0 _ h0 (Below.refl _ _).drew, fun j hj => (by rw [hz] at hj; cases hj)⟩

/-- The frame behind a region, out of the frame before it. -/
def putAll (a : Act) : List Oper → Act → Act
  | o :: os, b => putAll a os (match o.dst with | some d => b.put (some d) (a.eval (.tmp d)) | none => b)
  | [], b => b
theorem putAll_size (a : Act) : ∀ (l : List Oper) (b : Act), (putAll a l b).tmps.size = b.tmps.size
  | [], _ => rfl
  | o :: os, b => by
    unfold putAll
    rw [putAll_size a os]
    cases o.dst <;> simp [Act.put]
theorem putAll_defers (a : Act) : ∀ (l : List Oper) (b : Act), (putAll a l b).defers = b.defers
  | [], _ => rfl
  | o :: os, b => by
    unfold putAll
    rw [putAll_defers a os]
    cases o.dst <;> simp [Act.put]
theorem putAll_eval (a : Act) (k : Nat) : ∀ (l : List Oper) (b : Act), b.tmps.size = a.tmps.size → (b.eval (.tmp k) = a.eval (.tmp k) ∨ (l.any fun o => o.dst == some k) = true) → (putAll a l b).eval (.tmp k) = a.eval (.tmp k)
  | [], b, _, h => by
    rcases h with h | h
    · exact h
    · cases h
  | o :: os, b, hs, h => by
    unfold putAll
    refine putAll_eval a k os _ (by cases o.dst <;> simpa [Act.put] using hs) ?_
    cases hd : o.dst with
    | none =>
      rcases h with h | h
      · exact .inl h
      · simp [hd] at h; exact .inr (by simpa using h)
    | some d =>
      by_cases hdk : d = k
      · subst hdk
        by_cases hlt : d < b.tmps.size
        · exact .inl (eval_put_same hlt)
        · left
          have h1 : ¬ d < a.tmps.size := by rw [← hs]; exact hlt
          simp [Act.put, Act.eval, hlt, h1]
      · have e : (b.put (some d) (a.eval (.tmp d))).eval (.tmp k) = b.eval (.tmp k) := eval_put_other fun e => hdk (Option.some.inj e)
        rcases h with h | h
        · exact .inl (e.trans h)
        · simp [hd, hdk] at h; exact .inr (by simpa using h)
theorem fr_putAll {a : Act} (h : Fr ops a0 a) : a = putAll a ops.toList a0 := by
  have h1 := putAll_size a ops.toList a0
  have h2 := putAll_defers a ops.toList a0
  have h3 : ∀ k, (putAll a ops.toList a0).eval (.tmp k) = a.eval (.tmp k) := fun k => putAll_eval a k _ _ h.size.symm (by
    cases hk : isDst ops k with
    | true => exact .inr hk
    | false => exact .inl (h.base k hk).symm)
  generalize putAll a ops.toList a0 = p at *
  rw [act_eq (a := a) (a0 := a0) h.size h.defers, act_eq (a := p) (a0 := a0) h1 h2]
  congr 2
  exact List.map_congr_left fun k _ => (h3 k).symm
end
end Go.Proofs.YtnpbnaapbimjaaaGreatDoor
namespace Go.Proofs.YtnpbnaapbimjaaaGreatDoor
open Go.RowKit

def IntsF (w : World) (a : Option Addr) (n : Nat) : Prop :=
  ∀ j, j < n → ∃ x z, a = some x ∧ w.cell? (x.add j) = some (.int .i64 z) ∧ -9223372036854775808 ≤ z ∧ z ≤ 9223372036854775807
theorem IntsF.keep {w w' : World} {a : Option Addr} {n : Nat} (h : IntsF w a n) (hb : Below w.heap.size w w') : IntsF w' a n := fun j hj => by
  obtain ⟨x, z, e, h1, h2⟩ := h j hj
  exact ⟨x, z, e, below_cell hb h1, h2⟩
/-- Block g is the source's variable: its numbers are the n at a, which lie elsewhere. -/
def Src (w : World) (g : Nat) (a : Option Addr) (n c : Nat) : Prop :=
  (∃ i : Nat, i ≤ n ∧ w.heap[g]? = some (.cells #[.slice a n c, .int .i64 i] 39 (0, 0))) ∧ n ≤ maxLen ∧ IntsF w a n ∧ ∀ x, a = some x → 0 < n → x.block ≠ g
theorem Src.lt {w : World} {g : Nat} {a : Option Addr} {n c : Nat} (h : Src w g a n c) : g < w.heap.size := by
  obtain ⟨⟨i, _, h⟩, _⟩ := h
  exact (Array.getElem?_eq_some_iff.1 h).1
theorem add_blockF (x : Addr) (j : Nat) : (x.add j).block = x.block := by unfold Addr.add; split <;> rfl
theorem IntsF.grown {w w' : World} {a : Option Addr} {n : Nat} {row : Option Nat} (h : IntsF w a n) (hg : w.grownBy w' row) (hne : ∀ x, a = some x → 0 < n → some x.block ≠ row) : IntsF w' a n := fun j hj => by
  obtain ⟨x, z, e, h1, h2⟩ := h j hj
  refine ⟨x, z, e, ?_, h2⟩
  have hlt := lt_cell h1
  rw [World.cell?_of_block (hg.block _ hlt (by rw [add_blockF]; exact hne x e (by omega)))]
  exact h1
theorem Src.grown {w w' : World} {g : Nat} {a : Option Addr} {n c : Nat} {row : Option Nat} (h : Src w g a n c) (hg : w.grownBy w' row) (hne : some g ≠ row) (hne2 : ∀ x, a = some x → 0 < n → some x.block ≠ row) : Src w' g a n c := by
  have hlt := h.lt
  obtain ⟨⟨i, hi, hr⟩, h2, h3, h4⟩ := h
  exact ⟨⟨i, hi, by rw [hg.block g hlt hne]; exact hr⟩, h2, h3.grown hg hne2, h4⟩
theorem Src.keep {w w' : World} {g : Nat} {a : Option Addr} {n c : Nat} (h : Src w g a n c) (hb : Below w.heap.size w w') : Src w' g a n c := by
  have hlt := h.lt
  obtain ⟨⟨i, hi, hr⟩, h2, h3, h4⟩ := h
  exact ⟨⟨i, hi, by rw [hb.block g hlt]; exact hr⟩, h2, h3.keep hb, h4⟩
theorem grownBy_trans {w w1 w2 : World} {row : Option Nat} (h : w.grownBy w1 row) (k : w1.grownBy w2 row) : w.grownBy w2 row :=
  ⟨k.os.trans h.os, k.tape.trans h.tape, k.output.trans h.output, Nat.le_trans h.size k.size, fun i hi hne => (k.block i (Nat.lt_of_lt_of_le hi h.size) hne).trans (h.block i hi hne)⟩
theorem grownBy_below {w w1 : World} {row : Option Nat} (h : Below w.heap.size w w1) : w.grownBy w1 row :=
  ⟨h.os, h.tape, h.output, h.size, fun i hi _ => h.block i hi⟩
/-- A row that is new is nobody's. -/
theorem grownBy_new {w w1 w2 : World} {row : Option Nat} {q : Option Nat} (h : w.grownBy w1 row) (k : w1.grownBy w2 q) (hq : ∀ i, q = some i → w.heap.size ≤ i) : w.grownBy w2 row :=
  ⟨k.os.trans h.os, k.tape.trans h.tape, k.output.trans h.output, Nat.le_trans h.size k.size, fun i hi hne => (k.block i (Nat.lt_of_lt_of_le hi h.size) (fun e => by have := hq i e.symm; omega)).trans (h.block i hi hne)⟩

def withI (z : Int) (n : Nat) : Int := (wrap64 (z.tmod n + n)).tmod n
theorem withI_range (z : Int) (n : Nat) (h0 : 0 < n) (hn : n ≤ 1000000000) : ∃ k : Nat, k < n ∧ withI z n = (k : Int) := by
  have h1 : z.tmod n < n := Int.tmod_lt_of_pos z (by omega)
  have h2 : -(n : Int) < z.tmod n := Int.lt_tmod_of_pos z (by omega)
  unfold withI
  generalize z.tmod n = y at *
  have e : wrap64 (y + n) = y + n := by simp only [wrap64]; omega
  rw [e, Int.tmod_eq_emod_of_nonneg (by omega)]
  exact ⟨((y + n) % n).toNat, by have := Int.emod_lt_of_pos (y + n) (show (0 : Int) < n by omega); have := Int.emod_nonneg (y + n) (show (n : Int) ≠ 0 by omega); omega, by have := Int.emod_nonneg (y + n) (show (n : Int) ≠ 0 by omega); omega⟩
theorem withinF (z : Int) (n : Nat) (w : World) (h0 : 0 < n) (hn : n ≤ 1000000000) :
    Calls Tryz.prog 42 #[.int .i64 z, .int .i64 n] w fun e w' => e = .returned (.int .i64 (withI z n)) ∧ w' = w := by
  go_enter Tryz.func42, Tryz.ntmps42
  go_wp2
  go_ret
  exact ⟨rfl, rfl⟩

set_option maxRecDepth 100000 in
set_option maxHeartbeats 2000000 in
theorem next_any (g m : Nat) (a : Option Addr) (n c : Nat) (w : World) (h : Src w g a n c) (h0 : 0 < m) (hm : m ≤ 1000000000) :
    Calls Tryz.prog 27 #[.pointer (some ⟨g, 0, none⟩), .int .i64 m] w fun e w' => ∃ k : Nat, k < m ∧ e = .returned (.int .i64 k) ∧ Src w' g a n c ∧ w.grownBy w' (some g) := by
  have H0 := Box.mk h
  obtain ⟨⟨i, hi, hr⟩, hn, h2, h3⟩ := h
  have HR := Box.mk hr
  have HI := Box.mk h2
  have HA := Box.mk h3
  have HN := Box.mk hn
  have hc0 : w.cell? ⟨g, 0, none⟩ = some (.slice a n c) := by rw [cell_of_row _ _ _ _ _ _ hr]; rfl
  have hc1 : w.cell? ⟨g, 1, none⟩ = some (.int .i64 i) := by rw [cell_of_row _ _ _ _ _ _ hr]; rfl
  unfold maxLen at hn
  clear hr h2 h3
  go_enter Tryz.func27, Tryz.ntmps27
  by_cases hlt : i < n
  · obtain ⟨x, z, rfl, hz, z0, z1⟩ := HI.out i hlt
    have hne := HA.out x rfl (by omega)
    have HNE := Box.mk hne
    clear hne
    have hd : decide (n ≤ i) = false := by simp; omega
    have HZ := Box.mk hz
    clear hz
    go_wp2_with fail
    go_quiet (fail)
    clear hd
    obtain ⟨W, hW⟩ : ∃ W, W = w.drewN nq := ⟨_, rfl⟩
    have HRW := Box.mk (show W.heap[g]? = some (.cells #[.slice (some x) n c, .int .i64 i] 39 (0, 0)) by rw [hW]; exact HR.out)
    rw [← hW]
    have hf := frozen_of_row W g 1 _ _ HRW.out
    have hc0 : W.cell? ⟨g, 0, none⟩ = some (.slice (some x) n c) := by rw [cell_of_row _ _ _ _ _ _ HRW.out]; rfl
    have hc1 : W.cell? ⟨g, 1, none⟩ = some (.int .i64 i) := by rw [cell_of_row _ _ _ _ _ _ HRW.out]; rfl
    have HGW := Box.mk (show w.grownBy W (some g) by rw [hW]; exact ⟨rfl, rfl, rfl, Nat.le_refl _, fun _ _ _ => rfl⟩)
    clear hW
    go_wp2_with fail
    obtain ⟨W2, hW2⟩ : ∃ W2, W2 = W.setCell ⟨g, 1, none⟩ (.int .i64 ((i : Int) + 1)) := ⟨_, rfl⟩
    have HR2 := Box.mk (show W2.heap[g]? = some (.cells #[.slice (some x) n c, .int .i64 ((i : Int) + 1)] 39 (0, 0)) by rw [hW2, heap_setCell_same _ _ _ _ _ _ HRW.out]; simp)
    have HG2 := Box.mk (show w.grownBy W2 (some g) from grownBy_trans HGW.out (by
      rw [hW2]
      exact ⟨rfl, rfl, rfl, by simp [World.setCell], fun k _ hne => heap_setCell_other W ⟨g, 1, none⟩ k _ (fun e => hne (by rw [e]))⟩))
    change Code.wp _ _ _ _ (W.setCell ⟨g, 1, none⟩ (.int .i64 ((i : Int) + 1)))
    rw [← hW2]
    clear hW2 hf hc0 hc1 HGW HRW
    have hc0 : W2.cell? ⟨g, 0, none⟩ = some (.slice (some x) n c) := by rw [cell_of_row _ _ _ _ _ _ HR2.out]; rfl
    have hc1 : W2.cell? ⟨g, 1, none⟩ = some (.int .i64 ((i : Int) + 1)) := by rw [cell_of_row _ _ _ _ _ _ HR2.out]; rfl
    have hz2 : W2.cell? (x.add i) = some (.int .i64 z) := by
      rw [World.cell?_of_block (HG2.out.block _ (lt_cell HZ.out) (by rw [add_blockF]; exact fun e => HNE.out (Option.some.inj e)))]
      exact HZ.out
    have HS := Box.mk (show Src W2 g (some x) n c from ⟨⟨i + 1, hlt, HR2.out⟩, HN.out, HI.out.grown HG2.out (fun y e h e2 => HA.out y e h (Option.some.inj e2)), HA.out⟩)
    obtain ⟨k, hk, hwk⟩ := withI_range z m h0 hm
    have HWK := Box.mk hwk
    clear hwk
    go_quiet ((go_at_call 42; exact Calls.quiet_of_same (withinF _ _ _ h0 hm)))
    go_wp2
    go_ret
    exact ⟨k, hk, ret_int HWK.out, HS.out.keep (below_drewN (Below.refl _ _) _), grownBy_trans HG2.out ⟨rfl, rfl, rfl, Nat.le_refl _, fun _ _ _ => rfl⟩⟩
  · have hd : decide (n ≤ i) = true := by simp; omega
    go_wp2_with fail
    go_quiet (fail)
    go_wp2
    go_ret
    exact ⟨0, h0, rfl, H0.out.keep (below_drewN (Below.refl _ _) _), ⟨rfl, rfl, rfl, Nat.le_refl _, fun _ _ _ => rfl⟩⟩

set_option maxHeartbeats 1000000 in
theorem of_any (g b : Nat) (l : List ByteArray) (cb : Nat) (a : Option Addr) (n c : Nat) (w : World) (h : Src w g a n c) (hl : StrsIn w (some ⟨b, 0, none⟩) l) (hb : b ≠ g) (h0 : 0 < l.length) (h1 : l.length ≤ 1000) :
    Calls Tryz.prog 43 #[.pointer (some ⟨g, 0, none⟩), .slice (some ⟨b, 0, none⟩) l.length cb] w fun e w' => ∃ s ∈ l, e = .returned (.string s) ∧ Src w' g a n c ∧ w.grownBy w' (some g) := by
  have HL := Box.mk hl
  have HB := Box.mk hb
  clear hl hb
  go_enter Tryz.func43, Tryz.ntmps43
  go_wp2_with fail
  refine (next_any g l.length a n c w h h0 (by omega)).mono ?_
  rintro e w1 ⟨k, hk, rfl, hs, hg⟩
  obtain ⟨x, hx, hc⟩ := HL.out k hk
  obtain rfl := Option.some.inj hx
  have hc1 : w1.cell? ((⟨b, 0, none⟩ : Addr).add k) = some (.string l[k]) := by
    rw [World.cell?_of_block (hg.block _ (lt_cell hc) (by rw [add_blockF]; exact fun e => HB.out (Option.some.inj e)))]
    exact hc
  rw [Addr.add_lit, Nat.zero_add] at hc1
  have HS := Box.mk hs
  have HG := Box.mk hg
  have HMEM := Box.mk (List.getElem_mem hk)
  clear hs hg hc hx
  go_wp2_with fail
  go_ret
  exact ⟨_, HMEM.out, rfl, HS.out, HG.out⟩
end Go.Proofs.YtnpbnaapbimjaaaGreatDoor
namespace Go.Proofs.YtnpbnaapbimjaaaGreatDoor
open Go.RowKit

def namesF : List ByteArray := [⟨#[88, 45, 65]⟩, ⟨#[120, 45, 97]⟩, ⟨#[88, 45, 66]⟩, ⟨#[65, 99, 99, 101, 112, 116]⟩, ⟨#[67, 111, 110, 110, 101, 99, 116, 105, 111, 110]⟩, ⟨#[86, 105, 97]⟩, ⟨#[67, 111, 111, 107, 105, 101]⟩, ⟨#[84, 69]⟩, ⟨#[75, 101, 101, 112, 45, 65, 108, 105, 118, 101]⟩, ⟨#[88, 45, 70, 111, 114, 119, 97, 114, 100, 101, 100, 45, 70, 111, 114]⟩, ⟨#[68, 97, 116, 101]⟩, ⟨#[69, 84, 97, 103]⟩, ⟨#[85, 112, 103, 114, 97, 100, 101]⟩, ⟨#[88, 45, 83, 104, 97, 100, 111, 119]⟩]
def valsF : List ByteArray := [⟨#[]⟩, ⟨#[49]⟩, ⟨#[97, 44, 32, 98]⟩, ⟨#[120, 45, 97]⟩, ⟨#[99, 108, 111, 115, 101]⟩, ⟨#[107, 101, 101, 112, 45, 97, 108, 105, 118, 101]⟩, ⟨#[88, 45, 66, 44, 32, 116, 101]⟩, ⟨#[99, 111, 104, 111, 114, 116, 61, 48, 49, 50, 51, 52, 53, 54, 55, 56, 57, 97, 98, 99, 100, 101, 102]⟩, ⟨#[107, 61, 118, 59, 32, 99, 111, 104, 111, 114, 116, 61, 48, 48, 48, 48, 48, 48, 48, 48, 48, 48, 48, 48, 48, 48, 102, 102]⟩, ⟨#[49, 46, 49, 32, 111, 116, 104, 101, 114]⟩, ⟨#[9, 63, 128, 59, 61]⟩]
theorem namesF_ok : (namesF.all fun s => tokS s && decide (s.size ≤ 1000)) = true := by decide +kernel
theorem valsF_ok : (valsF.all fun s => valS (trimBA s) && decide (s.size ≤ 1000)) = true := by decide +kernel
theorem strsIn_newF (w : World) (l : List ByteArray) (t : TypeId) : StrsIn (w.alloc (.cells (l.map Value.string).toArray t)) (some ⟨w.heap.size, 0, none⟩) l := fun j hj =>
  ⟨_, rfl, by rw [Addr.add_lit, Nat.zero_add, new_cellF]; simp [hj]⟩
theorem Src.low {w : World} {g : Nat} {a : Option Addr} {n c : Nat} (h : Src w g a n c) : ∀ x, a = some x → 0 < n → x.block < w.heap.size := fun x e h0 => by
  obtain ⟨y, z, e2, hc, _⟩ := h.2.2.1 0 h0
  rw [e] at e2
  obtain rfl := Option.some.inj e2
  have := lt_cell hc
  rw [add_blockF] at this; exact this
theorem Src.other {w w' : World} {g q : Nat} {a : Option Addr} {n c : Nat} (h : Src w g a n c) (hg : w.grownBy w' (some q)) (hq : g ≠ q) (hx : ∀ x, a = some x → 0 < n → x.block ≠ q) : Src w' g a n c :=
  h.grown hg (fun e => hq (Option.some.inj e)) (fun x e h0 e2 => hx x e h0 (Option.some.inj e2))
theorem grownBy_setRowF (w : World) (g : Nat) (cs : Array Value) : w.grownBy (w.setRow g cs) (some g) :=
  ⟨rfl, rfl, rfl, by simp [World.setRow], fun k _ hne => setRow_other w g k cs (fun e => hne (by rw [e]))⟩
theorem FVar.grown {w w' : World} {g : Nat} {n v : ByteArray} {row : Option Nat} (h : FVar w g n v) (hg : w.grownBy w' row) (hne : some g ≠ row) : FVar w' g n v := by
  have hlt := h.lt
  unfold FVar at *
  rw [hg.block g hlt hne]; exact h
theorem of_n (g b m : Nat) (l : List ByteArray) (cb : Nat) (a : Option Addr) (n c : Nat) (w : World) (h : Src w g a n c) (hl : StrsIn w (some ⟨b, 0, none⟩) l) (hb : b ≠ g) (hm : l.length = m) (h0 : 0 < m) (h1 : m ≤ 1000) :
    Calls Tryz.prog 43 #[.pointer (some ⟨g, 0, none⟩), .slice (some ⟨b, 0, none⟩) m cb] w fun e w' => ∃ s ∈ l, e = .returned (.string s) ∧ Src w' g a n c ∧ w.grownBy w' (some g) := by
  subst hm
  exact of_any g b l cb a n c w h hl hb h0 h1

/-- A field that the laws make: valid, and small. -/
def MadeF (f : Fld) : Prop := fldB f.1 f.2 = true ∧ f.1.size ≤ 1000 ∧ f.2.size ≤ 1000
theorem made_of {s v : ByteArray} (hs : s ∈ namesF) (hv : v ∈ valsF) : MadeF (s, trimBA v) := by
  have h1 := List.all_eq_true.1 namesF_ok s hs
  have h2 := List.all_eq_true.1 valsF_ok v hv
  simp only [Bool.and_eq_true, decide_eq_true_eq] at h1 h2
  exact ⟨by rw [fldB_val h1.1]; exact h2.1, h1.2, Nat.le_trans (trimBA_size v) h2.2⟩

/-- A field of the source. -/
def SrcF (f : Fld) : Prop := ∃ s ∈ namesF, ∃ v ∈ valsF, f = (s, trimBA v)
theorem SrcF.made {f : Fld} (h : SrcF f) : MadeF f := by
  obtain ⟨s, hs, v, hv, rfl⟩ := h
  exact made_of hs hv

set_option maxRecDepth 100000 in
set_option maxHeartbeats 2000000 in
theorem srcFieldS_any (g : Nat) (a : Option Addr) (n c : Nat) (w : World) (h : Src w g a n c) :
    Calls Tryz.prog 28 #[.pointer (some ⟨g, 0, none⟩)] w fun e w' => ∃ f, e = .returned (.agg #[.string f.1, .string f.2]) ∧ SrcF f ∧ Src w' g a n c ∧ w.grownBy w' (some g) := by
  have H0 := Box.mk h
  have HLOW := Box.mk h.low
  have hlt := h.lt
  clear h
  go_enter Tryz.func28, Tryz.ntmps28
  go_wp2_with fail
  obtain ⟨W, hW⟩ : ∃ W, W = (w.alloc (.cells #[.string ⟨#[]⟩, .string ⟨#[]⟩] 34)).alloc (.cells (namesF.map Value.string).toArray 9) := ⟨_, rfl⟩
  have HBW := Box.mk (show Below w.heap.size w W by rw [hW]; exact below_twoF (below_oneF w _) _)
  have HQ := Box.mk (show FVar W w.heap.size ⟨#[]⟩ ⟨#[]⟩ by rw [hW]; exact (FVar.new w ⟨#[]⟩ ⟨#[]⟩).keep (below_oneF _ _))
  have HL := Box.mk (show StrsIn W (some ⟨w.heap.size + 1, 0, none⟩) namesF by
    have h1 := strsIn_newF (w.alloc (.cells #[.string ⟨#[]⟩, .string ⟨#[]⟩] 34)) namesF 9
    rw [World.size_alloc] at h1
    rw [hW]; exact h1)
  have HS := Box.mk (H0.out.keep HBW.out)
  change Calls _ _ _ ((w.alloc (.cells #[.string ⟨#[]⟩, .string ⟨#[]⟩] 34)).alloc (.cells (namesF.map Value.string).toArray 9)) _
  rw [← hW]
  clear hW
  refine (of_n g (w.heap.size + 1) 14 namesF 14 a n c W HS.out HL.out (by omega) rfl (by decide) (by decide)).mono ?_
  rintro e w1 ⟨s, hs, rfl, hsrc, hg1⟩
  have HNM := Box.mk hs
  have HS1 := Box.mk hsrc
  have HG1 := Box.mk (show w.grownBy w1 (some g) from grownBy_trans (grownBy_below HBW.out) hg1)
  have HQ1 := Box.mk (HQ.out.grown hg1 (fun e => by have := Option.some.inj e; omega))
  clear hs hsrc hg1 HS HL HQ HBW H0
  go_wp2_with fail
  obtain ⟨W, hW⟩ : ∃ W, W = w1.alloc (.cells (valsF.map Value.string).toArray 9) := ⟨_, rfl⟩
  have HBW := Box.mk (show Below w1.heap.size w1 W by rw [hW]; exact below_oneF w1 _)
  have HL := Box.mk (show StrsIn W (some ⟨w1.heap.size, 0, none⟩) valsF by rw [hW]; exact strsIn_newF w1 valsF 9)
  have HS2 := Box.mk (HS1.out.keep HBW.out)
  have hlt1 := HS1.out.lt
  change Calls _ _ _ (w1.alloc (.cells (valsF.map Value.string).toArray 9)) _
  rw [← hW]
  clear hW
  refine (of_n g w1.heap.size 11 valsF 11 a n c W HS2.out HL.out (by omega) rfl (by decide) (by decide)).mono ?_
  rintro e w2 ⟨v, hv, rfl, hsrc, hg2⟩
  have HVL := Box.mk hv
  have HS3 := Box.mk hsrc
  have HG3 := Box.mk (show w.grownBy w2 (some g) from grownBy_trans HG1.out (grownBy_trans (grownBy_below HBW.out) hg2))
  have HQ3 := Box.mk ((HQ1.out.keep HBW.out).grown hg2 (fun e => by have := Option.some.inj e; omega))
  have HMD := Box.mk (show SrcF (s, trimBA v) from ⟨s, HNM.out, v, hv, rfl⟩)
  have HVZ := Box.mk (show v.size ≤ maxLen by
    have h2 := List.all_eq_true.1 valsF_ok v hv
    simp only [Bool.and_eq_true, decide_eq_true_eq] at h2
    unfold maxLen; omega)
  clear hv hsrc hg2 HS2 HL HQ1 HBW HS1 HG1 HNM HVL
  go_wp2_with fail
  refine (refTrim_any v _ HVZ.out).mono ?_
  rintro e w3 ⟨rfl, rfl⟩
  generalize trimBA v = v' at *
  go_wp2_with (refine wpList_store_row rfl 34 _ _ rfl w.heap.size #[.string s, .string v'] rfl rfl 34 _ HQ3.out sizeF rfl (oneF _ _) ?_)
  (try simp only [Exit.inBlock, Exit.then])
  refine bodyPost_ret (results_cell_row rfl _ _ w.heap.size _ _ _ _ rfl (setRow_heap _ _ _ _ _ _ HQ3.out) Tryz.underlying34 rfl sizeF) rfl ?_
  have hnew := grownBy_setRowF w2 w.heap.size #[.string s, .string v']
  exact ⟨(s, v'), rfl, HMD.out, HS3.out.other hnew (by omega) (fun x e h0 => by have := HLOW.out x e h0; omega), grownBy_new HG3.out hnew (fun i e => by have := Option.some.inj e; omega)⟩
end Go.Proofs.YtnpbnaapbimjaaaGreatDoor
namespace Go.Proofs.YtnpbnaapbimjaaaGreatDoor
open Go.RowKit

/-- v is a slice with the fields l in a block of its own, at B or beyond. -/
def OwnF (B : Nat) (w : World) (v : Value) (l : List Fld) : Prop := w.ownsRow B 34 2 v l.length (cellsF l)
theorem OwnF.start (B : Nat) (w : World) : OwnF B w (.slice none 0 0) [] := World.ownsRow_nil _ _ _ _
theorem OwnF.lt {B : Nat} {w : World} {v : Value} {l : List Fld} (h : OwnF B w v l) {k : Nat} (hk : v.ownBlock = some k) : B ≤ k ∧ k < w.heap.size := World.ownsRow.lt h k hk
theorem OwnF.same {B : Nat} {w w' : World} {v : Value} {l : List Fld} (h : OwnF B w v l) (hs : ∀ k, v.ownBlock = some k → w'.heap[k]? = w.heap[k]?) : OwnF B w' v l := by
  obtain ⟨h1, h2⟩ := h
  refine ⟨h1, ?_⟩
  rcases h2 with h2 | ⟨g, cap, cur, hv, hg, hc, r⟩
  · exact .inl h2
  · exact .inr ⟨g, cap, cur, hv, hg, by rw [hs g (by rw [hv]; rfl)]; exact hc, r⟩
theorem OwnF.keep {B : Nat} {w w' : World} {v : Value} {l : List Fld} (h : OwnF B w v l) (hb : Below w.heap.size w w') : OwnF B w' v l :=
  h.same fun k hk => hb.block k (h.lt hk).2
theorem OwnF.grown {B : Nat} {w w' : World} {v : Value} {l : List Fld} {row : Option Nat} (h : OwnF B w v l) (hg : w.grownBy w' row) (hne : ∀ k, v.ownBlock = some k → some k ≠ row) : OwnF B w' v l :=
  h.same fun k hk => hg.block k (h.lt hk).2 (hne k hk)
theorem OwnF.shape {B : Nat} {w : World} {v : Value} {l : List Fld} (h : OwnF B w v l) : ∃ a cap, v = .slice a l.length cap ∧ FldsC w a l cap ∧ l.length ≤ cap := by
  obtain ⟨h1, h2⟩ := h
  rcases h2 with ⟨rfl, h2⟩ | ⟨g, cap, cur, rfl, hg, hc, hcap, hm, hsz, ht⟩
  · have : l = [] := List.eq_nil_of_length_eq_zero h2
    subst this
    exact ⟨none, 0, rfl, ⟨FldsIn.nil _ _, fun _ => ⟨rfl, rfl⟩⟩, Nat.le_refl _⟩
  · refine ⟨_, cap, rfl, ⟨FldsIn.of_cells fun j u hj => ?_, fun e => by cases e⟩, hcap⟩
    have e := congrArg (fun x => x[j]?) ht
    have hlt : j < l.length * 2 := by rw [← cellsF_len]; exact (List.getElem?_eq_some_iff.1 hj).1
    rw [hj, List.getElem?_take_of_lt hlt] at e
    rw [Addr.add_lit]
    simp only [World.cell?, hc, Nat.zero_add]
    simpa using e
section
variable {ops : Array Oper} {rest : List Oper} {o : Oper} {act : Act} {Q : Exit → Act → World → Prop}
theorem wpList_append_ownf (w : World) (hgd : o.guard = none) (s x : Operand) (ho : o.op = .call { callee := .builtin .append, args := #[s, x], argTypes := #[23, 23] })
    {B : Nat} {v : Value} {l : List Fld} (hs : act.eval s = v) (h : OwnF B w v l) {b c : Nat} (hx : act.eval x = .slice (some ⟨b, 0, none⟩) 1 c) {y : Fld} (hy : w.cell? ⟨b, 0, none⟩ = some (.string y.1)) (hy2 : w.cell? ⟨b, 1, none⟩ = some (.string y.2))
    (hn : l.length + 1 ≤ 4398046511104) (hB : B ≤ w.heap.size)
    (K : ∀ v' w', OwnF B w' v' (l ++ [y]) → w.grownBy w' v.ownBlock → wpList Tryz.prog ops Q rest (act.put o.dst v') w') : wpList Tryz.prog ops Q (o :: rest) act w := by
  obtain ⟨i0, hi, hz0, hz1, hz2⟩ := info_parts Tryz.info34
  refine wpList_append_lies w hgd s x 23 ho B 34 i0 _ 2 32 Tryz.underlying23 hi hz0 hz1 hz2 rfl (by decide) v l.length (cellsF l) hs h ⟨b, 0, none⟩ 1 c [.string y.1, .string y.2] hx rfl ?_ ?_ (by decide) (by unfold maxLen; omega) (by omega) hB w.heap.size rfl ?_
  · intro j u hj
    match j, hj with
    | 0, hj => simp at hj; subst hj; rw [Addr.add_lit]; exact hy
    | 1, hj => simp at hj; subst hj; rw [Addr.add_lit]; exact hy2
    | j + 2, hj => simp at hj
  · intro u hu; simp at hu; rcases hu with rfl | rfl <;> rfl
  · intro g cap w' hown hgrow hg hlt
    refine K _ w' ?_ hgrow
    unfold OwnF
    rw [List.length_append, cellsF_app]; exact hown
end

set_option maxRecDepth 100000 in
set_option maxHeartbeats 2000000 in
theorem srcFieldsS_any (g m : Nat) (a : Option Addr) (n c : Nat) (w : World) (h : Src w g a n c) (hm : m ≤ 1000) :
    Calls Tryz.prog 14 #[.pointer (some ⟨g, 0, none⟩), .int .i64 m] w fun e w' => ∃ v l, e = .returned v ∧ OwnF w.heap.size w' v l ∧ l.length ≤ m ∧ (∀ f ∈ l, SrcF f) ∧ Src w' g a n c ∧ w.grownBy w' (some g) := by
  have H0 := Box.mk h
  have HLOW := Box.mk h.low
  have hlt := h.lt
  clear h
  go_enter Tryz.func14, Tryz.ntmps14
  go_wp2_with fail
  refine (next_any g (m + 1) a n c w H0.out (by omega) (by omega)).mono ?_
  rintro e w1 ⟨k, hk, rfl, hsrc, hg1⟩
  have HS1 := Box.mk hsrc
  have HG1 := Box.mk hg1
  clear hsrc hg1 H0
  go_wp2_with fail
  go_loopw [5, 6] (fun v iv wr => ∃ j : Nat, j ≤ m ∧ iv = .int .i64 j ∧ ∃ l : List Fld, l.length + j ≤ m ∧ Box (OwnF w.heap.size wr v l ∧ (∀ f ∈ l, SrcF f) ∧ Src wr g a n c ∧ w.grownBy wr (some g))) (fun _ iv _ => (intOf iv).toNat)
  case atStart => exact ⟨k, by omega, rfl, [], by simp; omega, ⟨OwnF.start _ _, by simp, HS1.out, HG1.out⟩⟩
  case round =>
    clear HS1 HG1
    obtain ⟨j, hj, rfl, l, hl, HM⟩ := hrel
    by_cases hpos : 0 < j
    · go_wp2_with fail
      refine (srcFieldS_any g a n c wr HM.out.2.2.1).mono ?_
      rintro e w2 ⟨f, rfl, hmd, hsrc, hg2⟩
      have HO2 := Box.mk (HM.out.1.grown hg2 (fun q e e2 => by have := (HM.out.1.lt e).1; have := Option.some.inj e2; omega))
      have HS2 := Box.mk hsrc
      have HG2 := Box.mk (grownBy_trans HM.out.2.2.2 hg2)
      have HALL := Box.mk (show ∀ y ∈ l ++ [f], SrcF y from fun y hy => by
        rcases List.mem_append.1 hy with h1 | h1
        · exact HM.out.2.1 y h1
        · simp at h1; rw [h1]; exact hmd)
      have hsz := HG2.out.size
      clear hmd hsrc hg2 HM
      go_wp2_with (at_builtin; refine wpList_append_ownf _ rfl _ _ rfl rfl (HO2.out.keep ((Below.refl _ _).alloc (Nat.le_refl _) _)) rfl (y := f) ?c1 ?c2 (by omega) (by simp; omega) ?c3)
      case c1 => simp
      case c2 => simp
      case c3 =>
        intro v' w3 hown hgrow
        have HO3 := Box.mk hown
        have hgrow2 : w2.grownBy w3 u5.ownBlock := ⟨hgrow.os, hgrow.tape, hgrow.output, Nat.le_trans (by simp) hgrow.size, fun k hk hne => by
          rw [hgrow.block k (by simp; omega) hne]
          exact (below_oneF w2 _).block k hk⟩
        have HS3 := Box.mk (HS2.out.grown hgrow2 (fun e => by have := (HO2.out.lt e.symm).1; omega) (fun x e h0 e2 => by have := (HO2.out.lt e2.symm).1; have := HLOW.out x e h0; omega))
        have HG3 := Box.mk (grownBy_new HG2.out hgrow2 (fun i e => (HO2.out.lt e).1))
        clear hown hgrow hgrow2 HO2 HS2 HG2
        go_wp2_with fail
        go_roundw
        case rel => exact ⟨j - 1, by omega, by go_num, l ++ [f], by simp; omega, ⟨HO3.out, HALL.out, HS3.out, HG3.out⟩⟩
        case measure => simp [intOf]; omega
    · obtain rfl : j = 0 := by omega
      go_wp2_with fail
      go_ret
      exact ⟨_, l, rfl, HM.out.1, by omega, HM.out.2.1, HM.out.2.2.1, HM.out.2.2.2⟩
end Go.Proofs.YtnpbnaapbimjaaaGreatDoor
namespace Go.Proofs.YtnpbnaapbimjaaaGreatDoor
open Go.RowKit

theorem IntsF.alloc {w : World} {a : Option Addr} {n : Nat} (h : IntsF w a n) (o : Obj) : IntsF (w.alloc o) a n := h.keep (below_oneF w o)
theorem src_box {w : World} {a : Option Addr} {n c : Nat} (h : IntsF w a n) (hn : n ≤ maxLen) : Src (w.alloc (.cells #[.slice a n c, .int .i64 0] 39)) w.heap.size a n c := by
  refine ⟨⟨0, Nat.zero_le _, heap_alloc_new _ _⟩, hn, h.alloc _, fun x e h0 => ?_⟩
  obtain ⟨y, z, e2, hc, _⟩ := h 0 h0
  rw [e] at e2
  obtain rfl := Option.some.inj e2
  have := lt_cell hc
  rw [add_blockF] at this
  omega
theorem below_box {w w1 w2 : World} (h : Below w.heap.size w w1) (hg : w1.grownBy w2 (some w.heap.size)) : Below w.heap.size w w2 :=
  h.grown hg h.size fun k e => by have := Option.some.inj e; omega

end Go.Proofs.YtnpbnaapbimjaaaGreatDoor
namespace Go.Proofs.YtnpbnaapbimjaaaGreatDoor
open Go.RowKit

theorem SmallF.short {l : List Fld} (h : SmallF l) : ShortF l := fun f hf => ⟨le_maxLen (h f hf).1, le_maxLen (h f hf).2⟩

end Go.Proofs.YtnpbnaapbimjaaaGreatDoor
namespace Go.Proofs.YtnpbnaapbimjaaaGreatDoor
open Go.RowKit

theorem total_values {x : List Fld} (h : SmallF x) (n : ByteArray) : total (valuesL x n) ≤ x.length * 1048577 := by
  unfold valuesL
  induction x with
  | nil => exact Nat.zero_le _
  | cons f t ih =>
    have h1 := ih (fun g hg => h g (List.mem_cons_of_mem _ hg))
    have h2 := (h f (List.mem_cons_self ..)).2
    clear h ih
    rw [List.filter_cons, List.length_cons, Nat.add_mul, Nat.one_mul]
    split
    · simp only [List.map_cons, total]
      exact Nat.le_trans (Nat.add_le_add (Nat.add_le_add_right h2 1) h1) (Nat.le_of_eq (Nat.add_comm _ _))
    · exact Nat.le_trans h1 (Nat.le_add_right _ _)

theorem small_total {l : List Fld} (h : SmallF l) (hl : l.length ≤ 1000) (n : ByteArray) : total (valuesL l n) ≤ 2000000000 := Nat.le_trans (total_values h n) (Nat.le_trans (Nat.mul_le_mul_right _ hl) (by decide))
end Go.Proofs.YtnpbnaapbimjaaaGreatDoor
namespace Go.Proofs.YtnpbnaapbimjaaaGreatDoor
open Go.RowKit

theorem lowB_idem (c : UInt8) : lowB (lowB c) = lowB c := by
  by_cases h : upB c.toNat = true
  · have e := lowB_val' c h
    have : upB (lowB c).toNat = false := by
      unfold upB at h ⊢; simp at h ⊢; omega
    show (if upB ((lowB c).toNat : Int) = true then lowB c + 32 else lowB c) = lowB c
    rw [this]; rfl
  · have h' : upB c.toNat = false := by simpa using h
    have e : lowB c = c := by unfold lowB; rw [h']; rfl
    rw [e, e]
theorem lowS_idem (s : ByteArray) : lowS (lowS s) = lowS s := by
  unfold lowS; simp only [List.map_map]
  congr 2
  exact List.map_congr_left fun c _ => lowB_idem c
theorem lowS_size (s : ByteArray) : (lowS s).size = s.size := by
  show (lowS s).data.size = s.data.size
  simp [lowS]

section
variable (w : World) (m : Int)

end
end Go.Proofs.YtnpbnaapbimjaaaGreatDoor
namespace Go.Proofs.YtnpbnaapbimjaaaGreatDoor
open Go.RowKit

theorem splitL_total (c : UInt8) : ∀ l : List UInt8, ((splitL c l).map (fun p => p.length + 1)).sum = l.length + 1
  | [] => rfl
  | b :: t => by
    have ih := splitL_total c t
    rw [splitL]; split
    · simp; omega
    · cases h : splitL c t with
      | nil => exact absurd h (splitL_ne c t)
      | cons q r => rw [h] at ih; simp [front] at ih ⊢; omega
theorem total_map (L : List (List UInt8)) : total (L.map ofL) = (L.map (fun p => p.length + 1)).sum := by
  induction L with
  | nil => rfl
  | cons a t ih =>
    have e : (ofL a).size = a.length := by show (ofL a).data.size = _; simp [ofL]
    simp only [List.map_cons, total, List.sum_cons, ih, e]
theorem total_elemsOf (l : List ByteArray) : total (elemsOf l) ≤ total l := by
  unfold elemsOf
  induction l with
  | nil => exact Nat.le_refl _
  | cons a t ih =>
    have h := trimBA_size a
    simp only [List.map_cons, List.filter_cons]
    split <;> simp only [total] <;> omega
theorem total_append (a b : List ByteArray) : total (a ++ b) = total a + total b := by
  induction a with
  | nil => simp [total]
  | cons x t ih => simp only [List.cons_append, total, ih]; omega
theorem total_elemL (a : ByteArray) : total (elemL a) ≤ a.size + 1 := by
  have h1 := total_elemsOf (splitS 44 a)
  have h2 : total (splitS 44 a) = a.size + 1 := by
    unfold splitS; rw [total_map, splitL_total]; simp
  unfold elemL; omega
theorem total_listL : ∀ l : List ByteArray, total (listL l) ≤ total l
  | [] => Nat.le_refl _
  | a :: t => by
    have h1 := total_listL t
    have h2 := total_elemL a
    have e : listL (a :: t) = elemL a ++ listL t := by unfold listL; rw [List.flatMap_cons]
    rw [e, total_append]; simp only [total]; omega

section
variable (w : World) (m : Int)

end
end Go.Proofs.YtnpbnaapbimjaaaGreatDoor
namespace Go.Proofs.YtnpbnaapbimjaaaGreatDoor
open Go.RowKit

def cnN : ByteArray := ⟨#[99, 111, 110, 110, 101, 99, 116, 105, 111, 110]⟩
theorem total_mem {l : List ByteArray} {y : ByteArray} (h : y ∈ l) : y.size + 1 ≤ total l := by
  obtain ⟨k, hk, rfl⟩ := List.getElem_of_mem h
  exact total_at hk (Nat.le_refl _)
theorem listL_small {l : List ByteArray} {y : ByteArray} (h : y ∈ listL l) : y.size ≤ total l := by
  have h1 := total_mem h
  have h2 := total_listL l
  omega
end Go.Proofs.YtnpbnaapbimjaaaGreatDoor
namespace Go.Proofs.YtnpbnaapbimjaaaGreatDoor
open Go.RowKit

/-- What package bytealg holds. -/
def MaxOk (w : World) (mm : Int) : Prop := w.cell? ⟨0, 0, none⟩ = some (.int .i64 mm)
theorem MaxOk.keep {w w' : World} {mm : Int} (h : MaxOk w mm) (hb : Below w.heap.size w w') : MaxOk w' mm := below_cell hb h
def cnP : ByteArray := ⟨#[67, 111, 110, 110, 101, 99, 116, 105, 111, 110]⟩
theorem low_cn : lowS cnP = lowS cnN := by decide +kernel
theorem foldS_low {a n m : ByteArray} (h : lowS n = lowS m) : foldS a n = foldS a m := by unfold foldS; rw [h]
theorem valuesL_low {n m : ByteArray} (l : List Fld) (h : lowS n = lowS m) : valuesL l n = valuesL l m := by
  unfold valuesL; simp only [foldS_low h]
end Go.Proofs.YtnpbnaapbimjaaaGreatDoor
namespace Go.Proofs.YtnpbnaapbimjaaaGreatDoor
open Go.RowKit

def nineN : List ByteArray := [⟨#[67, 111, 110, 110, 101, 99, 116, 105, 111, 110]⟩, ⟨#[75, 101, 101, 112, 45, 65, 108, 105, 118, 101]⟩, ⟨#[80, 114, 111, 120, 121, 45, 67, 111, 110, 110, 101, 99, 116, 105, 111, 110]⟩, ⟨#[84, 69]⟩, ⟨#[84, 114, 97, 105, 108, 101, 114]⟩, ⟨#[84, 114, 97, 110, 115, 102, 101, 114, 45, 69, 110, 99, 111, 100, 105, 110, 103]⟩, ⟨#[85, 112, 103, 114, 97, 100, 101]⟩, ⟨#[69, 120, 112, 101, 99, 116]⟩, ⟨#[67, 111, 110, 116, 101, 110, 116, 45, 76, 101, 110, 103, 116, 104]⟩]
def nineR : List ByteArray := [⟨#[99, 111, 110, 110, 101, 99, 116, 105, 111, 110]⟩, ⟨#[107, 101, 101, 112, 45, 97, 108, 105, 118, 101]⟩, ⟨#[112, 114, 111, 120, 121, 45, 99, 111, 110, 110, 101, 99, 116, 105, 111, 110]⟩, ⟨#[116, 101]⟩, ⟨#[116, 114, 97, 105, 108, 101, 114]⟩, ⟨#[116, 114, 97, 110, 115, 102, 101, 114, 45, 101, 110, 99, 111, 100, 105, 110, 103]⟩, ⟨#[117, 112, 103, 114, 97, 100, 101]⟩, ⟨#[101, 120, 112, 101, 99, 116]⟩, ⟨#[99, 111, 110, 116, 101, 110, 116, 45, 108, 101, 110, 103, 116, 104]⟩]
def hostP : ByteArray := ⟨#[72, 111, 115, 116]⟩
def cookP : ByteArray := ⟨#[67, 111, 111, 107, 105, 101]⟩
def hostLo : ByteArray := ⟨#[104, 111, 115, 116]⟩
def cookN : ByteArray := ⟨#[99, 111, 111, 107, 105, 101]⟩
def sepP : ByteArray := ⟨#[44, 32]⟩
theorem low_host : lowS hostP = lowS hostLo := by decide +kernel
theorem low_cook : lowS cookP = lowS cookN := by decide +kernel
theorem low_nine : nineN.map lowS = nineR.map lowS := by decide +kernel
/-- A name that Connection cannot remove. -/
def protB (s : ByteArray) : Bool := foldS s hostLo || foldS s cookN
def namedL (x : List ByteArray) : List ByteArray := x.filter fun s => !protB s
def stripNs (l : List Fld) : List ByteArray := nineN ++ namedL (listL (valuesL l cnN))
def stripL (l : List Fld) : List Fld := withoutL l (stripNs l)
def tailB (l : List ByteArray) : List UInt8 := l.flatMap fun y => [44, 32] ++ y.data.toList
def joinB : List ByteArray → List UInt8
  | [] => []
  | x :: r => x.data.toList ++ tailB r
def joinS (l : List ByteArray) : ByteArray := ⟨(joinB l).toArray⟩
theorem inFoldL_app (a b : List ByteArray) (s : ByteArray) : inFoldL (a ++ b) s = (inFoldL a s || inFoldL b s) := by unfold inFoldL; rw [List.any_append]
theorem inFoldL_map (a : List ByteArray) (s : ByteArray) : inFoldL a s = (a.map lowS).any (fun x => x.toList == (lowS s).toList) := by
  unfold inFoldL foldS; rw [List.any_map]; rfl
theorem inFoldL_nine (s : ByteArray) : inFoldL nineR s = inFoldL nineN s := by rw [inFoldL_map, inFoldL_map, low_nine]
theorem foldS_right {a b x : ByteArray} (h : foldS a b = true) : foldS x a = foldS x b := by
  unfold foldS at *; rw [eq_of_beq h]
theorem inFoldL_right {a b : ByteArray} (ns : List ByteArray) (h : foldS a b = true) : inFoldL ns a = inFoldL ns b := by
  unfold inFoldL; congr 1; funext x; exact foldS_right h
theorem inFoldL_low {a b : ByteArray} (ns : List ByteArray) (h : lowS a = lowS b) : inFoldL ns a = inFoldL ns b := by
  unfold inFoldL; congr 1; funext x; exact foldS_low h
theorem vals_app (a b : List Fld) (n : ByteArray) : valuesL (a ++ b) n = valuesL a n ++ valuesL b n := by
  unfold valuesL; rw [List.filter_append, List.map_append]
theorem valuesL_kept (l : List Fld) (ns : List ByteArray) (n : ByteArray) (h : inFoldL ns n = false) : valuesL (withoutL l ns) n = valuesL l n := by
  unfold valuesL withoutL
  rw [List.filter_filter]
  congr 1
  apply List.filter_congr
  intro f _
  by_cases hf : foldS f.1 n = true
  · rw [hf, inFoldL_right ns hf, h]; rfl
  · rw [Bool.not_eq_true] at hf; rw [hf]; rfl
theorem valuesL_gone (l : List Fld) (ns : List ByteArray) (n : ByteArray) (h : inFoldL ns n = true) : valuesL (withoutL l ns) n = [] := by
  unfold valuesL withoutL
  rw [List.filter_filter, List.map_eq_nil_iff, List.filter_eq_nil_iff]
  intro f _ hf
  rw [Bool.and_eq_true] at hf
  rw [inFoldL_right ns hf.1, h] at hf
  exact absurd hf.2 (by decide)
theorem inFoldL_one (n m : ByteArray) : inFoldL [n] m = foldS n m := by unfold inFoldL; simp
theorem vals_one (n v m : ByteArray) : valuesL [(n, v)] m = if foldS n m then [v] else [] := by
  unfold valuesL; by_cases h : foldS n m = true <;> simp [h]
theorem foldS_refl (a : ByteArray) : foldS a a = true := by unfold foldS; exact beq_self_eq_true _
theorem nine_cn : inFoldL nineN cnN = true := by decide +kernel
theorem strip_ref (l : List Fld) : withoutL l (nineR ++ namedL (listL (valuesL l cnN))) = stripL l := by
  unfold stripL withoutL stripNs
  apply List.filter_congr
  intro f _
  rw [inFoldL_app, inFoldL_app, inFoldL_nine]
theorem stripL_len (l : List Fld) : (stripL l).length ≤ l.length := withoutL_len _ _
theorem stripL_short {l : List Fld} (h : ShortF l) : ShortF (stripL l) := withoutL_short h _
theorem tailB_len : ∀ l : List ByteArray, (tailB l).length ≤ 2 * total l
  | [] => Nat.le_refl _
  | x :: r => by
    have ih := tailB_len r
    unfold tailB at *
    rw [List.flatMap_cons, List.length_append]
    simp only [List.length_append, List.length_cons, List.length_nil, total]
    have : x.data.toList.length = x.size := by simp
    omega
theorem joinB_len (l : List ByteArray) : (joinB l).length ≤ 2 * total l := by
  cases l with
  | nil => exact Nat.zero_le _
  | cons x r =>
    have ih := tailB_len r
    unfold joinB
    rw [List.length_append]
    have : x.data.toList.length = x.size := by simp
    simp only [total]; omega
theorem joinS_size (l : List ByteArray) : (joinS l).size ≤ 2 * total l := by
  have := joinB_len l
  show (joinB l).toArray.size ≤ _
  rw [List.size_toArray]; exact this
theorem tailB_snoc (l : List ByteArray) (x : ByteArray) : tailB (l ++ [x]) = tailB l ++ [44, 32] ++ x.data.toList := by
  unfold tailB; rw [List.flatMap_append]; simp
theorem joinB_snoc {l : List ByteArray} (h : l ≠ []) (x : ByteArray) : joinB (l ++ [x]) = joinB l ++ [44, 32] ++ x.data.toList := by
  cases l with
  | nil => exact absurd rfl h
  | cons y r => show y.data.toList ++ tailB (r ++ [x]) = _; rw [tailB_snoc]; unfold joinB; simp
theorem joinS_one (x : ByteArray) : joinS [x] = x := ba_ext (by unfold joinS joinB tailB; simp)
theorem joinS_snoc {l : List ByteArray} (h : l ≠ []) (x : ByteArray) : joinS (l ++ [x]) = joinS l ++ sepP ++ x := ba_ext (by
  rw [ba_app_list, ba_app_list]
  unfold joinS; rw [joinB_snoc h]; rfl)
end Go.Proofs.YtnpbnaapbimjaaaGreatDoor
