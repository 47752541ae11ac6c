/- The law NormalOrder. Opening the arguments of the laws on fields. -/
import Derived.Test.YtnpbnaapbimjaaaDoorPk1
import Derived.Test.YtnpbnaapbimjaaaDoorPk2
import Derived.Test.YtnpbnaapbimjaaaDoorPk3
import Derived.Test.YtnpbnaapbimjaaaDoorRows
import Derived.WalkKit
import Derived.WalkSpells
import Derived.WalkLawsBesides
import Derived.BigQuiet
import Derived.Deep.QuietTactic
import Derived.Lib.Bytealg
import Derived.Lib.IndexLaws
import Derived.Lib.Hide
import Derived.Laws.IdiomStrings
import Derived.Lib.SlTrimSet
import Derived.Lib.IndexBytes
import Derived.Lib.Split
import Derived.Deep.AppendLies
import Derived.Shelf.SlGeneric
import Derived.Shelf.Strings.SlTrimAscii
import Derived.Shelf.Strings.SplitShaped
import Derived.Shelf.LaysM
import Derived.Shelf.Strings.BuilderK
import Derived.Shelf.Strconv.Itoa4
import Derived.Shelf.Strings.Builder2
import Derived.Shelf.SlLaysF0
import Derived.Shelf.SlLaysM
import Derived.Shelf.SlLaysN
import Derived.Ground.SlsfProg
import Derived.Ground.SlgmProg
import Derived.Ground.SlgnProg
import Derived.Test.YtnpbnaapbimjaaaDoorProg
import Derived.Lib.SplitLaws
import Derived.WalkSmall
import Derived.ProofKit
import Derived.OpenShut
import Derived.Lib.Strings
import Derived.SliceStrings
import Derived.Deep.Quiet
import Derived.Tactics
import Derived.KernelRfl
import Derived.Below
import Derived.Laws.Bits64
import Derived.Lib.SlBytesConst
import Derived.Maps.AppendAt
import Derived.Laws.AppendOwnNone
import Derived.Great.BuildSlice
import Derived.Laws.Rows
import Derived.Laws.BitsAllLaws
import Derived.Laws.Shifts
import Derived.Maps.OwnOps
import Derived.Maps.OwnSet
import Derived.Deep.SlicePairs
import Derived.Lib.AppendZerosOnto
import Derived.Lib.AppendStr
import Derived.Laws.CopyOwn
import Derived.OwnWalk
import Derived.Laws.Strings3
import Derived.Laws.Concat
import Derived.Lib.ItoaMem
import Derived.Deep.RegionHeld3
import Derived.IntWalk
import Derived.Sort.Grow
import Derived.Lib.LaidTab
import Derived.LaidSub
import Derived.Sort.Walk0
import Derived.Laws.OwnMore
import Derived.ArgAppend
import Derived.Shelf.Strings.OnBuilder
import Derived.Laws.Tables
import Derived.Maps.RangeWalk
import Derived.Lib.SlicesCompact
import Derived.Shelf.SlSortCmp.Insertion
import Derived.Sort.Statements
import Derived.Shelf.SlSortCmp.WholeK
import Derived.Shelf.SlSortCmp.NoneTotal
import Derived.Shelf.SortM.Plain
import Derived.Shelf.SlicesG.CompactS
import Derived.Shelf.Small.Strs
import Derived.Sort.OwnSorted
import Derived.Deep.DeepCutAuto
import Derived.Deep.CutBlock
namespace Go.Proofs.YtnpbnaapbimjaaaDoor
open Go.RowKit
set_option linter.unusedSimpArgs false
set_option linter.unusedVariables false

theorem cellsF_take : ∀ (l : List Fld) (k : Nat), (cellsF l).take (k * 2) = cellsF (l.take k)
  | [], k => by simp [cellsF]
  | f :: r, 0 => rfl
  | f :: r, k + 1 => by
    rw [show cellsF (f :: r) = .string f.1 :: .string f.2 :: cellsF r from rfl, show (k + 1) * 2 = k * 2 + 1 + 1 by omega, List.take_succ_cons, List.take_succ_cons, cellsF_take r k]
    rfl
theorem cellsF_drop : ∀ (l : List Fld) (k : Nat), (cellsF l).drop (k * 2) = cellsF (l.drop k)
  | [], k => by simp [cellsF]
  | f :: r, 0 => rfl
  | f :: r, k + 1 => by
    rw [show cellsF (f :: r) = .string f.1 :: .string f.2 :: cellsF r from rfl, show (k + 1) * 2 = k * 2 + 1 + 1 by omega, List.drop_succ_cons, List.drop_succ_cons, cellsF_drop r k]
    rfl
/-- The own slice in block g. -/
structure OwnG (B g cap : Nat) (w : World) (l : List Fld) : Prop where
  low : B ≤ g
  row : ∃ cur, w.heap[g]? = some (.cells cur 27 (0, 0)) ∧ cur.size = cap * 2 ∧ cur.toList.take (l.length * 2) = cellsF l
  cap : l.length ≤ cap
theorem OwnG.lt {B g cap : Nat} {w : World} {l : List Fld} (h : OwnG B g cap w l) : g < w.heap.size := by
  obtain ⟨cur, h1, _⟩ := h.row
  exact (Array.getElem?_eq_some_iff.1 h1).1
theorem OwnG.keep {B g cap : Nat} {w w' : World} {l : List Fld} (h : OwnG B g cap w l) (hb : Below w.heap.size w w') : OwnG B g cap w' l := by
  have hlt := h.lt
  obtain ⟨cur, h1, h2⟩ := h.row
  exact ⟨h.low, ⟨cur, by rw [hb.block _ hlt]; exact h1, h2⟩, h.cap⟩
theorem OwnG.cells {B g cap : Nat} {w : World} {l : List Fld} (h : OwnG B g cap w l) : ∀ j u, (cellsF l)[j]? = some u → w.cell? ⟨g, j, none⟩ = some u := by
  intro j u hj
  obtain ⟨cur, h1, h2, h3⟩ := h.row
  have e := congrArg (fun x => x[j]?) h3
  have hlt : j < l.length * 2 := by rw [← cellsF_len]; exact (List.getElem?_eq_some_iff.1 hj).1
  simp only [hj, List.getElem?_take_of_lt hlt] at e
  simp only [World.cell?, h1]
  simpa using e
theorem OwnG.flds {B g cap : Nat} {w : World} {l : List Fld} (h : OwnG B g cap w l) : FldsC w (some ⟨g, 0, none⟩) l cap :=
  ⟨FldsIn.of_cells fun j u hj => by rw [Addr.add_lit, Nat.zero_add]; exact h.cells j u hj, fun e => by cases e⟩
theorem OwnF.toG {B : Nat} {w : World} {v : Value} {l : List Fld} (h : OwnF B w v l) (hne : l ≠ []) : ∃ g cap, v = .slice (some ⟨g, 0, none⟩) l.length cap ∧ OwnG B g cap w l := by
  obtain ⟨h1, h2⟩ := h
  rcases h2 with ⟨rfl, h2⟩ | ⟨g, cap, cur, rfl, hg, hc, hcap, hm, hsz, ht⟩
  · exact absurd (List.eq_nil_of_length_eq_zero h2) hne
  · exact ⟨g, cap, rfl, hg, ⟨cur, hc, hsz, ht⟩, hcap⟩
/-- The row with one field stored. -/
theorem OwnG.set {B g cap : Nat} {w : World} {l : List Fld} (h : OwnG B g cap w l) {k : Nat} (hk : k < l.length) (f : Fld) :
    ∃ cur new, w.heap[g]? = some (.cells cur 27 (0, 0)) ∧ k * 2 + 2 ≤ cur.size ∧ (cur.toList.take (k * 2) ++ ([.string f.1, .string f.2] : List Value) ++ cur.toList.drop (k * 2 + 2)).toArray = new ∧ OwnG B g cap (w.setRow g new) (l.set k f) := by
  obtain ⟨cur, h1, h2, h3⟩ := h.row
  have hc := h.cap
  have hsz : k * 2 + 2 ≤ cur.size := by omega
  refine ⟨cur, _, h1, hsz, rfl, h.low, ⟨_, setRow_heap _ _ _ _ _ _ h1, ?_, ?_⟩, by rw [List.length_set]; exact hc⟩
  · simp only [List.size_toArray, List.length_append, List.length_take, List.length_drop, Array.length_toList, List.length_cons, List.length_nil]
    omega
  · rw [List.length_set]
    have hsplit : cur.toList = cellsF l ++ cur.toList.drop (l.length * 2) := by rw [← h3, List.take_append_drop]
    have e1 : cur.toList.take (k * 2) = cellsF (l.take k) := by
      rw [hsplit, List.take_append_of_le_length (by rw [cellsF_len]; omega), cellsF_take]
    have e2 : cur.toList.drop (k * 2 + 2) = cellsF (l.drop (k + 1)) ++ cur.toList.drop (l.length * 2) := by
      have h5 : (cellsF l).drop (k * 2 + 2) = cellsF (l.drop (k + 1)) := by rw [show k * 2 + 2 = (k + 1) * 2 by omega, cellsF_drop]
      rw [← h5]
      conv => lhs; rw [hsplit]
      rw [List.drop_append_of_le_length (by rw [cellsF_len]; omega)]
    have e3 : cellsF (l.set k f) = cellsF (l.take k) ++ [.string f.1, .string f.2] ++ cellsF (l.drop (k + 1)) := by
      rw [List.set_eq_take_append_cons_drop, if_pos hk, cellsF_app, List.append_assoc]
      rfl
    simp only
    rw [e1, e2, ← List.append_assoc, ← e3, List.take_append_of_le_length (by rw [cellsF_len, List.length_set]; omega), List.take_of_length_le (by rw [cellsF_len, List.length_set]; omega)]
def swapN (l : List Fld) (k : Nat) (f g : Fld) : List Fld := (l.set k g).set (k + 1) f
theorem swapN_eq (l : List Fld) (k : Nat) (hk : k + 1 < l.length) : swapN l k l[k] l[k + 1] = l.take k ++ [l[k + 1], l[k]] ++ l.drop (k + 2) := by
  unfold swapN
  refine List.ext_getElem? fun j => ?_
  rw [List.getElem?_set, List.getElem?_set]
  simp only [List.length_set]
  rcases Nat.lt_trichotomy j k with h | rfl | h
  · rw [if_neg (by omega), if_neg (by omega), List.append_assoc, List.getElem?_append_left (by rw [List.length_take]; omega), List.getElem?_take_of_lt h]
  · rw [if_neg (by omega), if_pos rfl, if_pos (by omega), List.append_assoc, List.getElem?_append_right (by rw [List.length_take]; omega)]
    simp [List.length_take, Nat.min_eq_left (by omega : j ≤ l.length)]
  · rcases Nat.lt_or_ge (k + 1) j with h2 | h2
    · rw [if_neg (by omega), if_neg (by omega), List.getElem?_append_right (by rw [List.length_append, List.length_take]; simp; omega)]
      rw [List.getElem?_drop]
      congr 1
      rw [List.length_append, List.length_take]; simp; omega
    · obtain rfl : j = k + 1 := by omega
      rw [if_pos rfl, if_pos (by omega), List.append_assoc, List.getElem?_append_right (by rw [List.length_take]; omega)]
      simp [List.length_take, Nat.min_eq_left (by omega : k ≤ l.length)]
theorem cons_three (l : List Fld) (k : Nat) (hk : k + 1 < l.length) : l = l.take k ++ [l[k], l[k + 1]] ++ l.drop (k + 2) := by
  have h1 : l.drop k = l[k] :: l.drop (k + 1) := List.drop_eq_getElem_cons (by omega)
  have h2 : l.drop (k + 1) = l[k + 1] :: l.drop (k + 2) := List.drop_eq_getElem_cons hk
  conv => lhs; rw [← List.take_append_drop k l, h1, h2]
  simp
theorem fieldsN_swapN (l : List Fld) (k : Nat) (hk : k + 1 < l.length) (ig : List ByteArray) (h : foldS l[k].1 l[k + 1].1 = false) : fieldsN (swapN l k l[k] l[k + 1]) ig = fieldsN l ig := by
  rw [swapN_eq l k hk, fieldsN_swap _ _ _ _ _ h]
  congr 1
  exact (cons_three l k hk).symm
theorem swapN_small {l : List Fld} {k : Nat} {f g : Fld} (h : SmallF l) (hf : f ∈ l) (hg : g ∈ l) : SmallF (swapN l k f g) := by
  intro x hx
  unfold swapN at hx
  rcases List.mem_or_eq_of_mem_set hx with hx | rfl
  · rcases List.mem_or_eq_of_mem_set hx with hx | rfl
    · exact h x hx
    · exact h _ hg
  · exact h _ hf
theorem lowF_small {l : List Fld} (h : SmallF l) : SmallF (lowF l) := by
  intro x hx
  unfold lowF at hx
  rw [List.mem_map] at hx
  obtain ⟨f, hf, rfl⟩ := hx
  have := h f hf
  simp only
  rw [lowS_size]; exact this
theorem lowF_len (l : List Fld) : (lowF l).length = l.length := by unfold lowF; rw [List.length_map]
section
variable {Q : Exit → Act → World → Prop} {act : Act} {w : World} {o : Oper} {s : Spec} {K : Act → World → Prop}
theorem loc_fieldN1 {x : Operand} (ho : o.op = .fieldAddr 27 x 1) {p : Addr} (hx : act.eval x = .pointer (some p)) (hs : s.p (.pointer (some (p.add 1))) w) :
    o.wp Tryd.prog act w (fun a' w' => ∃ v, a' = act.put o.dst v ∧ Below w.heap.size w w' ∧ s.p v w') Q :=
  loc_field_G ho hx (by simp [Instr.fieldAt, run_underlying Tryd.underlying27, Instr.sureAddr, fieldPlace, Addr.add]) hs
theorem loc_neqStrB {x y : Operand} {t : TypeId} (ho : o.op = .binOp .neq 9 x y t) {a b : ByteArray} {q : Bool} (hx : act.eval x = .string a) (hy : act.eval y = .string b) (hq : (!(a.toList == b.toList)) = q) (hs : s.p (.bool q) w) :
    o.wp Tryd.prog act w (fun a' w' => ∃ v, a' = act.put o.dst v ∧ Below w.heap.size w w' ∧ s.p v w') Q :=
  loc_run (v := .bool q) (by
    unfold execOp
    simp only [ho, hx, hy]
    subst hq
    simp [eqGuard, binOp, Op.stringOp]) (Below.refl _ _) hs
theorem wp_store_fieldN {x y : Operand} (ho : o.op = .store 27 x y) {B g cap k : Nat} {l : List Fld} {f : Fld} (h : OwnG B g cap w l) (hk : k < l.length) (hx : act.eval x = .pointer (some ⟨g, k * 2, none⟩)) (hy : act.eval y = .agg #[.string f.1, .string f.2])
    (hK : ∀ new, OwnG B g cap (w.setRow g new) (l.set k f) → K (act.put o.dst undef) (w.setRow g new)) : o.wp Tryd.prog act w K Q := by
  obtain ⟨cur, new, h1, h2, h3, h4⟩ := h.set hk f
  have hst := run_storeCells_at Tryd.prog g (k * 2) 27 [.string f.1, .string f.2] 0 cur w h1 (by simpa using h2) (fun v hv => by simp at hv; rcases hv with rfl | rfl <;> rfl)
  have hsv : (storeVar 27 ⟨g, k * 2, none⟩ (.agg #[.string f.1, .string f.2])).run Tryd.prog w = .ok () (w.setRow g new) := by
    have hi : (Tryd.prog.info? 27).map (·.size) = some 2 := by kernel_rfl
    cases hq : Tryd.prog.info? 27 with
    | none => simp [hq] at hi
    | some i =>
      have hs : 2 = i.size := by simp [hq] at hi; omega
      rw [← h3]
      simpa [storeVar, sizeOf, typeInfo, hq, Value.cells, ← hs] using hst
  unfold Oper.wp execOp
  simp only [ho, hx, hy, Instr.storeAt, Instr.sureAddr, Sem.run_bind, Sem.run_pure, Result.andThen_ok, hsv]
  exact hK new h4
end
theorem withinN {z k : Int} {n : Nat} {v u : Value} (w : World) (hv : v = .int .i64 z) (hu : u = .int .i64 n) (h0 : 0 < n) (hn : n ≤ 1000000000) (hk : withI z n = k) :
    Calls Tryd.prog 6 #[v, u] w fun e w' => ∃ v', e = .returned v' ∧ Below w.heap.size w w' ∧ v' = .int .i64 k := by
  subst hv hu hk
  refine (withinF z n w h0 hn).mono ?_
  rintro e w' ⟨rfl, rfl⟩
  exact ⟨_, rfl, Below.refl _ _, rfl⟩
theorem ptrN (g k : Nat) : Value.pointer (some ((⟨g, 0, none⟩ : Addr).add (k * 2))) = Value.pointer (some ⟨g, k * 2, none⟩) := by rw [Addr.add_lit, Nat.zero_add]
theorem rowN {B g cap k : Nat} {w : World} {l : List Fld} {f : Fld} (h : OwnG B g cap w l) (hk : k < l.length) (hf : l[k]? = some f) : ∀ (j : Nat) (v : Value), (#[Value.string f.1, .string f.2] : Array Value)[j]? = some v → w.cell? ((⟨g, k * 2, none⟩ : Addr).add j) = some v := by
  intro j v hv
  have hc := cellsF_get l k hk
  rw [List.getElem?_eq_getElem hk] at hf
  obtain rfl := Option.some.inj hf
  match j, hv with
  | 0, hv => simp at hv; subst hv; rw [Addr.add_lit]; exact h.cells _ _ hc.1
  | 1, hv => simp at hv; subst hv; rw [Addr.add_lit]; exact h.cells _ _ hc.2
  | j + 2, hv => simp at hv
theorem swapN_len (l : List Fld) (k : Nat) (f g : Fld) : (swapN l k f g).length = l.length := by unfold swapN; simp
theorem sizeFN (a b : ByteArray) : (Tryd.prog.info? 27).map (·.size) = some (#[Value.string a, .string b] : Array Value).size := by kernel_rfl

set_option maxRecDepth 100000 in
set_option maxHeartbeats 8000000 in
theorem normalOrder_any (la : Option Addr) (ln lc : Nat) (at_ : Int) (w : World) (hl : IntsF w la ln) (hn : ln ≤ maxLen) (mm : Int) (hmx : MaxOk w mm) :
    Calls Tryd.prog 3 #[.slice la ln lc, .int .i64 at_] w fun e w' => e = .returned (.bool true) ∧ Below w.heap.size w w' := by
  have HIN := Box.mk (And.intro hl hn)
  have HMX := Box.mk hmx
  clear hl hn hmx
  go_enter Tryd.func3, Tryd.ntmps3
  go_wp2_with fail
  refine (nmMade_any [] none 0 la ln lc false w ⟨FldsIn.nil _ _, fun _ => ⟨rfl, rfl⟩⟩ (fun f hf => by cases hf) (Nat.le_refl _) (Nat.zero_le _) HIN.out.1 HIN.out.2).mono ?_
  rintro e w1 ⟨X, xa, xc, rfl, hM⟩
  have HM := Box.mk hM
  have hx30 : X.length ≤ 30 := hM.2.2.1
  have HMED := Box.mk (medF_small hM.2.2.2.1 (by omega))
  have hxc : X.length ≤ xc := hM.2.1
  obtain ⟨L, hL⟩ : ∃ L, lowF X = L := ⟨_, rfl⟩
  have HL := Box.mk hL
  have hLl : L.length = X.length := by rw [← hL, lowF_len]
  have HLN := Box.mk hLl
  have HLS := Box.mk (show SmallF L by rw [← hL]; exact lowF_small hM.2.2.2.1)
  have HLL := Box.mk (show ∀ f ∈ L, lowS f.1 = f.1 by
    rw [← hL]
    intro f hf
    unfold lowF at hf
    rw [List.mem_map] at hf
    obtain ⟨g, _, rfl⟩ := hf
    exact lowS_idem _)
  have HLF := Box.mk (show fieldsN L [] = fieldsN X [] by rw [← hL]; exact fieldsN_lowF X [])
  clear hM HIN hL hLl
  go_wp2_with fail
  go_loopw [6, 7] (fun ov iv wr => ∃ (j : Nat) (v : Value), j ≤ X.length ∧ v = ov ∧ iv = .int .i64 j ∧ Box (OwnF w1.heap.size wr v (L.take j)) ∧ Box (Below w1.heap.size w1 wr)) (fun _ iv _ => X.length - (intOf iv).toNat)
  case atStart => exact ⟨0, _, Nat.zero_le _, rfl, rfl, ⟨OwnF.start _ _⟩, ⟨Below.refl _ _⟩⟩
  case round =>
    obtain ⟨j, ov, hj, rfl, rfl, HO, HBJ⟩ := hrel
    by_cases hlt : j < X.length
    · obtain ⟨x, rfl, hc1, hc2⟩ := HM.out.1.1 j hlt
      have HC := Box.mk (And.intro hc1 (show w1.cell? ((x.add (j * 2)).add 1) = some (.string X[j].2) by rw [Go.Deep.add_add]; exact hc2))
      have HSZ := Box.mk (show X[j].1.size ≤ maxLen from (HMED.out.short X[j] (List.getElem_mem _)).1)
      have HLX := Box.mk (show L.take j ++ [(lowS X[j].1, X[j].2)] = L.take (j + 1) by
        have hjl : j < L.length := by rw [HLN.out]; exact hlt
        rw [List.take_succ_eq_append_getElem hjl]
        congr 2
        have h1 : L[j]? = some (lowS X[j].1, X[j].2) := by rw [← HL.out]; unfold lowF; rw [List.getElem?_map, List.getElem?_eq_getElem hlt]; rfl
        rw [List.getElem?_eq_getElem hjl] at h1
        exact (Option.some.inj h1).symm)
      have hrl : (L.take j).length ≤ j := by rw [List.length_take]; omega
      clear hc1 hc2
      generalize X[j].1 = nm at *
      generalize X[j].2 = vl at *
      obtain ⟨lnm, hlnm⟩ : ∃ y, lowS nm = y := ⟨_, rfl⟩
      have HLNM := Box.mk hlnm
      rw [hlnm] at HLX
      clear hlnm
      go_upto_region 6 with fail
      rename_i K hK
      refine wp_region_phasesW [14] (fun ph => match ph with | 0 => [0, 1, 2, 3, 4, 5, 6, 7, 8, 9, 10, 11, 12, 13] | _ => [15])
        (fun ph => match ph with
          | 0 => [.ownFN w1.heap.size (L.take j), .val (.slice (some x) X.length xc), .val (.int .i64 j), .val (.pointer (some (x.add (j * 2)))), .val (.pointer (some (x.add (j * 2)))), .val (.string nm), .val (.string lnm), .val (.slice (some x) X.length xc), .val (.int .i64 j), .val (.pointer (some (x.add (j * 2)))), .val (.pointer (some ((x.add (j * 2)).add 1))), .val (.string vl), .val (.agg #[.string lnm, .string vl]), .fslN (lnm, vl), .any, .nopeS]
          | _ => [.any, .any, .any, .any, .any, .any, .any, .any, .any, .any, .any, .any, .any, .any, .ownFN w1.heap.size (L.take (j + 1)), .ownFN w1.heap.size (L.take (j + 1))])
        (fun ph => match ph with | 0 => fun wx => Below w1.heap.size w1 wx ∧ OwnF w1.heap.size wx ov (L.take j) | _ => fun wx => Below w1.heap.size w1 wx)
        (by kernel_rfl) (by kernel_rfl) (by kernel_rfl) (by kernel_rfl) (by kernel_rfl) (by kernel_rfl) ?_ ⟨HBJ.out, HO.out⟩ ?_ ?_ ?_
      · intro ph w6 w7 h hb
        match ph, h with
        | 0, h => exact ⟨below_trans h.1 hb, h.2.keep hb⟩
        | (_ + 1), h => exact below_trans h hb
      · intro ph hp
        match ph, hp with
        | 0, _ =>
          refine ⟨?_, ?_, ?_, ?_, ?_, ?_, ?_, ?_, ?_, ?_, ?_, ?_, ?_, ?_, trivial⟩ <;> intro a1 w6 hv hf hd
          · exact ⟨wanted_none rfl, loc_move rfl (by show OwnF w1.heap.size w6 (a1.eval (.tmp 6)) (L.take j); rw [show a1.eval (.tmp 6) = ov from hf.base 6 rfl]; exact hv.2)⟩
          · exact ⟨wanted_none rfl, loc_move rfl (hf.base 5 rfl)⟩
          · exact ⟨wanted_none rfl, loc_move rfl (hf.base 7 rfl)⟩
          · exact ⟨wanted_none rfl, loc_index_G 2 rfl (hd 1 rfl) (hd 2 rfl) hlt (by kernel_rfl) (by kernel_rfl) rfl⟩
          · exact ⟨wanted_none rfl, loc_fieldN rfl (hd 3 rfl) rfl⟩
          · exact ⟨wanted_none rfl, loc_load_cellG rfl (hd 4 rfl) (below_cell hv.1 HC.out.1) agg_strN rfl⟩
          · exact ⟨wanted_none rfl, loc_call rfl (by kernel_rfl) (refLower_v w6 (hd 5 rfl) HSZ.out HLNM.out)⟩
          · exact ⟨wanted_none rfl, loc_move rfl (hf.base 5 rfl)⟩
          · exact ⟨wanted_none rfl, loc_move rfl (hf.base 7 rfl)⟩
          · exact ⟨wanted_none rfl, loc_index_G 2 rfl (hd 7 rfl) (hd 8 rfl) hlt (by kernel_rfl) (by kernel_rfl) rfl⟩
          · exact ⟨wanted_none rfl, loc_fieldN1 rfl (hd 9 rfl) rfl⟩
          · exact ⟨wanted_none rfl, loc_load_cellG rfl (hd 10 rfl) (below_cell hv.1 HC.out.2) agg_strN rfl⟩
          · exact ⟨wanted_none rfl, loc_buildN rfl (hd 6 rfl) (hd 11 rfl) rfl⟩
          · exact ⟨wanted_none rfl, loc_slice1N (f := (lnm, vl)) rfl (hd 12 rfl) fun v w' h => h⟩
        | 1, _ =>
          refine ⟨?_, trivial⟩
          intro a1 w6 hv hf hd
          exact ⟨wanted_none rfl, loc_assign rfl (hd 14 rfl)⟩
      · intro ph hp
        match ph, hp with
        | 0, _ =>
          intro a2 w6 hv hf hd
          obtain ⟨b1, c1, e1, e2, e3⟩ := hd 13 rfl
          have hown : OwnF w1.heap.size w6 (a2.eval (.tmp 17)) (L.take j) := hd 0 rfl
          refine ⟨wanted_none rfl, wp_append_oneN (f := (lnm, vl)) rfl hown e1 e2 e3 (by omega) hv.1.size fun v' w7 h1 hgrow => ?_⟩
          exact ⟨v', rfl, hv.1.grown hgrow hv.1.size (fun m hm => (hown.lt hm).1), (by show OwnF w1.heap.size w7 v' (L.take (j + 1)); rw [← HLX.out]; exact h1), ⟨.inr fun _ _ _ => trivial, .inr fun _ _ _ => trivial, .inr fun _ _ _ => trivial, .inr fun _ _ _ => trivial, .inr fun _ _ _ => trivial, .inr fun _ _ _ => trivial, .inr fun _ _ _ => trivial, .inr fun _ _ _ => trivial, .inr fun _ _ _ => trivial, .inr fun _ _ _ => trivial, .inr fun _ _ _ => trivial, .inr fun _ _ _ => trivial, .inr fun _ _ _ => trivial, .inr fun _ _ _ => trivial, .inl rfl, .inr fun _ _ h => h.elim, trivial⟩⟩
      · intro a2 w6 hv hf hh
        have HOX := Box.mk (show OwnF w1.heap.size w6 (a2.eval (.tmp 6)) (L.take (j + 1)) from hh 15 (by decide))
        have HBX := Box.mk hv
        refine hK _ _ ?_
        rw [fr_putAll hf]
        clear hf hK hv hh
        simp only [putAll]
        generalize a2.eval (.tmp 17) = u17
        generalize a2.eval (.tmp 18) = u18
        generalize a2.eval (.tmp 19) = u19
        generalize a2.eval (.tmp 20) = u20
        generalize a2.eval (.tmp 21) = u21
        generalize a2.eval (.tmp 22) = u22
        generalize a2.eval (.tmp 23) = u23
        generalize a2.eval (.tmp 24) = u24
        generalize a2.eval (.tmp 25) = u25
        generalize a2.eval (.tmp 26) = u26
        generalize a2.eval (.tmp 27) = u27
        generalize a2.eval (.tmp 28) = u28
        generalize a2.eval (.tmp 29) = u29
        generalize a2.eval (.tmp 30) = u30
        generalize a2.eval (.tmp 31) = u31
        generalize a2.eval (.tmp 6) = ov2 at *
        clear a2
        simp only [Act.put, List.setIfInBounds_toArray, List.set_cons_succ, List.set_cons_zero]
        go_wp2_with fail
        go_roundw
        case rel => exact ⟨j + 1, ov2, by omega, rfl, by go_num, HOX, HBX⟩
        case measure => simp [intOf]; omega
    · have HLT := Box.mk (show L.take j = L by rw [List.take_of_length_le]; rw [HLN.out]; omega)
      rw [HLT.out] at HO
      clear HLT HL
      obtain ⟨ya, yc, rfl, hyf, hyl⟩ := HO.out.shape
      have HYF := Box.mk hyf
      have hL30 : L.length ≤ 30 := by have := HLN.out; omega
      clear hyf
      go_upto_if 34 with fail
      go_cut [] (fun wx => Box (∃ Z : List Fld, Z.length = L.length ∧ FldsC wx ya Z yc ∧ Z.length ≤ yc ∧ SmallF Z ∧ fieldsN Z [] = fieldsN X [] ∧ Below w1.heap.size w1 wx))
      case first =>
        by_cases h1 : 1 < L.length
        · obtain ⟨g, gc, hv, hG⟩ := HO.out.toG (fun e => by rw [e] at h1; exact absurd h1 (by decide))
          injection hv with e1 e2 e3
          subst e1 e3
          have HG := Box.mk hG
          obtain ⟨n, hn⟩ : ∃ n, L.length = n + 1 := ⟨L.length - 1, by omega⟩
          obtain ⟨k, hk, hwk⟩ := withI_range at_ n (by omega) (by omega)
          have HWK := Box.mk hwk
          have HNN := Box.mk hn
          have hk1 : k + 1 < L.length := by omega
          have hn0 : 0 < n := by omega
          have hn30 : n ≤ 30 := by omega
          clear hwk hG HO hn
          go_wp2_with fail
          refine (withinN (n := n) wr rfl (by show Value.int .i64 _ = .int .i64 (n : Int); congr 1; have := HNN.out; omega) (by omega) (by omega) HWK.out).mono ?_
          rintro e w5 ⟨v', rfl, hb5, rfl⟩
          have HG5 := Box.mk (HG.out.keep hb5)
          have HB5 := Box.mk (below_trans HBJ.out hb5)
          clear hb5 HG HBJ HYF HWK
          have HG := HG5
          have HBJ := HB5
          clear HG5 HB5
          obtain ⟨f, hf⟩ : ∃ f, L[k]? = some f := ⟨_, List.getElem?_eq_getElem (by omega)⟩
          obtain ⟨h, hh⟩ : ∃ h, L[k + 1]? = some h := ⟨_, List.getElem?_eq_getElem (by omega)⟩
          have HFH := Box.mk (And.intro hf hh)
          have hf' : L[k] = f := by rw [List.getElem?_eq_getElem (by omega)] at hf; exact Option.some.inj hf
          have hh' : L[k + 1] = h := by rw [List.getElem?_eq_getElem hk1] at hh; exact Option.some.inj hh
          have HMEM := Box.mk (show f ∈ L ∧ h ∈ L from ⟨by rw [← hf']; exact List.getElem_mem _, by rw [← hh']; exact List.getElem_mem _⟩)
          have hcf := cellsF_get L k (by omega)
          have hch := cellsF_get L (k + 1) hk1
          rw [hf'] at hcf
          rw [hh'] at hch
          have HCL := Box.mk (show w5.cell? ⟨g, k * 2, none⟩ = some (.string f.1) ∧ w5.cell? ⟨g, k * 2 + 1, none⟩ = some (.string f.2) ∧ w5.cell? ⟨g, (k + 1) * 2, none⟩ = some (.string h.1) ∧ w5.cell? ⟨g, (k + 1) * 2 + 1, none⟩ = some (.string h.2) from
            ⟨HG.out.cells _ _ hcf.1, HG.out.cells _ _ hcf.2, HG.out.cells _ _ hch.1, HG.out.cells _ _ hch.2⟩)
          clear hcf hch hf hh
          by_cases he : f.1 = h.1
          · have HQ := Box.mk (show (!(f.1.toList == h.1.toList)) = false by rw [he]; simp)
            clear hf' hh' he
            go_upto_region 9 with fail
            rename_i K hK
            refine wp_region_local (S := [.val (.slice (some ⟨g, 0, none⟩) L.length yc), .val (.int .i64 k), .val (.pointer (some ⟨g, k * 2, none⟩)), .val (.pointer (some ⟨g, k * 2, none⟩)), .val (.string f.1), .val (.slice (some ⟨g, 0, none⟩) L.length yc), .val (.int .i64 k), .val (.int .i64 ((k + 1 : Nat) : Int)), .val (.pointer (some ⟨g, (k + 1) * 2, none⟩)), .val (.pointer (some ⟨g, (k + 1) * 2, none⟩)), .val (.string h.1), .val (.bool false)])
              (by kernel_rfl) (by kernel_rfl) (by kernel_rfl) ?_ ?_
            · refine ⟨?_, ?_, ?_, ?_, ?_, ?_, ?_, ?_, ?_, ?_, ?_, ?_, trivial⟩ <;> intro a' w6 hb hf hd
              · exact ⟨wanted_none rfl, loc_move rfl (hf.base 6 rfl)⟩
              · exact ⟨wanted_none rfl, loc_move rfl (hf.base 8 rfl)⟩
              · exact ⟨wanted_none rfl, loc_index_G 2 rfl (hd 0 rfl) (hd 1 rfl) (by omega) (by kernel_rfl) (by kernel_rfl) (ptrN g k)⟩
              · exact ⟨wanted_none rfl, loc_fieldN rfl (hd 2 rfl) rfl⟩
              · exact ⟨wanted_none rfl, loc_load_cellG rfl (hd 3 rfl) (below_cell hb HCL.out.1) agg_strN rfl⟩
              · exact ⟨wanted_none rfl, loc_move rfl (hf.base 6 rfl)⟩
              · exact ⟨wanted_none rfl, loc_move rfl (hf.base 8 rfl)⟩
              · exact ⟨wanted_none rfl, loc_addF (m := k) (k := 1) rfl (hd 6 rfl) rfl (by omega) rfl⟩
              · exact ⟨wanted_none rfl, loc_index_G 2 rfl (hd 5 rfl) (hd 7 rfl) (by omega) (by kernel_rfl) (by kernel_rfl) (ptrN g (k + 1))⟩
              · exact ⟨wanted_none rfl, loc_fieldN rfl (hd 8 rfl) rfl⟩
              · exact ⟨wanted_none rfl, loc_load_cellG rfl (hd 9 rfl) (below_cell hb HCL.out.2.2.1) agg_strN rfl⟩
              · exact ⟨wanted_none rfl, loc_neqStrB rfl (hd 4 rfl) (hd 10 rfl) HQ.out rfl⟩
            · intro a' w6 hb hf hd
              have ev : a'.eval (.tmp 51) = .bool false := hd 11 (by decide)
              have HG6 := Box.mk (HG.out.keep hb)
              have HB6 := Box.mk (below_trans HBJ.out hb)
              refine hK _ _ ?_
              rw [fr_putAll hf]
              simp only [putAll, ev]
              clear hf hd hb hK ev
              generalize a'.eval (.tmp 40) = u40
              generalize a'.eval (.tmp 41) = u41
              generalize a'.eval (.tmp 42) = u42
              generalize a'.eval (.tmp 43) = u43
              generalize a'.eval (.tmp 44) = u44
              generalize a'.eval (.tmp 45) = u45
              generalize a'.eval (.tmp 46) = u46
              generalize a'.eval (.tmp 47) = u47
              generalize a'.eval (.tmp 48) = u48
              generalize a'.eval (.tmp 49) = u49
              generalize a'.eval (.tmp 50) = u50
              simp only [Act.put, List.setIfInBounds_toArray, List.set_cons_succ, List.set_cons_zero]
              go_wp2_with fail
              go_meet
              exact ⟨⟨L, rfl, HG6.out.flds, HG6.out.cap, HLS.out, HLF.out, HB6.out⟩⟩
          · have HQ := Box.mk (show (!(f.1.toList == h.1.toList)) = true by rw [beqS_f he]; rfl)
            have HSW := Box.mk (show fieldsN (swapN L k f h) [] = fieldsN X [] by
              have h0 := fieldsN_swapN L k hk1 [] (by
                rw [hf', hh']
                cases hc : foldS f.1 h.1 with
                | false => rfl
                | true => rw [foldS_iff, HLL.out f HMEM.out.1, HLL.out h HMEM.out.2] at hc; exact absurd hc he)
              rw [hf', hh'] at h0
              rw [h0]; exact HLF.out)
            clear hf' hh' he
            go_upto_region 9 with fail
            rename_i K hK
            refine wp_region_local (S := [.val (.slice (some ⟨g, 0, none⟩) L.length yc), .val (.int .i64 k), .val (.pointer (some ⟨g, k * 2, none⟩)), .val (.pointer (some ⟨g, k * 2, none⟩)), .val (.string f.1), .val (.slice (some ⟨g, 0, none⟩) L.length yc), .val (.int .i64 k), .val (.int .i64 ((k + 1 : Nat) : Int)), .val (.pointer (some ⟨g, (k + 1) * 2, none⟩)), .val (.pointer (some ⟨g, (k + 1) * 2, none⟩)), .val (.string h.1), .val (.bool true)])
              (by kernel_rfl) (by kernel_rfl) (by kernel_rfl) ?_ ?_
            · refine ⟨?_, ?_, ?_, ?_, ?_, ?_, ?_, ?_, ?_, ?_, ?_, ?_, trivial⟩ <;> intro a' w6 hb hf hd
              · exact ⟨wanted_none rfl, loc_move rfl (hf.base 6 rfl)⟩
              · exact ⟨wanted_none rfl, loc_move rfl (hf.base 8 rfl)⟩
              · exact ⟨wanted_none rfl, loc_index_G 2 rfl (hd 0 rfl) (hd 1 rfl) (by omega) (by kernel_rfl) (by kernel_rfl) (ptrN g k)⟩
              · exact ⟨wanted_none rfl, loc_fieldN rfl (hd 2 rfl) rfl⟩
              · exact ⟨wanted_none rfl, loc_load_cellG rfl (hd 3 rfl) (below_cell hb HCL.out.1) agg_strN rfl⟩
              · exact ⟨wanted_none rfl, loc_move rfl (hf.base 6 rfl)⟩
              · exact ⟨wanted_none rfl, loc_move rfl (hf.base 8 rfl)⟩
              · exact ⟨wanted_none rfl, loc_addF (m := k) (k := 1) rfl (hd 6 rfl) rfl (by omega) rfl⟩
              · exact ⟨wanted_none rfl, loc_index_G 2 rfl (hd 5 rfl) (hd 7 rfl) (by omega) (by kernel_rfl) (by kernel_rfl) (ptrN g (k + 1))⟩
              · exact ⟨wanted_none rfl, loc_fieldN rfl (hd 8 rfl) rfl⟩
              · exact ⟨wanted_none rfl, loc_load_cellG rfl (hd 9 rfl) (below_cell hb HCL.out.2.2.1) agg_strN rfl⟩
              · exact ⟨wanted_none rfl, loc_neqStrB rfl (hd 4 rfl) (hd 10 rfl) HQ.out rfl⟩
            · intro a' w6 hb hf hd
              have ev : a'.eval (.tmp 51) = .bool true := hd 11 (by decide)
              have HG6 := Box.mk (HG.out.keep hb)
              have HB6 := Box.mk (below_trans HBJ.out hb)
              refine hK _ _ ?_
              rw [fr_putAll hf]
              simp only [putAll, ev]
              clear hf hd hb hK ev
              generalize a'.eval (.tmp 40) = u40
              generalize a'.eval (.tmp 41) = u41
              generalize a'.eval (.tmp 42) = u42
              generalize a'.eval (.tmp 43) = u43
              generalize a'.eval (.tmp 44) = u44
              generalize a'.eval (.tmp 45) = u45
              generalize a'.eval (.tmp 46) = u46
              generalize a'.eval (.tmp 47) = u47
              generalize a'.eval (.tmp 48) = u48
              generalize a'.eval (.tmp 49) = u49
              generalize a'.eval (.tmp 50) = u50
              simp only [Act.put, List.setIfInBounds_toArray, List.set_cons_succ, List.set_cons_zero]
              go_upto_region 10 with fail
              refine wp_region_phases [15, 17] (fun ph => match ph with | 0 => [0, 1, 2, 3, 4, 5, 6, 7, 8, 9, 10, 11, 12, 13, 14] | 1 => [2, 3, 4, 16] | _ => [])
                (fun ph => match ph with
                  | 0 => [.val (.slice (some ⟨g, 0, none⟩) L.length yc), .val (.int .i64 k), .val (.slice (some ⟨g, 0, none⟩) L.length yc), .val (.int .i64 k), .val (.int .i64 ((k + 1 : Nat) : Int)), .val (.slice (some ⟨g, 0, none⟩) L.length yc), .val (.int .i64 k), .val (.int .i64 ((k + 1 : Nat) : Int)), .val (.pointer (some ⟨g, (k + 1) * 2, none⟩)), .val (.agg #[.string h.1, .string h.2]), .val (.slice (some ⟨g, 0, none⟩) L.length yc), .val (.int .i64 k), .val (.pointer (some ⟨g, k * 2, none⟩)), .val (.agg #[.string f.1, .string f.2]), .val (.pointer (some ⟨g, k * 2, none⟩)), .any, .nopeS, .nopeS]
                  | 1 => [.any, .any, .val (.slice (some ⟨g, 0, none⟩) L.length yc), .val (.int .i64 k), .val (.int .i64 ((k + 1 : Nat) : Int)), .any, .any, .any, .any, .any, .any, .any, .any, .val (.agg #[.string f.1, .string f.2]), .any, .any, .val (.pointer (some ⟨g, (k + 1) * 2, none⟩)), .nopeS]
                  | _ => [.any, .any, .any, .any, .any, .any, .any, .any, .any, .any, .any, .any, .any, .any, .any, .any, .any, .any])
                (fun ph => match ph with
                  | 0 => fun wx => OwnG w1.heap.size g yc wx L ∧ Below w1.heap.size w1 wx
                  | 1 => fun wx => OwnG w1.heap.size g yc wx (L.set k h) ∧ Below w1.heap.size w1 wx
                  | _ => fun wx => OwnG w1.heap.size g yc wx (swapN L k f h) ∧ Below w1.heap.size w1 wx)
                (by kernel_rfl) (by kernel_rfl) (by kernel_rfl) (by kernel_rfl) (by kernel_rfl) (by kernel_rfl) ?_ ⟨HG6.out, HB6.out⟩ ?_ ?_ ?_
              · intro ph w7 w8 hp hb
                match ph, hp with
                | 0, hp => exact ⟨hp.1.keep hb, below_trans hp.2 hb⟩
                | 1, hp => exact ⟨hp.1.keep hb, below_trans hp.2 hb⟩
                | (_ + 2), hp => exact ⟨hp.1.keep hb, below_trans hp.2 hb⟩
              · intro ph hp
                match ph, hp with
                | 0, _ =>
                  refine ⟨?_, ?_, ?_, ?_, ?_, ?_, ?_, ?_, ?_, ?_, ?_, ?_, ?_, ?_, ?_, trivial⟩ <;> intro a1 w7 hv hf hd
                  · exact ⟨wanted_none rfl, loc_move rfl (hf.base 6 rfl)⟩
                  · exact ⟨wanted_none rfl, loc_move rfl (hf.base 8 rfl)⟩
                  · exact ⟨wanted_none rfl, loc_move rfl (hf.base 6 rfl)⟩
                  · exact ⟨wanted_none rfl, loc_move rfl (hf.base 8 rfl)⟩
                  · exact ⟨wanted_none rfl, loc_addF (m := k) (k := 1) rfl (hd 3 rfl) rfl (by omega) rfl⟩
                  · exact ⟨wanted_none rfl, loc_move rfl (hf.base 6 rfl)⟩
                  · exact ⟨wanted_none rfl, loc_move rfl (hf.base 8 rfl)⟩
                  · exact ⟨wanted_none rfl, loc_addF (m := k) (k := 1) rfl (hd 6 rfl) rfl (by omega) rfl⟩
                  · exact ⟨wanted_none rfl, loc_index_G 2 rfl (hd 5 rfl) (hd 7 rfl) (by omega) (by kernel_rfl) (by kernel_rfl) (ptrN g (k + 1))⟩
                  · exact ⟨wanted_none rfl, loc_load_rowG rfl (hd 8 rfl) (rowN hv.1 (by omega) HFH.out.2) Tryd.underlying27 rfl (sizeFN _ _) rfl⟩
                  · exact ⟨wanted_none rfl, loc_move rfl (hf.base 6 rfl)⟩
                  · exact ⟨wanted_none rfl, loc_move rfl (hf.base 8 rfl)⟩
                  · exact ⟨wanted_none rfl, loc_index_G 2 rfl (hd 10 rfl) (hd 11 rfl) (by omega) (by kernel_rfl) (by kernel_rfl) (ptrN g k)⟩
                  · exact ⟨wanted_none rfl, loc_load_rowG rfl (hd 12 rfl) (rowN hv.1 (by omega) HFH.out.1) Tryd.underlying27 rfl (sizeFN _ _) rfl⟩
                  · exact ⟨wanted_none rfl, loc_index_G 2 rfl (hd 0 rfl) (hd 1 rfl) (by omega) (by kernel_rfl) (by kernel_rfl) (ptrN g k)⟩
                | 1, _ =>
                  refine ⟨?_, ?_, ?_, ?_, trivial⟩ <;> intro a1 w7 hv hf hd
                  · exact ⟨wanted_none rfl, loc_move rfl (hf.base 6 rfl)⟩
                  · exact ⟨wanted_none rfl, loc_move rfl (hf.base 8 rfl)⟩
                  · exact ⟨wanted_none rfl, loc_addF (m := k) (k := 1) rfl (hd 3 rfl) rfl (by omega) rfl⟩
                  · exact ⟨wanted_none rfl, loc_index_G 2 rfl (hd 2 rfl) (hd 4 rfl) (by omega) (by kernel_rfl) (by kernel_rfl) (ptrN g (k + 1))⟩
                | 2, _ => exact trivial
              · intro ph hp
                match ph, hp with
                | 0, _ =>
                  intro a2 w7 hv hf hd
                  have e66 : a2.eval (.tmp 66) = .pointer (some ⟨g, k * 2, none⟩) := hd 14 rfl
                  have e61 : a2.eval (.tmp 61) = .agg #[.string h.1, .string h.2] := hd 9 rfl
                  refine ⟨wanted_none rfl, wp_store_fieldN (f := h) rfl hv.1 (by omega) e66 e61 fun new hn => ?_⟩
                  exact ⟨undef, rfl, ⟨hn, below_setRow hv.2 hv.1.low new⟩, trivial, ⟨.inr fun _ _ _ => trivial, .inr fun _ _ _ => trivial, .inr fun _ _ h => h, .inr fun _ _ h => h, .inr fun _ _ h => h, .inr fun _ _ _ => trivial, .inr fun _ _ _ => trivial, .inr fun _ _ _ => trivial, .inr fun _ _ _ => trivial, .inr fun _ _ _ => trivial, .inr fun _ _ _ => trivial, .inr fun _ _ _ => trivial, .inr fun _ _ _ => trivial, .inr fun _ _ h => h, .inr fun _ _ _ => trivial, .inl rfl, .inr fun _ _ h => h.elim, .inr fun _ _ h => h, trivial⟩⟩
                | 1, _ =>
                  intro a2 w7 hv hf hd
                  have e67 : a2.eval (.tmp 67) = .pointer (some ⟨g, (k + 1) * 2, none⟩) := hd 16 rfl
                  have e65 : a2.eval (.tmp 65) = .agg #[.string f.1, .string f.2] := hd 13 rfl
                  refine ⟨wanted_none rfl, wp_store_fieldN (f := f) rfl hv.1 (by rw [List.length_set]; omega) e67 e65 fun new hn => ?_⟩
                  exact ⟨undef, rfl, ⟨hn, below_setRow hv.2 hv.1.low new⟩, trivial, ⟨.inr fun _ _ _ => trivial, .inr fun _ _ _ => trivial, .inr fun _ _ _ => trivial, .inr fun _ _ _ => trivial, .inr fun _ _ _ => trivial, .inr fun _ _ _ => trivial, .inr fun _ _ _ => trivial, .inr fun _ _ _ => trivial, .inr fun _ _ _ => trivial, .inr fun _ _ _ => trivial, .inr fun _ _ _ => trivial, .inr fun _ _ _ => trivial, .inr fun _ _ _ => trivial, .inr fun _ _ _ => trivial, .inr fun _ _ _ => trivial, .inr fun _ _ _ => trivial, .inr fun _ _ _ => trivial, .inl rfl, trivial⟩⟩
              · intro a2 w7 hv hf hh
                clear hh
                have HZ := Box.mk hv
                rw [fr_putAll hf]
                clear hf hv
                simp only [putAll]
                generalize a2.eval (.tmp 52) = u52
                generalize a2.eval (.tmp 53) = u53
                generalize a2.eval (.tmp 54) = u54
                generalize a2.eval (.tmp 55) = u55
                generalize a2.eval (.tmp 56) = u56
                generalize a2.eval (.tmp 57) = u57
                generalize a2.eval (.tmp 58) = u58
                generalize a2.eval (.tmp 59) = u59
                generalize a2.eval (.tmp 60) = u60
                generalize a2.eval (.tmp 61) = u61
                generalize a2.eval (.tmp 62) = u62
                generalize a2.eval (.tmp 63) = u63
                generalize a2.eval (.tmp 64) = u64
                generalize a2.eval (.tmp 65) = u65
                generalize a2.eval (.tmp 66) = u66
                generalize a2.eval (.tmp 67) = u67
                clear a2
                simp only [Act.put, List.setIfInBounds_toArray, List.set_cons_succ, List.set_cons_zero]
                rename (∀ (a' : Act) (w' : World), Met _ a' w' → _) => hM
                refine hM _ _ ?_
                go_meet
                exact ⟨⟨swapN L k f h, by rw [swapN_len], HZ.out.1.flds, by rw [swapN_len]; exact HG.out.cap, swapN_small HLS.out HMEM.out.1 HMEM.out.2, HSW.out, HZ.out.2⟩⟩
        · go_wp2_with fail
          go_meet
          exact ⟨⟨L, rfl, HYF.out, hyl, HLS.out, HLF.out, HBJ.out⟩⟩
      case rest =>
        obtain ⟨Z, hZl, hZf, hZc, hZs, hZe, hZb⟩ := hcut.out
        have HZ := Box.mk (And.intro hZf (And.intro hZb hZe))
        have HZM := Box.mk (medF_small hZs (by omega))
        obtain ⟨F, hF⟩ : ∃ F, fieldsN X [] = F := ⟨_, rfl⟩
        have HF := Box.mk hF
        have HFZ := Box.mk (hZe.trans hF)
        have hF1 : F.length ≤ 30 := by rw [← hF]; have := fieldsN_len X []; omega
        rw [← hZl]
        clear hZl hcut hZf hZs hZe hZb hF HO HLF HLS HLL HYF
        go_wp2_with fail
        refine (nFields_eq (ig := []) (b := none) (cb := 0) wc (HMX.out.keep (below_trans HM.out.2.2.2.2 HZ.out.2.1)) (HM.out.1.keep HZ.out.2.1) hxc HMED.out (StrsC.none _) (fun _ h => by cases h) (by decide) HF.out).mono ?_
        rintro e w7 ⟨ra, rc, rfl, h1, h2, h3⟩
        have H7 := Box.mk (And.intro h1 (below_trans HZ.out.2.1 h3))
        have HZ7 := Box.mk (HZ.out.1.keep h3)
        clear h1 h2 h3 HZ
        go_wp2_with fail
        refine (nFields_eq (ig := []) (b := none) (cb := 0) w7 (HMX.out.keep (below_trans HM.out.2.2.2.2 H7.out.2)) HZ7.out hZc HZM.out (StrsC.none _) (fun _ h => by cases h) (by decide) HFZ.out).mono ?_
        rintro e w8 ⟨sa, sc, rfl, h1, h2, h3⟩
        have H8 := Box.mk (And.intro h1 (below_trans H7.out.2 h3))
        have HR8 := Box.mk (H7.out.1.keep h3)
        clear h1 h2 h3 H7 HZ7
        go_wp2_with fail
        refine (sameFlds_self F ra sa rc sc w8 HR8.out.1 H8.out.1.1 (by omega)).mono ?_
        rintro e w9 ⟨rfl, hb⟩
        have HB9 := Box.mk (below_trans H8.out.2 hb)
        clear hb H8 HR8
        go_wp2_with fail
        refine (nmAwake_any w9 mm (HMX.out.keep (below_trans HM.out.2.2.2.2 HB9.out))).mono ?_
        rintro e w10 ⟨rfl, hb⟩
        have HB10 := Box.mk (below_trans HM.out.2.2.2.2 (below_trans HB9.out hb))
        clear hb HB9
        go_wp2_with fail
        go_ret
        exact ⟨rfl, HB10.out⟩
end Go.Proofs.YtnpbnaapbimjaaaDoor
namespace Go.Proofs.YtnpbnaapbimjaaaDoor
open Go.ChangeShapes Go.WideShapes Go.ChangeAt Go.RowKit

theorem i64_ofF {x : Int} (h : (Lit.int .i64 x).wf = true) : -9223372036854775808 ≤ x ∧ x ≤ 9223372036854775807 := bounds_i64 h
theorem open_intsf {H : Type} {enc : TypeId × Value → H} {W : World} {a : Option Addr} {len cap : Nat} {d : DataW H} {ps : List MemPlace} {base : Nat}
    (h : DataW.Trod enc Tryd.prog W base (fun _ => true) true 22 (.slice a len cap) d ps) : IntsF W a len ∧ len ≤ maxLen := by
  obtain ⟨fuel, hf⟩ := h
  rcases open_ints Tryd.underlying22 Tryd.underlying3 (by kernel_rfl) hf with ⟨hcs, _⟩ | ⟨x, l, c, zs, hcs, _, hl, hm, hz, _, hcell, hwz⟩
  · simp [Value.cells] at hcs
    obtain ⟨rfl, rfl, rfl⟩ := hcs
    exact ⟨fun k hk => absurd hk (Nat.not_lt_zero _), Nat.zero_le _⟩
  · simp [Value.cells] at hcs
    obtain ⟨rfl, rfl, rfl⟩ := hcs
    have hz' : zs.length = cap := by simpa using hz
    refine ⟨fun k hk => ?_, Nat.le_trans hl hm⟩
    have hk' : k < zs.length := by omega
    have e : zs.getD k 0 = zs[k] := by rw [List.getD_eq_getElem?_getD, List.getElem?_eq_getElem hk']; rfl
    refine ⟨x, zs[k], rfl, by rw [hcell k hk', e], i64_ofF (hwz zs[k] (List.getElem_mem _))⟩
end Go.Proofs.YtnpbnaapbimjaaaDoor
