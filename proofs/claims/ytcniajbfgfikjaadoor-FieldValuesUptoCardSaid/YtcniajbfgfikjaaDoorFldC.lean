/- Slices of fields in memory: read, appended to, opened among the arguments. -/
import Derived.Test.YtcniajbfgfikjaaDoorFldB
import Derived.Test.YtcniajbfgfikjaaDoorHashD
import Derived.Deep.SlicePairs
namespace Go.Proofs.YtcniajbfgfikjaaDoor
open Go.ChangeShapes Go.WideShapes Go.ChangeAt Go.RowKit

abbrev Fld := ByteArray × ByteArray
def fldV (f : Fld) : Value := .agg #[.string f.1, .string f.2]
/-- The cells of fields. -/
def cellsF (l : List Fld) : List Value := l.flatMap fun f => [.string f.1, .string f.2]
theorem cellsF_len (l : List Fld) : (cellsF l).length = l.length * 2 := by
  induction l with
  | nil => rfl
  | cons a t ih =>
    have : cellsF (a :: t) = .string a.1 :: .string a.2 :: cellsF t := rfl
    rw [this]; simp only [List.length_cons, ih]; omega
theorem cellsF_app (a b : List Fld) : cellsF (a ++ b) = cellsF a ++ cellsF b := by unfold cellsF; rw [List.flatMap_append]
theorem cellsF_get : ∀ (l : List Fld) (j : Nat) (hj : j < l.length), (cellsF l)[j * 2]? = some (.string l[j].1) ∧ (cellsF l)[j * 2 + 1]? = some (.string l[j].2)
  | a :: t, 0, _ => ⟨rfl, rfl⟩
  | a :: t, j + 1, hj => by
    have ih := cellsF_get t j (by simpa using hj)
    have e : cellsF (a :: t) = .string a.1 :: .string a.2 :: cellsF t := rfl
    rw [e, show (j + 1) * 2 = j * 2 + 1 + 1 by omega, show j * 2 + 1 + 1 + 1 = (j * 2 + 1) + 1 + 1 by omega]
    simpa using ih
theorem cellsF_one (l : List Fld) : ∀ u ∈ cellsF l, u.oneCell' = true := by
  intro u hu
  unfold cellsF at hu
  obtain ⟨f, _, hf⟩ := List.mem_flatMap.1 hu
  simp at hf
  rcases hf with rfl | rfl <;> rfl

theorem cell_next {w : World} {x : Addr} {i : Nat} {v : Value} (h : w.cell? (x.add (i + 1)) = some v) : w.cell? ⟨(x.add i).block, (x.add i).off + 1, none⟩ = some v := by
  rw [← Go.Deep.add_add] at h
  rw [← h]; rfl
/-- The slice at a holds the fields l. -/
def FldsIn (w : World) (a : Option Addr) (l : List Fld) : Prop :=
  ∀ j (hj : j < l.length), ∃ x, a = some x ∧ w.cell? (x.add (j * 2)) = some (.string l[j].1) ∧ w.cell? (x.add (j * 2 + 1)) = some (.string l[j].2)
theorem FldsIn.keep {w w' : World} {a : Option Addr} {l : List Fld} (h : FldsIn w a l) (hb : Below w.heap.size w w') : FldsIn w' a l := fun j hj => by
  obtain ⟨x, e, h1, h2⟩ := h j hj
  exact ⟨x, e, below_cell hb h1, below_cell hb h2⟩
theorem FldsIn.nil (w : World) (a : Option Addr) : FldsIn w a [] := fun _ hj => absurd hj (Nat.not_lt_zero _)
theorem FldsIn.take {w : World} {a : Option Addr} {l : List Fld} (h : FldsIn w a l) (k : Nat) : FldsIn w a (l.take k) := fun j hj => by
  have hj' : j < l.length := by rw [List.length_take] at hj; omega
  obtain ⟨x, e, h1, h2⟩ := h j hj'
  exact ⟨x, e, by rw [List.getElem_take]; exact h1, by rw [List.getElem_take]; exact h2⟩
theorem FldsIn.cells {w : World} {x : Addr} {l : List Fld} (h : FldsIn w (some x) l) : ∀ j u, (cellsF l)[j]? = some u → w.cell? (x.add j) = some u := fun j u hj => by
  have hlt : j < l.length * 2 := by rw [← cellsF_len]; exact (List.getElem?_eq_some_iff.1 hj).1
  have hk : j / 2 < l.length := by omega
  obtain ⟨y, e, h1, h2⟩ := h (j / 2) hk
  obtain rfl := Option.some.inj e
  obtain ⟨g1, g2⟩ := cellsF_get l (j / 2) hk
  rcases Nat.mod_two_eq_zero_or_one j with hm | hm
  · have : j / 2 * 2 = j := by omega
    rw [this] at h1 g1
    rw [hj] at g1; rw [h1, ← g1]
  · have : j / 2 * 2 + 1 = j := by omega
    rw [this] at h2 g2
    rw [hj] at g2; rw [h2, ← g2]
theorem FldsIn.of_cells {w : World} {x : Addr} {l : List Fld} (h : ∀ j u, (cellsF l)[j]? = some u → w.cell? (x.add j) = some u) : FldsIn w (some x) l := fun j hj =>
  ⟨x, rfl, h _ _ (cellsF_get l j hj).1, h _ _ (cellsF_get l j hj).2⟩

theorem run_loadF (w : World) (p : Addr) (n v : ByteArray) (h0 : w.cell? p = some (.string n)) (h1 : w.cell? (p.add 1) = some (.string v)) :
    (Instr.loadAt 28 (.pointer (some p))).run Tryd.prog w = .ok (.agg #[.string n, .string v]) w := by
  have hl : (loadCells p 2).run Tryd.prog w = .ok #[.string n, .string v] w :=
    run_loadCells_list (P := Tryd.prog) w p [.string n, .string v] (fun j u hj => by
      match j, hj with
      | 0, hj => simp at hj; subst hj; rw [show p.add 0 = p by unfold Addr.add; split <;> simp_all]; exact h0
      | 1, hj => simp at hj; subst hj; exact h1
      | j + 2, hj => simp at hj)
  have hagg : (isAgg 28).run Tryd.prog w = .ok true w := by
    unfold isAgg
    rw [Sem.run_bind, run_underlying Tryd.underlying28 w]; rfl
  have hs : ((Tryd.prog.info? 28).map (·.size)) = some 2 := by kernel_rfl
  cases hq : Tryd.prog.info? 28 with
  | none => rw [hq] at hs; cases hs
  | some i =>
    have hs' : i.size = 2 := by rw [hq] at hs; simpa using hs
    simp [Instr.loadAt, Instr.sureAddr, loadVar, Sem.run_bind, hagg, sizeOf, typeInfo, hq, hs', hl]
theorem FldsIn.load {w : World} {x : Addr} {l : List Fld} (h : FldsIn w (some x) l) {j : Nat} (hj : j < l.length) :
    (Instr.loadAt 28 (.pointer (some (x.add (j * 2))))).run Tryd.prog w = .ok (.agg #[.string l[j].1, .string l[j].2]) w := by
  obtain ⟨y, e, h1, h2⟩ := h j hj
  obtain rfl := Option.some.inj e
  exact run_loadF w _ _ _ h1 (by rw [Go.Deep.add_add]; exact h2)

theorem Tryd.info28 : (Tryd.prog.info? 28).map (fun i => (i.zero, i.size, i.bytes)) = some (some (.agg #[.string ⟨#[]⟩, .string ⟨#[]⟩]), 2, 32) := by kernel_rfl
/-- v is a slice of the call's own with the fields l; what was there before the call is as it was. -/
def AccF (w0 w : World) (v : Value) (l : List Fld) : Prop :=
  w.ownsRow w0.heap.size 28 2 v l.length (cellsF l) ∧ Below w0.heap.size w0 w
theorem AccF.start (w : World) : AccF w w (.slice none 0 0) [] := ⟨World.ownsRow_nil _ _ _ _, Below.refl _ _⟩
theorem AccF.size {w0 w : World} {v : Value} {l : List Fld} (h : AccF w0 w v l) : w0.heap.size ≤ w.heap.size := h.2.size
theorem AccF.keep {w0 w w' : World} {v : Value} {l : List Fld} (h : AccF w0 w v l) (hb : Below w.heap.size w w') : AccF w0 w' v l :=
  ⟨ownsRow_keep h.1 hb, h.2.trans (hb.mono h.2.size)⟩
theorem AccF.shape {w0 w : World} {v : Value} {l : List Fld} (h : AccF w0 w v l) : ∃ a cap, v = .slice a l.length cap ∧ FldsIn w a l := by
  obtain ⟨⟨h1, h2⟩, _⟩ := h
  rcases h2 with ⟨rfl, h2⟩ | ⟨g, cap, cur, rfl, hg, hc, hcap, hm, hsz, ht⟩
  · have : l = [] := List.eq_nil_of_length_eq_zero h2
    subst this
    exact ⟨none, 0, rfl, FldsIn.nil _ _⟩
  · refine ⟨_, cap, rfl, FldsIn.of_cells fun j u hj => ?_⟩
    have e := congrArg (fun x => x[j]?) ht
    have hlt : j < l.length * 2 := by rw [← cellsF_len]; exact (List.getElem?_eq_some_iff.1 hj).1
    rw [hj, List.getElem?_take_of_lt hlt] at e
    rw [Addr.add_lit]
    simp only [World.cell?, hc, Nat.zero_add]
    simpa using e

section
variable {ops : Array Oper} {rest : List Oper} {o : Oper} {act : Act} {Q : Exit → Act → World → Prop}
/-- APPEND of one field to a slice of the call's own. -/
theorem wpList_append_accf (w : World) (hgd : o.guard = none) (s x : Operand) (ho : o.op = .call { callee := .builtin .append, args := #[s, x], argTypes := #[22, 22] })
    {w0 : World} {v : Value} {l : List Fld} (hs : act.eval s = v) (h : AccF w0 w v l) {b c : Nat} (hx : act.eval x = .slice (some ⟨b, 0, none⟩) 1 c) {y : Fld} (hy : w.cell? ⟨b, 0, none⟩ = some (.string y.1)) (hy2 : w.cell? ⟨b, 1, none⟩ = some (.string y.2))
    (hn : l.length + 1 ≤ 4398046511104)
    (K : ∀ g cap w', AccF w0 w' (.slice (some ⟨g, 0, none⟩) (l.length + 1) cap) (l ++ [y]) →
      wpList Tryd.prog ops Q rest (act.put o.dst (.slice (some ⟨g, 0, none⟩) (l.length + 1) cap)) w') : wpList Tryd.prog ops Q (o :: rest) act w := by
  obtain ⟨i0, hi, hz0, hz1, hz2⟩ := info_parts Tryd.info28
  refine wpList_append_lies w hgd s x 22 ho w0.heap.size 28 i0 _ 2 32 Tryd.underlying22 hi hz0 hz1 hz2 rfl (by decide) v l.length (cellsF l) hs h.1 ⟨b, 0, none⟩ 1 c [.string y.1, .string y.2] hx rfl ?_ ?_ (by decide) (by unfold maxLen; omega) (by omega) h.2.size w.heap.size rfl ?_
  · intro j u hj
    match j, hj with
    | 0, hj => simp at hj; subst hj; rw [Addr.add_lit]; exact hy
    | 1, hj => simp at hj; subst hj; rw [Addr.add_lit]; exact hy2
    | j + 2, hj => simp at hj
  · intro u hu; simp at hu; rcases hu with rfl | rfl <;> rfl
  · intro g cap w' hown hgrow hg hlt
    refine K g cap w' ⟨?_, h.2.grown hgrow h.2.size fun k hk => ?_⟩
    · rw [List.length_append, cellsF_app]; exact hown
    · exact (World.ownsRow.lt h.1 k hk).1
end

/-- Strings that a program may hold. -/
def ShortF (l : List Fld) : Prop := ∀ f ∈ l, f.1.size ≤ maxLen ∧ f.2.size ≤ maxLen
theorem ShortF.take {l : List Fld} (h : ShortF l) (k : Nat) : ShortF (l.take k) := fun f hf => h f (List.mem_of_mem_take hf)
theorem bulk_mem {H : Type} {x : DataW H} : ∀ {l : List (DataW H)}, x ∈ l → Rows.uptoBulk x ≤ Rows.uptoBulkAll l
  | y :: r, h => by
    simp only [Rows.uptoBulkAll]
    rcases List.mem_cons.1 h with rfl | h
    · omega
    · have := bulk_mem h; omega
def strF : Value → ByteArray | .string s => s | _ => ⟨#[]⟩
theorem open_fields {H : Type} {enc : TypeId × Value → H} {W : World} {a : Option Addr} {len cap : Nat} {d : DataW H} {ps : List MemPlace} {base : Nat}
    (h : DataW.Trod enc Tryd.prog W base (fun _ => true) true 22 (.slice a len cap) d ps) :
    ∃ l : List Fld, len = l.length ∧ FldsIn W a l ∧ l.length ≤ cap ∧ cap ≤ maxLen ∧ ShortF l ∧ ∀ f ∈ l, f.1.size ≤ Rows.uptoBulk d ∧ f.2.size ≤ Rows.uptoBulk d := by
  obtain ⟨fuel, hf⟩ := h
  rcases Go.Deep.open_slice_pairs Tryd.underlying22 Tryd.underlying28 (by kernel_rfl) (by kernel_rfl) (by kernel_rfl) (by kernel_rfl) (by kernel_rfl) hf with ⟨hcs, _⟩ | ⟨x, n, c, m, k, V0, V1, D0, D1, P0, P1, hcs, _, hl, hm, hmm, hx, hi⟩
  · simp [Value.cells] at hcs
    obtain ⟨rfl, rfl, rfl⟩ := hcs
    exact ⟨[], rfl, FldsIn.nil _ _, Nat.le_refl _, Nat.zero_le _, (fun f hf => by cases hf), (fun f hf => by cases hf)⟩
  · simp [Value.cells] at hcs
    obtain ⟨rfl, rfl, rfl⟩ := hcs
    have hlm : len ≤ m := by rw [hmm]; split <;> omega
    have each : ∀ i, i < m → ∃ s t : ByteArray, V0 i = .string s ∧ V1 i = .string t ∧ s.size ≤ maxLen ∧ t.size ≤ maxLen ∧ D0 i = .lit (.string s.data.toList) ∧ D1 i = .lit (.string t.data.toList) := fun i him => by
      obtain ⟨_, _, h3, h4⟩ := hi i him
      obtain ⟨s, e1, e2, e3⟩ := DataW.trod_string Tryd.underlying9 h3
      obtain ⟨t, f1, f2, f3⟩ := DataW.trod_string Tryd.underlying9 h4
      injection e1 with e1; injection f1 with f1
      exact ⟨s, t, e1, f1, e3, f3, congrArg Prod.fst e2, congrArg Prod.fst f2⟩
    have hlen : ((List.range len).map fun i => ((strF (V0 i), strF (V1 i)) : Fld)).length = len := by simp
    have hd : d = .slice ((List.range len).map fun i => .agg [D0 i, D1 i]) ((List.range (m - len)).map fun j => .agg [D0 (len + j), D1 (len + j)]) := congrArg Prod.fst hx
    refine ⟨(List.range len).map fun i => (strF (V0 i), strF (V1 i)), hlen.symm, fun j hj => ?_, by rw [hlen]; exact hl, hm, fun f hf => ?_, fun f hf => ?_⟩
    · rw [hlen] at hj
      obtain ⟨h1, h2, _⟩ := hi j (by omega)
      obtain ⟨s, t, e1, e2, _⟩ := each j (by omega)
      refine ⟨x, rfl, ?_, ?_⟩
      · rw [h1, e1]; simp [strF, e1]
      · rw [h2, e2]; simp [strF, e2]
    · obtain ⟨i, hi', rfl⟩ := List.mem_map.1 hf
      obtain ⟨s, t, e1, e2, e3, e4, _⟩ := each i (by have := List.mem_range.1 hi'; omega)
      rw [e1, e2]; exact ⟨e3, e4⟩
    · obtain ⟨i, hi', rfl⟩ := List.mem_map.1 hf
      obtain ⟨s, t, e1, e2, e3, e4, e5, e6⟩ := each i (by have := List.mem_range.1 hi'; omega)
      have hb := bulk_mem (x := (.agg [D0 i, D1 i] : DataW H)) (l := (List.range len).map fun i => .agg [D0 i, D1 i]) (List.mem_map.2 ⟨i, hi', rfl⟩)
      rw [e5, e6] at hb
      simp only [Rows.uptoBulk, Rows.uptoBulkAll] at hb
      have g1 : s.data.toList.length = s.size := by rw [Array.length_toList]; rfl
      have g2 : t.data.toList.length = t.size := by rw [Array.length_toList]; rfl
      rw [e1, e2, hd]
      simp only [strF, Rows.uptoBulk]
      omega
end Go.Proofs.YtcniajbfgfikjaaDoor
