/- Opening the arguments of the laws on fields. -/
import Derived.Test.YtcniajbfgfikjaaDoorFldT
namespace Go.Proofs.YtcniajbfgfikjaaDoor
open Go.ChangeShapes Go.WideShapes Go.ChangeAt Go.RowKit

theorem fields_none {H : Type} {enc : TypeId × Value → H} {W : World} {a : Option Addr} {len cap : Nat} {d : DataW H} {ps : List MemPlace} {base : Nat}
    (h : DataW.Trod enc Tryd.prog W base (fun _ => true) true 22 (.slice a len cap) d ps) : a = none → len = 0 ∧ cap = 0 := by
  obtain ⟨fuel, hf⟩ := h
  rcases Go.Deep.open_slice_pairs Tryd.underlying22 Tryd.underlying28 (by kernel_rfl) (by kernel_rfl) (by kernel_rfl) (by kernel_rfl) (by kernel_rfl) hf with ⟨hcs, _⟩ | ⟨x, n, c, m, k, V0, V1, D0, D1, P0, P1, hcs, _⟩
  · simp [Value.cells] at hcs
    obtain ⟨rfl, rfl, rfl⟩ := hcs
    exact fun _ => ⟨rfl, rfl⟩
  · simp [Value.cells] at hcs
    obtain ⟨rfl, rfl, rfl⟩ := hcs
    intro e; cases e
theorem open_fieldsC {H : Type} {enc : TypeId × Value → H} {W : World} {a : Option Addr} {len cap : Nat} {d : DataW H} {ps : List MemPlace} {base : Nat}
    (h : DataW.Trod enc Tryd.prog W base (fun _ => true) true 22 (.slice a len cap) d ps) :
    ∃ l : List Fld, len = l.length ∧ FldsC W a l cap ∧ l.length ≤ cap ∧ cap ≤ maxLen ∧ ShortF l ∧ (Rows.uptoBulk d ≤ 1048576 → SmallF l) := by
  obtain ⟨l, rfl, h1, h2, h3, h4, h5⟩ := open_fields h
  refine ⟨l, rfl, ⟨h1, fun e => ?_⟩, h2, h3, h4, fun hb f hf => ⟨Nat.le_trans (h5 f hf).1 hb, Nat.le_trans (h5 f hf).2 hb⟩⟩
  obtain ⟨e1, e2⟩ := fields_none h e
  exact ⟨List.eq_nil_of_length_eq_zero e1, e2⟩
theorem i64_ofF {x : Int} (h : (Lit.int .i64 x).wf = true) : -9223372036854775808 ≤ x ∧ x ≤ 9223372036854775807 := bounds_i64 h
theorem open_intsf {H : Type} {enc : TypeId × Value → H} {W : World} {a : Option Addr} {len cap : Nat} {d : DataW H} {ps : List MemPlace} {base : Nat}
    (h : DataW.Trod enc Tryd.prog W base (fun _ => true) true 23 (.slice a len cap) d ps) : IntsF W a len ∧ len ≤ maxLen := by
  obtain ⟨fuel, hf⟩ := h
  rcases open_ints Tryd.underlying23 Tryd.underlying3 (by kernel_rfl) hf with ⟨hcs, _⟩ | ⟨x, l, c, zs, hcs, _, hl, hm, hz, _, hcell, hwz⟩
  · simp [Value.cells] at hcs
    obtain ⟨rfl, rfl, rfl⟩ := hcs
    exact ⟨fun k hk => absurd hk (Nat.not_lt_zero _), Nat.zero_le _⟩
  · simp [Value.cells] at hcs
    obtain ⟨rfl, rfl, rfl⟩ := hcs
    have hz' : zs.length = cap := by simpa using hz
    refine ⟨fun k hk => ?_, Nat.le_trans hl hm⟩
    have hk' : k < zs.length := by omega
    have e : zs.getD k 0 = zs[k] := by rw [List.getD_eq_getElem?_getD, List.getElem?_eq_getElem hk']; rfl
    refine ⟨x, zs[k], rfl, by rw [hcell k hk', e], i64_ofF (hwz zs[k] (List.getElem_mem _))⟩
set_option maxRecDepth 100000 in
theorem open_field {H : Type} {enc : TypeId × Value → H} {W : World} {r : Reach} {b0 : Nat} {v : Value} {d : DataW H} {ps : List MemPlace} {base : Nat} (hval : Value.okWide Tryd.prog W r b0 28 v)
    (h : DataW.Trod enc Tryd.prog W base (fun _ => true) true 28 v d ps) :
    ∃ n m : ByteArray, v = .agg #[.string n, .string m] ∧ n.size ≤ maxLen ∧ m.size ≤ maxLen ∧ n.size ≤ Rows.uptoBulk d ∧ m.size ≤ Rows.uptoBulk d := by
  obtain ⟨cs, rfl, hsz⟩ := okWide_struct Tryd.underlying28 hval
  obtain ⟨fuel, hf⟩ := h
  have hsz2 : cs.size = 2 := by rw [hsz]; kernel_rfl
  obtain ⟨x0, x1, rfl⟩ : ∃ x0 x1, cs = #[x0, x1] := by
    match cs, hsz2 with
    | ⟨[x0, x1]⟩, _ => exact ⟨x0, x1, rfl⟩
  obtain ⟨y0, y1, n, hdp, _, h0, h1⟩ := trod_struct2 Tryd.underlying28 hf
  have e0 : ((Value.agg #[x0, x1]).cells.toList.drop 0).take (Tryd.prog.cellsOf 9) = [x0] := by rw [show Tryd.prog.cellsOf 9 = 1 by kernel_rfl]; rfl
  have e1 : ((Value.agg #[x0, x1]).cells.toList.drop 1).take (Tryd.prog.cellsOf 9) = [x1] := by rw [show Tryd.prog.cellsOf 9 = 1 by kernel_rfl]; rfl
  have h0' : DataW.trod enc Tryd.prog W base (fun _ => true) true n 9 [x0] = some y0 := by rw [← e0]; exact h0
  have h1' : DataW.trod enc Tryd.prog W base (fun _ => true) true n 9 [x1] = some y1 := by rw [← e1]; exact h1
  obtain ⟨s, es, fs, zs⟩ := DataW.trod_string Tryd.underlying9 h0'
  obtain ⟨t, et, ft, zt⟩ := DataW.trod_string Tryd.underlying9 h1'
  injection es with es
  injection et with et
  subst es et
  refine ⟨s, t, rfl, zs, zt, ?_⟩
  have hd : d = .agg [y0.1, y1.1] := congrArg Prod.fst hdp
  subst hd fs ft
  have l1 : s.data.toList.length = s.size := by rw [Array.length_toList]; rfl
  have l2 : t.data.toList.length = t.size := by rw [Array.length_toList]; rfl
  simp only [Rows.uptoBulk, Rows.uptoBulkAll, l1, l2]
  omega
end Go.Proofs.YtcniajbfgfikjaaDoor
