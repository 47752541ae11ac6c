/- Text, by the library's Builder and in the reference. -/
import Derived.Test.YtcniajbfgfikjaaDoorDigSpec
import Derived.Test.YtcniajbfgfikjaaDoorBytes
import Derived.Test.YtcniajbfgfikjaaDoorHashD
import Derived.Test.YtcniajbfgfikjaaDoorShelf
namespace Go.Proofs.YtcniajbfgfikjaaDoor
open Go.RowKit

/-- A Builder of the call's own, in block b, that holds the bytes l. -/
def Bld (w0 w : World) (b : Nat) (l : List UInt8) : Prop := Lib.IsBuilder 73 5 w0.heap.size b (bytesV l) w ∧ Below w0.heap.size w0 w

theorem bld_info : (Tryd.prog.info? 73).isSome = true := by kernel_rfl
theorem bld_conv (w : World) (b : Nat) (hsh : w.shape? b = some (73, 2)) :
    (convert 71 93 (.pointer (some ⟨b, 0, none⟩))).run Tryd.prog w = .ok (.pointer (some ⟨b, 0, none⟩)) w := by
  obtain ⟨j, hj⟩ := Option.isSome_iff_exists.1 bld_info
  refine Lib.run_to_unsafe w ⟨b, 0, none⟩ Tryd.underlying71 Tryd.underlying93 hj ?_ hsh (show 0 < 2 by decide)
  have : (Tryd.prog.info? 73).map (·.size) = some 2 := by kernel_rfl
  rw [hj] at this; simp at this; omega
theorem bld_back (w : World) (b : Nat) (hsh : w.shape? b = some (73, 2)) :
    (convert 93 71 (.pointer (some ⟨b, 0, none⟩))).run Tryd.prog w = .ok (.pointer (some ⟨b, 0, none⟩)) w := by
  obtain ⟨j, hj⟩ := Option.isSome_iff_exists.1 bld_info
  exact Lib.run_from_unsafe w ⟨b, 0, none⟩ Tryd.underlying93 Tryd.underlying71 hj hsh (by kernel_rfl)
theorem bld_same (w : World) (b : Nat) : (binOp .neq 71 (.pointer (some ⟨b, 0, none⟩)) (.pointer (some ⟨b, 0, none⟩))).run Tryd.prog w = .ok (.bool false) w := by
  obtain ⟨j, hj⟩ := Option.isSome_iff_exists.1 bld_info
  exact Lib.run_neq_ptr_same w ⟨b, 0, none⟩ Tryd.underlying71 hj

set_option maxRecDepth 100000 in
set_option maxHeartbeats 1000000 in
theorem copyCheck_any (w0 w : World) (b : Nat) (l : List UInt8) (h : Bld w0 w b l) :
    Calls Tryd.prog 64 #[.pointer (some ⟨b, 0, none⟩)] w fun e w' => e = .returned (.tuple #[]) ∧ Lib.BuilderAt 73 5 w0.heap.size b (.pointer (some ⟨b, 0, none⟩)) (bytesV l) w' ∧ Below w0.heap.size w0 w' := by
  obtain ⟨h1, hB⟩ := h
  rcases h1 with h1 | h1
  · have hc := h1.cell0
    have hf := h1.frozen0
    have HU := Box.mk (h1.used (.pointer (some ⟨b, 0, none⟩)))
    have HB := Box.mk (hB.setCell (p := ⟨b, 0, none⟩) h1.1 (.pointer (some ⟨b, 0, none⟩)))
    have hsh := h1.shape
    clear h1 hB
    go_enter Tryd.func64, Tryd.ntmps64
    have hcv := bld_conv w b hsh
    have hbk := bld_back w b hsh
    have hsm := fun W => bld_same W b
    go_wp2_with fail
    rw [run_callFunc_extern Tryd.func72 (by kernel_rfl) (by kernel_rfl) (by kernel_rfl) (e := Extern.AbiNoEscape.same) (by kernel_rfl), Lib.run_noEscape]
    simp only [Result.andThen]
    rw [Oper.upon_value]
    go_wp2_with fail
    go_end0
    exact ⟨rfl, HU.out, HB.out⟩
  · have hc := h1.cell0
    have hsm := fun W => bld_same W b
    have HU := Box.mk h1
    have HB := Box.mk hB
    clear h1 hB
    go_enter Tryd.func64, Tryd.ntmps64
    go_wp2_with fail
    go_end0
    exact ⟨rfl, HU.out, HB.out⟩

section
variable {ops : Array Oper} {rest : List Oper} {o : Oper} {act : Act} {Q : Exit → Act → World → Prop}
/-- APPEND of one byte, and what else stands. -/
theorem wpList_append_grow (w : World) (hgd : o.guard = none) (s x : Operand) (ho : o.op = .call { callee := .builtin .append, args := #[s, x], argTypes := #[43, 43] })
    {w0 : World} {v : Value} {l : List UInt8} (hs : act.eval s = v) (h : AccB w0 w v l) {b c : Nat} (hx : act.eval x = .slice (some ⟨b, 0, none⟩) 1 c) {y : UInt8} (hy : w.cell? ⟨b, 0, none⟩ = some (.int .u8 (y.toNat : Int)))
    (hn : l.length + 1 ≤ 140737488355328)
    (K : ∀ v' w', AccB w0 w' v' (l ++ [y]) → w.grownBy w' v.ownBlock → wpList Tryd.prog ops Q rest (act.put o.dst v') w') : wpList Tryd.prog ops Q (o :: rest) act w := by
  obtain ⟨i0, hi, hz0, hz1, hz2⟩ := info_parts Tryd.info5
  refine wpList_append_lies w hgd s x 43 ho w0.heap.size 5 i0 (.int .u8 0) 1 1 Tryd.underlying43 hi hz0 hz1 hz2 rfl (by decide) v l.length (bytesV l) hs h.1 ⟨b, 0, none⟩ 1 c [.int .u8 (y.toNat : Int)] hx rfl ?_ ?_ (by decide) (by unfold maxLen; omega) (by omega) h.2.size w.heap.size rfl ?_
  · intro j u hj
    match j, hj with
    | 0, hj => simp at hj; subst hj; rw [Addr.add_lit]; exact hy
    | j + 1, hj => simp at hj
  · intro u hu; simp at hu; subst hu; rfl
  · intro g cap w' hown hgrow hg hlt
    refine K _ w' ⟨by simpa [bytesV] using hown, h.2.grown hgrow h.2.size fun k hk => ?_⟩ hgrow
    exact (World.ownsRow.lt h.1 k hk).1
end

theorem bldX : Builder.Extra Tryd.prog Tryd.lays169_ren where
  sizeBuilder := by kernel_rfl
  liesBuilder := by kernel_rfl
  t5 := Tryd.underlying5
  a5 := Tryd.isAgg5
  z5 := Tryd.sizeOf5
  v5 := Tryd.zeroValue5
  infoByte := Tryd.info5
  cellsByte := by kernel_rfl
  sizeByte := by kernel_rfl
  neB5 := by decide
theorem bld_string (w0 w : World) (b : Nat) (l : List UInt8) (h : Bld w0 w b l) :
    Calls Tryd.prog 48 #[.pointer (some ⟨b, 0, none⟩)] w fun e w' => e = .returned (.string ⟨l.toArray⟩) ∧ Below w0.heap.size w0 w' := by
  refine (Any.Builder_String_any_k Tryd.lays169 bldX w0.heap.size b l w (Lib.IsBuilderF.of h.1) h.2.size).mono ?_
  rintro e w' ⟨he, _, hb, _⟩
  exact ⟨he, h.2.trans hb⟩

theorem hex_snoc (l : List UInt8) (k : Nat) (h : k < l.length) : hexL (l.take (k + 1)) = hexL (l.take k) ++ hexC l[k] := by
  unfold hexL
  rw [List.take_succ_eq_append_getElem h, List.flatMap_append]; simp
theorem hex_len : ∀ l : List UInt8, (hexL l).length = 2 * l.length
  | [] => rfl
  | c :: r => by
    have := hex_len r
    unfold hexL at this ⊢
    rw [List.flatMap_cons, List.length_append, this]
    simp [hexC]; omega
theorem hexB_at (n : Nat) (hn : n < 16) (hd : n < (⟨#[48, 49, 50, 51, 52, 53, 54, 55, 56, 57, 97, 98, 99, 100, 101, 102]⟩ : ByteArray).size) : (⟨#[48, 49, 50, 51, 52, 53, 54, 55, 56, 57, 97, 98, 99, 100, 101, 102]⟩ : ByteArray)[n]'hd = hexB.getD n 0 := by
  have h : ∀ m : Fin 16, (#[48, 49, 50, 51, 52, 53, 54, 55, 56, 57, 97, 98, 99, 100, 101, 102] : Array UInt8)[m.val]'(m.isLt) = hexB.getD m.val 0 := by decide
  exact h ⟨n, hn⟩
theorem hex_pair (c : UInt8) : ∃ h1 h2 : UInt8, hexC c = [h1, h2] ∧ (∀ hd, (⟨#[48, 49, 50, 51, 52, 53, 54, 55, 56, 57, 97, 98, 99, 100, 101, 102]⟩ : ByteArray)[c.toNat / 16]'hd = h1) ∧ (∀ hd, (⟨#[48, 49, 50, 51, 52, 53, 54, 55, 56, 57, 97, 98, 99, 100, 101, 102]⟩ : ByteArray)[c.toNat % 16]'hd = h2) := by
  have := c.toNat_lt
  exact ⟨_, _, rfl, fun hd => hexB_at _ (by omega) hd, fun hd => hexB_at _ (by omega) hd⟩
theorem bld_new (w : World) : Bld w (w.alloc (.cells #[.pointer none, .slice none 0 0] 73)) w.heap.size (hexL (([] : List UInt8).take 0)) :=
  ⟨.inl ⟨Nat.le_refl _, .slice none 0 0, heap_alloc_new _ _, World.ownsRow_nil _ _ _ _, by simp [Value.ownBlock]⟩, (Below.refl _ _).alloc (Nat.le_refl _) _⟩

end Go.Proofs.YtcniajbfgfikjaaDoor
