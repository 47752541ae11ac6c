/- Text, by the library's Builder and in the reference. -/
import Derived.Test.YtpgppninmnplkaaDoorDigSpec
import Derived.Test.YtpgppninmnplkaaDoorBytes
import Derived.Test.YtpgppninmnplkaaDoorHashD
import Derived.Test.YtpgppninmnplkaaDoorShelf
namespace Go.Proofs.YtpgppninmnplkaaDoor
open Go.RowKit

/-- A Builder of the call's own, in block b, that holds the bytes l. -/
def Bld (w0 w : World) (b : Nat) (l : List UInt8) : Prop := Lib.IsBuilder 48 5 w0.heap.size b (bytesV l) w ∧ Below w0.heap.size w0 w

theorem bld_info : (Tryd.prog.info? 48).isSome = true := by kernel_rfl
theorem bld_conv (w : World) (b : Nat) (hsh : w.shape? b = some (48, 2)) :
    (convert 46 63 (.pointer (some ⟨b, 0, none⟩))).run Tryd.prog w = .ok (.pointer (some ⟨b, 0, none⟩)) w := by
  obtain ⟨j, hj⟩ := Option.isSome_iff_exists.1 bld_info
  refine Lib.run_to_unsafe w ⟨b, 0, none⟩ Tryd.underlying46 Tryd.underlying63 hj ?_ hsh (show 0 < 2 by decide)
  have : (Tryd.prog.info? 48).map (·.size) = some 2 := by kernel_rfl
  rw [hj] at this; simp at this; omega
theorem bld_back (w : World) (b : Nat) (hsh : w.shape? b = some (48, 2)) :
    (convert 63 46 (.pointer (some ⟨b, 0, none⟩))).run Tryd.prog w = .ok (.pointer (some ⟨b, 0, none⟩)) w := by
  obtain ⟨j, hj⟩ := Option.isSome_iff_exists.1 bld_info
  exact Lib.run_from_unsafe w ⟨b, 0, none⟩ Tryd.underlying63 Tryd.underlying46 hj hsh (by kernel_rfl)
theorem bld_same (w : World) (b : Nat) : (binOp .neq 46 (.pointer (some ⟨b, 0, none⟩)) (.pointer (some ⟨b, 0, none⟩))).run Tryd.prog w = .ok (.bool false) w := by
  obtain ⟨j, hj⟩ := Option.isSome_iff_exists.1 bld_info
  exact Lib.run_neq_ptr_same w ⟨b, 0, none⟩ Tryd.underlying46 hj

set_option maxHeartbeats 1000000 in
theorem copyCheck_any (w0 w : World) (b : Nat) (l : List UInt8) (h : Bld w0 w b l) :
    Calls Tryd.prog 29 #[.pointer (some ⟨b, 0, none⟩)] w fun e w' => e = .returned (.tuple #[]) ∧ Lib.BuilderAt 48 5 w0.heap.size b (.pointer (some ⟨b, 0, none⟩)) (bytesV l) w' ∧ Below w0.heap.size w0 w' := by
  obtain ⟨h1, hB⟩ := h
  rcases h1 with h1 | h1
  · have hc := h1.cell0
    have hf := h1.frozen0
    have HU := Box.mk (h1.used (.pointer (some ⟨b, 0, none⟩)))
    have HB := Box.mk (hB.setCell (p := ⟨b, 0, none⟩) h1.1 (.pointer (some ⟨b, 0, none⟩)))
    have hsh := h1.shape
    clear h1 hB
    go_enter Tryd.func29, Tryd.ntmps29
    have hcv := bld_conv w b hsh
    have hbk := bld_back w b hsh
    have hsm := fun W => bld_same W b
    go_wp2_with fail
    rw [run_callFunc_extern Tryd.func32 (by kernel_rfl) (by kernel_rfl) (by kernel_rfl) (e := Extern.AbiNoEscape.same) (by kernel_rfl), Lib.run_noEscape]
    simp only [Result.andThen]
    rw [Oper.upon_value]
    go_wp2_with fail
    go_end0
    exact ⟨rfl, HU.out, HB.out⟩
  · have hc := h1.cell0
    have hsm := fun W => bld_same W b
    have HU := Box.mk h1
    have HB := Box.mk hB
    clear h1 hB
    go_enter Tryd.func29, Tryd.ntmps29
    go_wp2_with fail
    go_end0
    exact ⟨rfl, HU.out, HB.out⟩

section
variable {ops : Array Oper} {rest : List Oper} {o : Oper} {act : Act} {Q : Exit → Act → World → Prop}
/-- APPEND of one byte, and what else stands. -/
theorem wpList_append_grow (w : World) (hgd : o.guard = none) (s x : Operand) (ho : o.op = .call { callee := .builtin .append, args := #[s, x], argTypes := #[22, 22] })
    {w0 : World} {v : Value} {l : List UInt8} (hs : act.eval s = v) (h : AccB w0 w v l) {b c : Nat} (hx : act.eval x = .slice (some ⟨b, 0, none⟩) 1 c) {y : UInt8} (hy : w.cell? ⟨b, 0, none⟩ = some (.int .u8 (y.toNat : Int)))
    (hn : l.length + 1 ≤ 140737488355328)
    (K : ∀ v' w', AccB w0 w' v' (l ++ [y]) → w.grownBy w' v.ownBlock → wpList Tryd.prog ops Q rest (act.put o.dst v') w') : wpList Tryd.prog ops Q (o :: rest) act w := by
  obtain ⟨i0, hi, hz0, hz1, hz2⟩ := info_parts Tryd.info5
  refine wpList_append_lies w hgd s x 22 ho w0.heap.size 5 i0 (.int .u8 0) 1 1 Tryd.underlying22 hi hz0 hz1 hz2 rfl (by decide) v l.length (bytesV l) hs h.1 ⟨b, 0, none⟩ 1 c [.int .u8 (y.toNat : Int)] hx rfl ?_ ?_ (by decide) (by unfold maxLen; omega) (by omega) h.2.size w.heap.size rfl ?_
  · intro j u hj
    match j, hj with
    | 0, hj => simp at hj; subst hj; rw [Addr.add_lit]; exact hy
    | j + 1, hj => simp at hj
  · intro u hu; simp at hu; subst hu; rfl
  · intro g cap w' hown hgrow hg hlt
    refine K _ w' ⟨by simpa [bytesV] using hown, h.2.grown hgrow h.2.size fun k hk => ?_⟩ hgrow
    exact (World.ownsRow.lt h.1 k hk).1
end

set_option maxHeartbeats 1000000 in
theorem writeByte_any (w0 w : World) (b : Nat) (l : List UInt8) (c : UInt8) (h : Bld w0 w b l) (hl : l.length + 1 ≤ 140737488355328) :
    Calls Tryd.prog 22 #[.pointer (some ⟨b, 0, none⟩), .int .u8 c.toNat] w fun e w' => e = .returned .nilIface ∧ Bld w0 w' b (l ++ [c]) := by
  have H0 := Box.mk h
  clear h
  go_enter Tryd.func22, Tryd.ntmps22
  go_wp2_with fail
  refine (copyCheck_any w0 w b l H0.out).mono ?_
  rintro e w1 ⟨rfl, ⟨hb0, v, hbk, hown, hne⟩, hB⟩
  have hc1 : w1.cell? ⟨b, 1, none⟩ = some v := by rw [cell_of_row _ _ _ _ _ _ hbk]; rfl
  have hsz : b < w1.heap.size := (Array.getElem?_eq_some_iff.1 hbk).1
  have hn1 : Below w1.heap.size w1 (w1.alloc (.cells #[.int .u8 (c.toNat : Int)] 5)) := (Below.refl _ _).alloc (Nat.le_refl _) _
  have HA : Box (AccB w0 (w1.alloc (.cells #[.int .u8 (c.toNat : Int)] 5)) v l) := ⟨AccB.keep ⟨by rw [← bytesV_len l]; exact hown, hB⟩ hn1⟩
  have HY : Box ((w1.alloc (.cells #[.int .u8 (c.toNat : Int)] 5)).cell? ⟨w1.heap.size, 0, none⟩ = some (.int .u8 (c.toNat : Int))) := ⟨by rw [cell_of_row _ _ _ _ _ _ (heap_alloc_new _ _)]; rfl⟩
  have HK := Box.mk (And.intro hb0 (And.intro ((hn1.block b hsz).trans hbk) (And.intro hne (show b < (w1.alloc (.cells #[.int .u8 (c.toNat : Int)] 5)).heap.size by simp; omega))))
  clear hb0 hbk hown hne hB hsz hn1
  go_wp2_with (at_builtin; refine wpList_append_grow _ rfl _ _ rfl rfl HA.out rfl HY.out hl ?c1)
  case c1 =>
    intro v2 w2 hacc hgrow
    obtain ⟨a2, cp2, rfl, _⟩ := hacc.shape
    have hbk2 := (hgrow.block b HK.out.2.2.2 (fun e => HK.out.2.2.1 e.symm)).trans HK.out.2.1
    have hc2 : w2.cell? ⟨b, 1, none⟩ = some v := by rw [cell_of_row _ _ _ _ _ _ hbk2]; rfl
    have hf2 := frozen_of_row w2 b 1 _ _ hbk2
    have HP := Box.mk (Lib.BuilderAt.put HK.out.1 hbk2 (v' := .slice a2 (l ++ [c]).length cp2) (show w2.ownsRow w0.heap.size 5 1 _ (bytesV (l ++ [c])).length (bytesV (l ++ [c])) by rw [bytesV_len]; exact hacc.1) (by decide))
    have HB := Box.mk (hacc.2.setCell (p := ⟨b, 1, none⟩) HK.out.1 (.slice a2 (l ++ [c]).length cp2))
    simp only [List.length_append, List.length_cons, List.length_nil, Nat.zero_add] at HP HB
    clear hacc hgrow hbk2 HK HY HA hc1
    go_wp2_with fail
    go_ret
    exact ⟨rfl, .inr HP.out, HB.out⟩

theorem bldX : Builder.Extra Tryd.prog Tryd.lays169_ren where
  sizeBuilder := by kernel_rfl
  liesBuilder := by kernel_rfl
  t5 := Tryd.underlying5
  a5 := Tryd.isAgg5
  z5 := Tryd.sizeOf5
  v5 := Tryd.zeroValue5
  infoByte := Tryd.info5
  cellsByte := by kernel_rfl
  sizeByte := by kernel_rfl
  neB5 := by decide
theorem bld_string (w0 w : World) (b : Nat) (l : List UInt8) (h : Bld w0 w b l) :
    Calls Tryd.prog 23 #[.pointer (some ⟨b, 0, none⟩)] w fun e w' => e = .returned (.string ⟨l.toArray⟩) ∧ Below w0.heap.size w0 w' := by
  refine (Any.Builder_String_any_k Tryd.lays169 bldX w0.heap.size b l w (Lib.IsBuilderF.of h.1) h.2.size).mono ?_
  rintro e w' ⟨he, _, hb, _⟩
  exact ⟨he, h.2.trans hb⟩

theorem hex_snoc (l : List UInt8) (k : Nat) (h : k < l.length) : hexL (l.take (k + 1)) = hexL (l.take k) ++ hexC l[k] := by
  unfold hexL
  rw [List.take_succ_eq_append_getElem h, List.flatMap_append]; simp
theorem hex_len : ∀ l : List UInt8, (hexL l).length = 2 * l.length
  | [] => rfl
  | c :: r => by
    have := hex_len r
    unfold hexL at this ⊢
    rw [List.flatMap_cons, List.length_append, this]
    simp [hexC]; omega
theorem hexB_at (n : Nat) (hn : n < 16) (hd : n < (⟨#[48, 49, 50, 51, 52, 53, 54, 55, 56, 57, 97, 98, 99, 100, 101, 102]⟩ : ByteArray).size) : (⟨#[48, 49, 50, 51, 52, 53, 54, 55, 56, 57, 97, 98, 99, 100, 101, 102]⟩ : ByteArray)[n]'hd = hexB.getD n 0 := by
  have h : ∀ m : Fin 16, (#[48, 49, 50, 51, 52, 53, 54, 55, 56, 57, 97, 98, 99, 100, 101, 102] : Array UInt8)[m.val]'(m.isLt) = hexB.getD m.val 0 := by decide
  exact h ⟨n, hn⟩
theorem hex_pair (c : UInt8) : ∃ h1 h2 : UInt8, hexC c = [h1, h2] ∧ (∀ hd, (⟨#[48, 49, 50, 51, 52, 53, 54, 55, 56, 57, 97, 98, 99, 100, 101, 102]⟩ : ByteArray)[c.toNat / 16]'hd = h1) ∧ (∀ hd, (⟨#[48, 49, 50, 51, 52, 53, 54, 55, 56, 57, 97, 98, 99, 100, 101, 102]⟩ : ByteArray)[c.toNat % 16]'hd = h2) := by
  have := c.toNat_lt
  exact ⟨_, _, rfl, fun hd => hexB_at _ (by omega) hd, fun hd => hexB_at _ (by omega) hd⟩
theorem bld_new (w : World) : Bld w (w.alloc (.cells #[.pointer none, .slice none 0 0] 48)) w.heap.size (hexL (([] : List UInt8).take 0)) :=
  ⟨.inl ⟨Nat.le_refl _, .slice none 0 0, heap_alloc_new _ _, World.ownsRow_nil _ _ _ _, by simp [Value.ownBlock]⟩, (Below.refl _ _).alloc (Nat.le_refl _) _⟩

set_option maxRecDepth 100000 in
set_option maxHeartbeats 2000000 in
theorem text_any (l : List UInt8) (a : Option Addr) (cap : Nat) (w : World) (h : IsBytes w a l cap) (hl : l.length ≤ 70368744177664) :
    Calls Tryd.prog 12 #[.slice a l.length cap] w fun e w' => e = .returned (.string ⟨(hexL l).toArray⟩) ∧ Below w.heap.size w w' := by
  have H0 := Box.mk h
  clear h
  go_enter Tryd.func12, Tryd.ntmps12
  go_wp2_with fail
  obtain ⟨W, hW⟩ : ∃ W, W = w.alloc (.cells #[.pointer none, .slice none 0 0] 48) := ⟨_, rfl⟩
  have HB0 := Box.mk (bld_new w)
  rw [← hW] at HB0 ⊢
  clear hW
  generalize hb : w.heap.size = b at *
  have HBS := Box.mk hb
  clear hb
  go_loopw [8] (fun iv wr => ∃ k : Nat, k ≤ l.length ∧ iv = .int .i64 k ∧ Box (Bld w wr b (hexL (l.take k)))) (fun iv _ => l.length - (intOf iv).toNat)
  case atStart => exact ⟨0, Nat.zero_le _, rfl, ⟨HB0.out⟩⟩
  case round =>
    clear HB0
    obtain ⟨k, hk, rfl, HM⟩ := hrel
    by_cases hlt : k < l.length
    · obtain ⟨x, rfl, hx⟩ : ∃ x, a = some x ∧ wr.cell? (x.add k) = some (.int .u8 l[k].toNat) := by
        rcases H0.out with ⟨_, h, _⟩ | ⟨x, h1, _, _, h4⟩
        · rw [h] at hlt; exact absurd hlt (by simp)
        · exact ⟨x, h1, below_cell HM.out.2 (h4 k hlt)⟩
      have HS := Box.mk (hex_snoc l k hlt)
      have hlen := hex_len (l.take k)
      have hlk : (l.take k).length = k := by rw [List.length_take]; omega
      generalize l[k] = c at *
      obtain ⟨h1, h2, hcc, hi1, hi2⟩ := hex_pair c
      have HCC := Box.mk hcc
      clear hcc
      have hc255 : (c.toNat : Int) < 256 := by have := c.toNat_lt; omega
      go_wp2_with fail
      refine (writeByte_any w wr b _ h1 HM.out (by omega)).mono ?_
      rintro e w2 ⟨rfl, h2'⟩
      have HM2 := Box.mk h2'
      clear h2'
      go_wp2_with fail
      refine (writeByte_any w w2 b _ h2 HM2.out (by rw [List.length_append]; simp; omega)).mono ?_
      rintro e w3 ⟨rfl, h3'⟩
      have HM3 := Box.mk h3'
      clear h3'
      go_wp2_with fail
      go_roundw
      case rel => exact ⟨k + 1, by omega, by go_num, ⟨by rw [HS.out, HCC.out]; have := HM3.out; rw [List.append_assoc] at this; exact this⟩⟩
      case measure => simp [intOf]; omega
    · have HE : Box (Bld w wr b (hexL l)) := ⟨by have := HM.out; rw [List.take_of_length_le (by omega)] at this; exact this⟩
      clear HM
      go_wp2_with fail
      refine (bld_string w wr b _ HE.out).mono ?_
      rintro e w2 ⟨rfl, hb⟩
      have HB := Box.mk hb
      clear hb
      go_wp2_with fail
      go_ret
      exact ⟨rfl, HB.out⟩
end Go.Proofs.YtpgppninmnplkaaDoor
