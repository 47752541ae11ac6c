/- awake. -/
import Derived.Test.YtpgppninmnplkaaDoorDigX
import Derived.Test.YtpgppninmnplkaaDoorDigU
import Derived.Lib.SlBytesConst
namespace Go.Proofs.YtpgppninmnplkaaDoor
open Go.RowKit

set_option maxRecDepth 100000 in
theorem hex_empty : hexL (sumS []) = [101, 51, 98, 48, 99, 52, 52, 50, 57, 56, 102, 99, 49, 99, 49, 52, 57, 97, 102, 98, 102, 52, 99, 56, 57, 57, 54, 102, 98, 57, 50, 52, 50, 55, 97, 101, 52, 49, 101, 52, 54, 52, 57, 98, 57, 51, 52, 99, 97, 52, 57, 53, 57, 57, 49, 98, 55, 56, 53, 50, 98, 56, 53, 53] := by decide +kernel
set_option maxRecDepth 100000 in
theorem hex_abc : hexL (sumS [97, 98, 99]) = [98, 97, 55, 56, 49, 54, 98, 102, 56, 102, 48, 49, 99, 102, 101, 97, 52, 49, 52, 49, 52, 48, 100, 101, 53, 100, 97, 101, 50, 50, 50, 51, 98, 48, 48, 51, 54, 49, 97, 51, 57, 54, 49, 55, 55, 97, 57, 99, 98, 52, 49, 48, 102, 102, 54, 49, 102, 50, 48, 48, 49, 53, 97, 100] := by decide +kernel
theorem sumS_len (L : List UInt8) : (sumS L).length = 32 := by unfold sumS outS; rw [flat_len]; rfl

theorem abc_new (w : World) (t : TypeId) (fr : Nat × Nat) : IsBytes (w.alloc (.cells #[.int .u8 97, .int .u8 98, .int .u8 99] t fr)) (some ⟨w.heap.size, 0, none⟩) [97, 98, 99] 3 := by
  refine .inr ⟨_, rfl, Nat.le_refl _, by decide, fun j hj => ?_⟩
  rw [Addr.add_lit, Nat.zero_add, alloc_cell_new]
  have hj' : j < 3 := hj
  match j, hj' with
  | 0, _ => rfl
  | 1, _ => rfl
  | 2, _ => rfl

set_option maxRecDepth 100000 in
set_option maxHeartbeats 2000000 in
theorem digAwake_any (w : World) (hk : RowAt w 1 kkV) (hi : RowAt w 0 initS.cells) :
    Calls Tryd.prog 14 #[] w fun e w' => e = .returned (.bool true) ∧ Below w.heap.size w w' := by
  have HK := Box.mk hk
  have HI := Box.mk hi
  clear hk hi
  have kc := fun (w : World) (C : Array Value) (n c : Nat) => Lib.run_convert_bytes_const (P := Tryd.prog) w 22 5 C n c Tryd.underlying22 Tryd.underlying5
  go_enter Tryd.func14, Tryd.ntmps14
  go_wp2_with fail
  refine (digOf_any [] none 0 w (slcIn_nil _ _) (by decide) (by decide) HK.out HI.out).mono ?_
  rintro e w1 ⟨v1, rfl, h1⟩
  obtain ⟨a1, c1, rfl, hb1⟩ := h1.shape
  have HB1 := Box.mk hb1
  have HW1 := Box.mk h1.2
  clear hb1 h1
  go_wp2_with fail
  refine (text_any (sumS []) a1 c1 w1 HB1.out (by rw [sumS_len]; decide)).mono ?_
  rintro e w2 ⟨he, hb2⟩
  rw [hex_empty] at he
  subst he
  have HW2 := Box.mk (below_trans HW1.out hb2)
  clear hb2
  go_wp2_with fail
  go_wp2_with fail
  have HA := Box.mk (abc_new w2 5 (3, 4))
  have HB := Box.mk (below_trans HW2.out (below2 w2 (.cells #[.int .u8 97, .int .u8 98, .int .u8 99] 5 (3, 4)) (.cells #[.slice (some ⟨w2.heap.size, 0, none⟩) 3 3] 22)))
  have HS : Box (SlcIn ((w2.alloc (.cells #[.int .u8 97, .int .u8 98, .int .u8 99] 5 (3, 4))).alloc (.cells #[.slice (some ⟨w2.heap.size, 0, none⟩) 3 3] 22)) (some ⟨w2.heap.size + 1, 0, none⟩) [[97, 98, 99]]) := ⟨by
    have := slcIn_build1 HA.out 22 (0, 0)
    rw [World.size_alloc] at this; exact this⟩
  generalize ((w2.alloc (.cells #[.int .u8 97, .int .u8 98, .int .u8 99] 5 (3, 4))).alloc (.cells #[.slice (some ⟨w2.heap.size, 0, none⟩) 3 3] 22)) = W3 at *
  clear HA
  refine (digOf_any [[97, 98, 99]] _ 1 W3 HS.out (by decide) (by decide) (HK.out.keep HB.out) (HI.out.keep HB.out)).mono ?_
  rintro e w4 ⟨v4, rfl, h4⟩
  obtain ⟨a4, c4, rfl, hb4⟩ := h4.shape
  have HB4 := Box.mk hb4
  have HW4 := Box.mk (below_trans HB.out h4.2)
  clear hb4 h4
  go_wp2_with fail
  refine (text_any (sumS [97, 98, 99]) a4 c4 w4 HB4.out (by rw [sumS_len]; decide)).mono ?_
  rintro e w5 ⟨he, hb5⟩
  rw [hex_abc] at he
  subst he
  have HW5 := Box.mk (below_trans HW4.out hb5)
  clear hb5
  go_wp2_with fail
  go_ret
  exact ⟨rfl, HW5.out⟩
end Go.Proofs.YtpgppninmnplkaaDoor
