/- What follows the text, the digest's bytes, Sum. -/
import Derived.Test.YtpgppninmnplkaaDoorDigE
namespace Go.Proofs.YtpgppninmnplkaaDoor
open Go.RowKit

theorem vU_byte8 (y : UInt32) : vU y % (256 : Int) = (((y.toUInt8).toNat : Nat) : Int) := by
  unfold vU
  rw [UInt32.toNat_toUInt8]; omega
theorem vU_shr24 (x : UInt32) : vU x / (16777216 : Int) = vU (x >>> 24) := vU_shr' x 24 (by decide)
theorem vU_shr16 (x : UInt32) : vU x / (65536 : Int) = vU (x >>> 16) := vU_shr' x 16 (by decide)
theorem vU_shr8 (x : UInt32) : vU x / (256 : Int) = vU (x >>> 8) := vU_shr' x 8 (by decide)
theorem bytes_new (w : World) (l : List UInt8) (cs : Array Value) (hc : cs = (bytesV l).toArray) (hl : l.length ≤ maxLen) (fr : Nat × Nat) : IsBytes (w.alloc (.cells cs 5 fr)) (some ⟨w.heap.size, 0, none⟩) l l.length := by
  subst hc
  refine .inr ⟨_, rfl, Nat.le_refl _, hl, fun j hj => ?_⟩
  rw [Addr.add_lit, Nat.zero_add, cell_of_row _ _ _ _ _ _ (heap_alloc_new _ _)]
  unfold bytesV
  rw [List.getElem?_toArray, List.getElem?_map, List.getElem?_eq_getElem hj]; rfl

set_option maxHeartbeats 1000000 in
theorem appendWord_any (x : UInt32) (w0 w : World) (v : Value) (l : List UInt8) (h : AccB w0 w v l) (hn : l.length + 4 ≤ 140737488355328) :
    Calls Tryd.prog 26 #[v, .int .u32 (vU x)] w fun e w' => ∃ v', e = .returned v' ∧ AccB w0 w' v' (l ++ be4 x) := by
  have s24 := vU_shr24
  have s16 := vU_shr16
  have s8 := vU_shr8
  have hb := vU_byte8
  have HA := Box.mk (h.keep ((Below.refl _ _).alloc (Nat.le_refl _) (.cells (bytesV (be4 x)).toArray 5)))
  have HB := Box.mk (bytes_new w (be4 x) _ rfl (show 4 ≤ maxLen by decide) (0, 0))
  clear h
  go_enter Tryd.func26, Tryd.ntmps26
  go_wp2_with (at_builtin; refine wpList_append_accs _ rfl _ _ rfl rfl HA.out rfl HB.out hn ?c1)
  case c1 =>
    intro v1 w1 hacc
    have H1 := Box.mk hacc
    clear hacc
    go_wp2_with fail
    go_ret
    exact ⟨_, rfl, H1.out⟩
end Go.Proofs.YtpgppninmnplkaaDoor
