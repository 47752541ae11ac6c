/- Text in the reference. -/
import Derived.Test.YtpgppninmnplkaaDoorDigT
import Derived.IntWalk
import Derived.Laws.Concat
namespace Go.Proofs.YtpgppninmnplkaaDoor
open Go.RowKit

theorem hexB_piece (d : Nat) (h : d < 16) : (⟨#[48, 49, 50, 51, 52, 53, 54, 55, 56, 57, 97, 98, 99, 100, 101, 102]⟩ : ByteArray).extract d (d + 1) = ⟨#[hexB.getD d 0]⟩ := by
  have h1 : ∀ m : Fin 16, ((⟨#[48, 49, 50, 51, 52, 53, 54, 55, 56, 57, 97, 98, 99, 100, 101, 102]⟩ : ByteArray).extract m.val (m.val + 1)).data.toList = [hexB.getD m.val 0] := by decide +kernel
  apply ByteArray.ext
  apply Array.toList_inj.1
  exact h1 ⟨d, h⟩
theorem snoc_cat (c : UInt8) (t : List UInt8) : (⟨t.toArray⟩ : ByteArray) ++ ⟨#[c]⟩ = ⟨(t ++ [c]).toArray⟩ := by
  apply ByteArray.ext; simp
theorem u8_in (z : Int) (h0 : 0 ≤ z) (h1 : z < 256) : IntKind.u8.wrap z = z := by rw [IntKind.wrap_u8']; omega

set_option maxRecDepth 100000 in
set_option maxHeartbeats 2000000 in
theorem refText_any (l : List UInt8) (a : Option Addr) (cap : Nat) (w : World) (h : IsBytes w a l cap) (hl : l.length ≤ 70368744177664) :
    Calls Tryd.prog 13 #[.slice a l.length cap] w fun e w' => e = .returned (.string ⟨(hexL l).toArray⟩) ∧ Below w.heap.size w w' := by
  have H0 := Box.mk h
  clear h
  go_enter Tryd.func13, Tryd.ntmps13
  go_wp2_with fail
  go_loopw [3, 4] (fun sv iv wr => ∃ k j : Nat, k ≤ l.length ∧ iv = .int .i64 k ∧ sv = .string ⟨(hexL (l.take k)).toArray⟩ ∧ wr = w.drewN j) (fun _ iv _ => l.length - (intOf iv).toNat)
  case atStart => exact ⟨0, 0, Nat.zero_le _, rfl, rfl, by simp [World.drewN_zero]⟩
  case round =>
    obtain ⟨k, j, hk, rfl, rfl, rfl⟩ := hrel
    by_cases hlt : k < l.length
    · obtain ⟨x, rfl, hx⟩ : ∃ x, a = some x ∧ w.cell? (x.add k) = some (.int .u8 l[k].toNat) := by
        rcases H0.out with ⟨_, h, _⟩ | ⟨x, h1, _, _, h4⟩
        · rw [h] at hlt; exact absurd hlt (by simp)
        · exact ⟨x, h1, h4 k hlt⟩
      have HS := Box.mk (hex_snoc l k hlt)
      have hlen := hex_len (l.take k)
      have hlk : (l.take k).length = k := by rw [List.length_take]; omega
      have hc := l[k].toNat_lt
      generalize l[k] = c at *
      generalize hexL (l.take k) = t at *
      obtain ⟨d, hd⟩ : ∃ d : Nat, c.toNat / 16 = d := ⟨_, rfl⟩
      obtain ⟨m, hm⟩ : ∃ m : Nat, c.toNat % 16 = m := ⟨_, rfl⟩
      have hdlt : d < 16 := by omega
      have hmlt : m < 16 := by omega
      have HC : Box (hexC c = [hexB.getD d 0, hexB.getD m 0]) := ⟨by unfold hexC; rw [hd, hm]⟩
      have hq : ((c.toNat : Int).tdiv 16) = (d : Int) := by rw [Int.tdiv_eq_ediv_of_nonneg (by omega)]; omega
      have hr : ((c.toNat : Int).tmod 16) = (m : Int) := by rw [Int.tmod_eq_emod_of_nonneg (by omega)]; omega
      have hw1 : IntKind.u8.wrap (d : Int) = (d : Int) := u8_in _ (by omega) (by omega)
      have hw2 : IntKind.u8.wrap ((d : Int) + 1) = (d : Int) + 1 := u8_in _ (by omega) (by omega)
      have hw3 : IntKind.u8.wrap (m : Int) = (m : Int) := u8_in _ (by omega) (by omega)
      have hw4 : IntKind.u8.wrap ((m : Int) + 1) = (m : Int) + 1 := u8_in _ (by omega) (by omega)
      have hn1 : ((d : Int) + 1).toNat = d + 1 := by omega
      have hn2 : ((m : Int) + 1).toNat = m + 1 := by omega
      have i1 : (0 : Int) ≤ d := by omega
      have i2 : (0 : Int) ≤ d + 1 := by omega
      have i3 : (d : Int) + 1 ≤ 16 := by omega
      have i4 : d + 1 ≤ 16 := by omega
      have i5 : (d : Int) ≤ d + 1 := by omega
      have k1 : (0 : Int) ≤ m := by omega
      have k2 : (0 : Int) ≤ m + 1 := by omega
      have k3 : (m : Int) + 1 ≤ 16 := by omega
      have k4 : m + 1 ≤ 16 := by omega
      have k5 : (m : Int) ≤ m + 1 := by omega
      have hp := hexB_piece d hdlt
      have hp2 := hexB_piece m hmlt
      generalize hexB.getD d 0 = y1 at *
      generalize hexB.getD m 0 = y2 at *
      have hadd : ∀ W, (Op.stringOp .add ⟨t.toArray⟩ ⟨#[y1]⟩).run Tryd.prog W = .ok (.string ⟨(t ++ [y1]).toArray⟩) W := fun W => by
        have h := run_string_add_sum (P := Tryd.prog) (w := W) ⟨t.toArray⟩ ⟨#[y1]⟩ (by show (t.toArray).size + 1 ≤ _; simp; omega)
        rw [snoc_cat] at h; exact h
      have hadd2 : ∀ W, (Op.stringOp .add ⟨(t ++ [y1]).toArray⟩ ⟨#[y2]⟩).run Tryd.prog W = .ok (.string ⟨(t ++ [y1] ++ [y2]).toArray⟩) W := fun W => by
        have h := run_string_add_sum (P := Tryd.prog) (w := W) ⟨(t ++ [y1]).toArray⟩ ⟨#[y2]⟩ (by show ((t ++ [y1]).toArray).size + 1 ≤ _; simp; omega)
        rw [snoc_cat] at h; exact h
      have HD := Box.mk (And.intro hd hm)
      clear hd hm hlen hlk
      go_wp2_with fail
      go_quiet (fail)
      clear hx hq hr hw1 hw2 hw3 hw4 hn1 hn2 i1 i2 i3 i4 i5 k1 k2 k3 k4 k5 hp hp2 hadd hadd2
      go_wp2_with fail
      go_roundw
      case rel => exact ⟨k + 1, j + nq, by omega, by go_num, by rw [HS.out, HC.out], rfl⟩
      case measure => simp [intOf]; omega
    · rw [List.take_of_length_le (by omega)]
      go_wp2_with fail
      go_ret
      exact ⟨rfl, ⟨rfl, rfl, rfl, Nat.le_refl _, fun _ _ => rfl⟩⟩
end Go.Proofs.YtpgppninmnplkaaDoor
