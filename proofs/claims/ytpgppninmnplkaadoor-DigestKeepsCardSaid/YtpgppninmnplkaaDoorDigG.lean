/- What follows the text (padding), and Sum. -/
import Derived.Test.YtpgppninmnplkaaDoorDigF
import Derived.Deep.RegionHeld3
namespace Go.Proofs.YtpgppninmnplkaaDoor
open Go.RowKit

theorem u32_hi (n : Nat) (hn : n ≤ 140737488355328) : ((n : Int) * 8) / (4294967296 : Int) = vU (UInt32.ofNat (8 * n / 4294967296)) := by
  unfold vU
  rw [UInt32.toNat_ofNat']
  have : 8 * n / 4294967296 < 2 ^ 32 := by omega
  rw [Nat.mod_eq_of_lt this]
  omega
theorem u32_lo (n : Nat) : ((n : Int) * 8) % (4294967296 : Int) = vU (UInt32.ofNat (8 * n)) := by
  unfold vU
  rw [UInt32.toNat_ofNat', show (2 : Nat) ^ 32 = 4294967296 by decide]
  omega

theorem made_bytes {w w0 w1 : World} {k N : Nat} (h : w1.ownsRow w.heap.size 5 1 (.slice (some ⟨k, 0, none⟩) N N) N (madeCells #[.int .u8 0] N).toList) (hb : Below w.heap.size w w0) (hg : w0.grownBy w1 none) :
    AccB w w1 (.slice (some ⟨k, 0, none⟩) N N) (List.replicate N 0) := by
  refine ⟨?_, hb.grown hg hb.size fun k hk => by cases hk⟩
  have e : bytesV (List.replicate N 0) = (madeCells #[.int .u8 0] N).toList := by
    rw [toList_madeCells_one]
    unfold bytesV
    rw [List.map_replicate]; rfl
  rw [e, List.length_replicate]; exact h
/-- One byte of a slice of the call's own is written. -/
theorem AccB.store {w0 w : World} {k n cap : Nat} {l : List UInt8} (h : AccB w0 w (.slice (some ⟨k, 0, none⟩) n cap) l) (i : Nat) (hi : i < l.length) (c : UInt8) :
    (∃ u, w.cell? ⟨k, i, none⟩ = some u) ∧ w.frozen? ⟨k, i, none⟩ = false ∧ AccB w0 (w.setCell ⟨k, i, none⟩ (.int .u8 (c.toNat : Int))) (.slice (some ⟨k, 0, none⟩) n cap) (l.set i c) := by
  obtain ⟨⟨h1, h2⟩, hb⟩ := h
  rcases h2 with ⟨e, _⟩ | ⟨g, cap', cur, e, hg, hh, hn, hm, hs, ht⟩
  · cases e
  · injection e with e1 e2 e3
    injection e1 with e1
    injection e1 with e1
    subst e1 e2 e3
    have hlt : i < cur.size := by rw [hs]; omega
    refine ⟨⟨cur[i], by rw [cell_of_row _ _ _ _ _ _ hh]; simp [hlt]⟩, frozen_of_row _ _ _ _ _ hh, ⟨?_, ?_⟩, hb.setCell (p := ⟨k, i, none⟩) hg _⟩
    · simp [bytesV]
    · refine .inr ⟨k, cap, cur.setIfInBounds i (.int .u8 (c.toNat : Int)), by simp, hg, heap_setCell_same _ _ _ _ _ _ hh, by simpa using hn, hm, by simpa using hs, ?_⟩
      rw [Array.toList_setIfInBounds, List.length_set, List.take_set, ht]
      unfold bytesV
      rw [List.map_set]

theorem dig_len (w : World) (s : St) (n : Int) (t : Value) : (w.alloc (.cells (digV s n t) 34)).cell? ⟨w.heap.size, 8, none⟩ = some (.int .i64 n) := by
  rw [cell_of_row _ _ _ _ _ _ (heap_alloc_new _ _)]; rfl
theorem pad_eq (n t N : Nat) (ht : t = n % 64) (hN : N = 1 + (119 - t) % 64) : padL n = (List.replicate N 0).set 0 128 ++ be4 (UInt32.ofNat (8 * n / 4294967296)) ++ be4 (UInt32.ofNat (8 * n)) := by
  subst hN ht
  unfold padL
  rw [Nat.add_comm 1, List.replicate_succ, List.set_cons_zero, List.append_assoc]

set_option maxHeartbeats 600000 in
theorem padding_core (s : St) (L : List UInt8) (ta : Option Addr) (tcap : Nat) (w : World) (hL : L.length ≤ 140737488355328) :
    Calls Tryd.prog 25 #[.agg #[.int .u32 (vU s.a), .int .u32 (vU s.b), .int .u32 (vU s.c), .int .u32 (vU s.d), .int .u32 (vU s.e), .int .u32 (vU s.f), .int .u32 (vU s.g), .int .u32 (vU s.h), .int .i64 L.length, .slice ta (tailS L).length tcap]] w
      fun e w' => ∃ v', e = .returned v' ∧ AccB w w' v' (padL L.length) := by
  obtain ⟨t, ht, HT⟩ : ∃ t, t < 64 ∧ Box ((tailS L).length = t ∧ t = L.length % 64) := ⟨_, by rw [tailS_len]; omega, ⟨rfl, tailS_len L⟩⟩
  rw [show (tailS L).length = t from HT.out.1]
  obtain ⟨n, HN⟩ : ∃ n, Box (L.length = n) := ⟨_, ⟨rfl⟩⟩
  rw [show L.length = n from HN.out] at hL ⊢
  go_enter Tryd.func25, Tryd.ntmps25
  obtain ⟨i0, hi, hz0, hz1, hz2⟩ := info_parts Tryd.info5
  obtain ⟨N, HN2⟩ : ∃ N, Box (N = 1 + (119 - t) % 64) := ⟨_, ⟨rfl⟩⟩
  have hN64 : N ≤ 64 := by have := HN2.out; omega
  have HI := Box.mk (show i0.bytes * N ≤ 281474976710656 ∧ N ≤ maxLen by rw [hz2]; unfold maxLen; omega)
  have HZ := Box.mk (And.intro hi (And.intro hz0 hz1))
  clear hi hz0 hz1 hz2
  go_wp2_with (at_make; refine wpList_make_full _ rfl _ _ 22 rfl w.heap.size 5 i0 (.int .u8 0) 1 Tryd.underlying22 HZ.out.1 HZ.out.2.1 HZ.out.2.2 .i64 .i64 _ _ N rfl rfl (by have := HN2.out; omega) (by have := HN2.out; omega) HI.out.1 HI.out.2 (by simp) ?c1)
  case c1 =>
    intro w1 hown hgrow
    have HA := Box.mk (made_bytes hown (by exact (Below.refl _ _).alloc (Nat.le_refl _) _) hgrow)
    have h8 := below_cell ((Below.refl _ _).grown hgrow (Nat.le_refl _) fun k hk => by cases hk) (dig_len w s n (.slice ta t tcap))
    clear hown hgrow
    have hN0 : 0 < N := by have := HN2.out; omega
    obtain ⟨⟨u, hc⟩, hf, hset⟩ := HA.out.store 0 (by simpa using hN0) 128
    have HS : Box (AccB w (w1.setCell ⟨w.heap.size + 1, 0, none⟩ (.int .u8 128)) (.slice (some ⟨w.heap.size + 1, 0, none⟩) N N) ((List.replicate N 0).set 0 128)) := ⟨hset⟩
    clear hset
    have hhi := u32_hi n hL
    have hlo := u32_lo n
    have hpe := Box.mk (pad_eq n t N (by rw [← HN.out]; exact HT.out.2) HN2.out)
    generalize UInt32.ofNat (8 * n / 4294967296) = x1 at *
    generalize UInt32.ofNat (8 * n) = x2 at *
    go_wp2_with fail
    refine (appendWord_any x1 w _ _ _ HS.out (by simp; omega)).mono ?_
    rintro e w2 ⟨v2, rfl, h2⟩
    have H2 := Box.mk h2
    clear h2
    go_wp2_with fail
    refine (appendWord_any x2 w _ _ _ H2.out (by simp [be4]; omega)).mono ?_
    rintro e w3 ⟨v3, rfl, h3⟩
    have H3 := Box.mk h3
    clear h3
    go_wp2_with fail
    go_ret
    refine ⟨_, rfl, ?_⟩
    rw [hpe.out]
    exact H3.out
theorem padding_any (L : List UInt8) (v : Value) (w : World) (hv : DigAt w v L) (hL : L.length ≤ 140737488355328) :
    Calls Tryd.prog 25 #[v] w fun e w' => ∃ v', e = .returned v' ∧ AccB w w' v' (padL L.length) := by
  obtain ⟨ta, tcap, rfl, _⟩ := hv
  exact padding_core (stS L) L ta tcap w hL
end Go.Proofs.YtpgppninmnplkaaDoor
