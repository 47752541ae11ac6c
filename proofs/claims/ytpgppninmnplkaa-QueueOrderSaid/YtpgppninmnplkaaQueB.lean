/- Queues: clone, Peek, SameQueue. -/
import Derived.Test.YtpgppninmnplkaaQueA
import Derived.OwnWalk
import Derived.Laws.CopyOwn
namespace Go.Proofs.Ytpgppninmnplkaa
open Go.RowKit

theorem u8_sizeQ : (Try.prog.info? 5).map (·.size) = some 1 := by kernel_rfl
theorem row_bytes {w : World} {g : Nat} {l : List UInt8} {t : TypeId} {fr : Nat × Nat} (h : w.heap[g]? = some (.cells (bytesV l).toArray t fr)) (hl : l.length ≤ maxLen) : IsBytes w (some ⟨g, 0, none⟩) l l.length := by
  refine .inr ⟨_, rfl, Nat.le_refl _, hl, fun j hj => ?_⟩
  rw [Addr.add_lit, Nat.zero_add, cell_of_row _ _ _ _ _ _ h]
  unfold bytesV
  simp [hj]
theorem bytesV_append (l r : List UInt8) : bytesV (l ++ r) = bytesV l ++ bytesV r := by unfold bytesV; rw [List.map_append]
theorem bytesV_oneQ (l : List UInt8) : ∀ v ∈ bytesV l, v.oneCell' = true := by
  intro v hv
  unfold bytesV at hv
  obtain ⟨c, _, rfl⟩ := List.mem_map.1 hv
  rfl
theorem bytesV_take (l : List UInt8) (n : Nat) : bytesV (l.take n) = (bytesV l).take n := by unfold bytesV; rw [List.map_take]
theorem bytesV_drop (l : List UInt8) (n : Nat) : bytesV (l.drop n) = (bytesV l).drop n := by unfold bytesV; rw [List.map_drop]
/-- What is copied: at most n of the bytes l, and they lie where the slice says. -/
theorem copy_src {w : World} {a : Option Addr} {l : List UInt8} {c n : Nat} (h : IsBytes w a l c) (hp : 0 < (bytesV (l.take n)).length) : ∃ ad, a = some ad ∧ ∀ j v, (bytesV (l.take n))[j]? = some v → w.cell? (ad.add j) = some v := by
  rcases h with ⟨_, rfl, _⟩ | ⟨x, rfl, _, _, h4⟩
  · simp [bytesV] at hp
  · refine ⟨x, rfl, fun j v hj => ?_⟩
    unfold bytesV at hj
    rw [List.getElem?_map] at hj
    obtain ⟨y, hy, rfl⟩ := Option.map_eq_some_iff.1 hj
    obtain ⟨hlt, rfl⟩ := List.getElem?_eq_some_iff.1 hy
    rw [List.getElem_take]
    exact h4 j (by rw [List.length_take] at hlt; omega)
/-- The row of a slice that 'make' has just made. -/
theorem made_row {w w1 : World} {g N : Nat} (h : w1.ownsRow w.heap.size 5 1 (.slice (some ⟨g, 0, none⟩) N N) N (madeCells #[.int .u8 0] N).toList) :
    w1.heap[g]? = some (.cells (bytesV (List.replicate N 0)).toArray 5 (0, 0)) := by
  obtain ⟨h1, h2⟩ := h
  rcases h2 with ⟨e, _⟩ | ⟨g', cap, cur, e, _, hh, hn, hm, hs, ht⟩
  · cases e
  · injection e with e1 e2 e3
    injection e1 with e1
    injection e1 with e1
    subst e1 e3
    rw [hh]
    have e : cur.toList = bytesV (List.replicate N 0) := by
      have h0 : cur.toList.take (N * 1) = cur.toList := List.take_of_length_le (by simp [hs])
      rw [← h0, ht, toList_madeCells_one]
      unfold bytesV
      rw [List.map_replicate]; rfl
    rw [← e]

set_option maxHeartbeats 400000 in
theorem clone_fresh (l : List UInt8) (a : Option Addr) (c : Nat) (w : World) (h : IsBytes w a l c) (hlen : l.length ≤ 140737488355328) :
    Calls Try.prog 24 #[.slice a l.length c] w fun e w' => ∃ a' c', e = .returned (.slice a' l.length c') ∧ Below w.heap.size w w' ∧ IsBytes w' a' l c' ∧ ∀ x, a' = some x → w.heap.size ≤ x.block := by
  have H0 := Box.mk h
  have HL := Box.mk (isBytes_len h)
  clear h
  go_enter Try.func24, Try.ntmps24
  obtain ⟨i0, hi, hz0, hz1, hz2⟩ := info_parts Try.info5
  have HI := Box.mk (show i0.bytes * l.length ≤ 281474976710656 by rw [hz2]; omega)
  have HZ := Box.mk (And.intro hi (And.intro hz0 hz1))
  clear hi hz0 hz1 hz2
  go_wp2_with (at_make; refine wpList_make_full _ rfl _ _ 22 rfl w.heap.size 5 i0 (.int .u8 0) 1 Try.underlying22 HZ.out.1 HZ.out.2.1 HZ.out.2.2 .i64 .i64 _ _ l.length rfl rfl rfl rfl HI.out HL.out (Nat.le_refl _) ?c1)
  case c1 =>
    intro w1 hown hgrow
    have HR := Box.mk (made_row hown)
    have HB := Box.mk ((Below.refl w.heap.size w).grown hgrow (Nat.le_refl _) fun k hk => by cases hk)
    clear hown hgrow
    have HP := Box.mk (fun hp => copy_src (n := l.length) (H0.out.keep HB.out) hp)
    have htk : l.take l.length = l := List.take_length
    rw [htk] at HP
    have HS := Box.mk (show splice (bytesV (List.replicate l.length 0)) 0 (bytesV l) = bytesV l by unfold splice; simp [bytesV])
    go_wp2_with (refine wpList_copy_splice rfl (.tmp 7) (.tmp 8) 22 22 rfl 5 Try.underlying22 u8_sizeQ _ _ _ _ _ _ rfl rfl w.heap.size 0 (bytesV (List.replicate l.length 0)) 5 HR.out (bytesV l) (by rw [bytesV_len]; exact (Nat.min_self _).symm) (fun hp => ⟨rfl, HP.out hp⟩) (by simp [bytesV_len]) (bytesV_oneQ l) w.heap.size w HB.out (Nat.le_refl _) ?c2)
    case c2 =>
      intro w2 hrow hb2
      have hrow' : w2.heap[w.heap.size]? = some (.cells (bytesV l).toArray 5 (0, 0)) := by rw [← HS.out]; exact hrow
      have HF := Box.mk (And.intro hb2 (row_bytes hrow' HL.out))
      clear hrow hrow' hb2
      go_wp2_with fail
      go_ret
      exact ⟨_, _, rfl, HF.out.1, HF.out.2, fun x hx => by obtain rfl := Option.some.inj hx; exact Nat.le_refl _⟩
end Go.Proofs.Ytpgppninmnplkaa
