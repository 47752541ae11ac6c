/- Queues: the contracts over opened values; awake. -/
import Derived.Test.YtpgppninmnplkaaQueH
import Derived.Lib.SlBytesConst
namespace Go.Proofs.Ytpgppninmnplkaa
open Go.RowKit

theorem put_k {z : Int} {l : List UInt8} {ls : List (List UInt8)} {k : Nat} {L : List UInt8} {v u : Value} {w : World} (hv : QAt w v z l) (hu : SlcV w u ls) (hln : ls.length ≤ 2) (hlen : l.length ≤ 70368744177664)
    (hk : putL z l.length ls.flatten.length = k) (hL : l ++ ls.flatten.take k = L) :
    Calls Try.prog 17 #[v, u] w fun e w' => ∃ d f, e = .returned (.tuple #[.agg #[.int .i64 z, .slice d L.length f], .int .i64 k]) ∧ Below w.heap.size w w' ∧ IsBytes w' d L f := by
  obtain ⟨a, c, rfl, h1⟩ := hv
  obtain ⟨b, d, rfl, h2⟩ := hu
  subst hk hL
  exact put_any z l ls a b c d w h1 h2 (by omega) hlen
theorem take_k {z n : Int} {l : List UInt8} {k : Nat} {F R : List UInt8} {v : Value} {w : World} (hv : QAt w v z l) (hlen : l.length ≤ 140737488355328) (hk : peekN z n l.length = k) (hF : l.take k = F) (hR : l.drop k = R) :
    Calls Try.prog 19 #[v, .int .i64 n] w fun e w' => ∃ a m b d, e = .returned (.tuple #[.slice a F.length m, .agg #[.int .i64 z, .slice b R.length d]]) ∧ Below w.heap.size w w' ∧ IsBytes w' a F m ∧ IsBytes w' b R d := by
  obtain ⟨a, c, rfl, h1⟩ := hv
  subst hk hF hR
  refine (take_any z n l a c w h1 hlen).mono ?_
  rintro e w' ⟨v, b, d, rfl, hb, ⟨a', m, rfl, h2⟩, h3⟩
  exact ⟨a', m, b, d, rfl, hb, h2, h3⟩
theorem refTake_k {z n : Int} {l : List UInt8} {k : Nat} {F R : List UInt8} {v : Value} {w : World} (hv : QAt w v z l) (hlen : l.length ≤ 140737488355328) (hk : peekN z n l.length = k) (hF : l.take k = F) (hR : l.drop k = R) :
    Calls Try.prog 20 #[v, .int .i64 n] w fun e w' => ∃ a m b d, e = .returned (.tuple #[.slice a F.length m, .agg #[.int .i64 z, .slice b R.length d]]) ∧ Below w.heap.size w w' ∧ IsBytes w' a F m ∧ IsBytes w' b R d := by
  obtain ⟨a, c, rfl, h1⟩ := hv
  subst hk hF hR
  refine (refTake_any z n l a c w h1 hlen).mono ?_
  rintro e w' ⟨v, b, d, rfl, hb, ⟨a', m, rfl, h2⟩, h3⟩
  exact ⟨a', m, b, d, rfl, hb, h2, h3⟩
theorem peek_k {z n : Int} {l : List UInt8} {k : Nat} {F : List UInt8} {v : Value} {w : World} (hv : QAt w v z l) (hk : peekN z n l.length = k) (hF : l.take k = F) :
    Calls Try.prog 21 #[v, .int .i64 n] w fun e w' => ∃ v', e = .returned v' ∧ Below w.heap.size w w' ∧ BytesV w' v' F := by
  obtain ⟨a, c, rfl, h1⟩ := hv
  subst hk hF
  refine (peek_any z n l a c w h1).mono ?_
  rintro e w' ⟨v, rfl, hb, h2⟩
  exact ⟨v, rfl, hb, h2.bytes⟩
theorem room_k {z : Int} {l : List UInt8} {r : Nat} {v : Value} {w : World} (hv : QAt w v z l) (hr : roomN z l.length = r) :
    Calls Try.prog 13 #[v] w fun e w' => ∃ v', e = .returned v' ∧ Below w.heap.size w w' ∧ v' = .int .i64 r := by
  obtain ⟨a, c, rfl, h1⟩ := hv
  subst hr
  refine (room_lit z a l.length c w).mono ?_
  rintro e w' ⟨rfl, hb⟩
  exact ⟨_, rfl, hb, rfl⟩
theorem valid_k {z : Int} {l : List UInt8} {v : Value} {w : World} (hv : QAt w v z l) :
    Calls Try.prog 11 #[v] w fun e w' => ∃ v', e = .returned v' ∧ Below w.heap.size w w' ∧ v' = .bool (validB z l.length) := by
  obtain ⟨a, c, rfl, h1⟩ := hv
  refine (valid_lit z a l.length c w).mono ?_
  rintro e w' ⟨rfl, hb⟩
  exact ⟨_, rfl, hb, rfl⟩
theorem same_k {z : Int} {l : List UInt8} {v u : Value} {w : World} (hv : QAt w v z l) (hu : QAt w u z l) :
    Calls Try.prog 9 #[v, u] w fun e w' => ∃ v', e = .returned v' ∧ Below w.heap.size w w' ∧ v' = .bool true := by
  obtain ⟨a, c, rfl, h1⟩ := hv
  obtain ⟨b, d, rfl, h2⟩ := hu
  refine (sameQ_any z l a b c d w h1 h2).mono ?_
  rintro e w' ⟨rfl, hb⟩
  exact ⟨_, rfl, hb, rfl⟩
/-- Bytes do not lie in a queue's variable. -/
theorem QVar.apart {w : World} {g : Nat} {z : Int} {a d : Option Addr} {n c f : Nat} {l : List UInt8} (h : QVar w g z a n c) (hb : IsBytes w d l f) : ∀ x, d = some x → l ≠ [] → x.block ≠ g := by
  intro x hx hl hg
  rcases hb with ⟨h1, _⟩ | ⟨y, h1, _, _, h4⟩
  · rw [h1] at hx; cases hx
  · rw [h1] at hx
    obtain rfl := Option.some.inj hx
    have h5 := h4 0 (List.length_pos_iff.2 hl)
    have h6 : w.heap[(y.add 0).block]? = some (.cells #[.int .i64 z, .slice a n c] 24 (0, 0)) := by rw [add_block, hg]; exact h
    unfold World.cell? at h5
    rw [h6] at h5
    simp only at h5
    split at h5
    · cases h5
    · match hq : (y.add 0).off with
      | 0 => rw [hq] at h5; simp at h5
      | 1 => rw [hq] at h5; simp at h5
      | m + 2 => rw [hq] at h5; simp at h5
/-- A queue's variable is written: its bytes, and others, stay. -/
theorem QVar.store {w : World} {g : Nat} {z : Int} {a d : Option Addr} {n c f : Nat} {l : List UInt8} (h : QVar w g z a n c) (hb : IsBytes w d l f) (cs : Array Value) : IsBytes (w.setRow g cs) d l f := hb.setRowQ (h.apart hb) cs
theorem lit_new (w : World) (l : List UInt8) (hl : l.length ≤ maxLen) (t : TypeId) (fr : Nat × Nat) : IsBytes (w.alloc (.cells (bytesV l).toArray t fr)) (some ⟨w.heap.size, 0, none⟩) l l.length :=
  row_bytes (heap_alloc_new _ _) hl

set_option maxRecDepth 100000 in
set_option maxHeartbeats 2000000 in
theorem queAwake_any (w : World) : Calls Try.prog 15 #[] w fun e w' => e = .returned (.bool true) ∧ Below w.heap.size w w' := by
  have kc := fun (w : World) (C : Array Value) (n c : Nat) => Lib.run_convert_bytes_const (P := Try.prog) w 22 5 C n c Try.underlying22 Try.underlying5
  have kc2 := fun (w : World) (o : Obj) (C : Array Value) (n c : Nat) => show (convert 22 22 (.slice (some ⟨w.heap.size + 1, 0, none⟩) n c)).run Try.prog ((w.alloc o).alloc (.cells C 5)) = .ok (.slice (some ⟨w.heap.size + 1, 0, none⟩) n c) ((w.alloc o).alloc (.cells C 5 (C.size, C.size + 1))) by
    have := kc (w.alloc o) C n c
    rw [World.size_alloc] at this; exact this
  go_enter Try.func15, Try.ntmps15
  go_wp2_with fail
  refine (new_lit 3 w (by decide) (by decide)).mono ?_
  rintro e w1 ⟨he, hb1⟩
  rw [show newZ 3 = 3 by decide] at he
  subst he
  have HW1 := Box.mk hb1
  clear hb1
  go_wp2_with fail
  have HA := Box.mk (lit_new w1 [97] (by decide) 5 (1, 2))
  obtain ⟨W, hW⟩ : ∃ W, W = ((w1.alloc (.cells #[.int .u8 97] 5 (1, 2))).alloc (.cells #[.slice (some ⟨w1.heap.size, 0, none⟩) 1 1] 22)) := ⟨_, rfl⟩
  have HW := Box.mk (show Below w.heap.size w W by rw [hW]; exact below_trans HW1.out (below_two w1 _ _))
  have HS : Box (SlcV W (.slice (some ⟨w1.heap.size + 1, 0, none⟩) 1 1) [[97]]) := ⟨_, 1, rfl, by
    have := slcIn_build1 HA.out 22 (0, 0)
    rw [World.size_alloc] at this; rw [hW]; exact this⟩
  change Calls _ _ _ ((w1.alloc (.cells #[.int .u8 97] 5 (1, 2))).alloc (.cells #[.slice (some ⟨w1.heap.size, 0, none⟩) 1 1] 22)) _
  rw [← hW]
  clear hW HA HW1
  refine (put_k (z := 3) (l := []) (ls := [[97]]) (k := 1) (L := [97]) ⟨none, 0, rfl, .inl ⟨rfl, rfl, rfl⟩⟩ HS.out (show 1 ≤ 2 by decide) (Nat.zero_le _) (by decide) rfl).mono ?_
  rintro e w3 ⟨d, f, rfl, hb, hby⟩
  have HW3 := Box.mk (below_trans HW.out hb)
  have HD := Box.mk hby
  clear hb hby HW HS
  go_wp2_with fail
  have HQ := Box.mk (show QVar (w3.alloc (.cells #[.int .i64 3, .slice d 1 f] 24)) w3.heap.size 3 d 1 f from heap_alloc_new _ _)
  have HB3 := Box.mk (below_one w3 (.cells #[.int .i64 3, .slice d 1 f] 24))
  obtain ⟨U, hU⟩ : ∃ U, U = w3.alloc (.cells #[.int .i64 3, .slice d 1 f] 24) := ⟨_, rfl⟩
  have hUs : U.heap.size = w3.heap.size + 1 := by rw [hU]; simp
  rw [← hU] at HQ HB3
  have HB2 := Box.mk (lit_new U [98, 99, 100] (by decide) 5 (3, 4))
  obtain ⟨W, hW⟩ : ∃ W, W = ((U.alloc (.cells #[.int .u8 98, .int .u8 99, .int .u8 100] 5 (3, 4))).alloc (.cells #[.slice (some ⟨w3.heap.size + 1, 0, none⟩) 3 3] 22)) := ⟨_, rfl⟩
  have HBU := Box.mk (show Below U.heap.size U W by rw [hW]; exact below_two U _ _)
  have HS2 : Box (SlcV W (.slice (some ⟨w3.heap.size + 1 + 1, 0, none⟩) 1 1) [[98, 99, 100]]) := ⟨_, 1, rfl, by
    have := slcIn_build1 HB2.out 22 (0, 0)
    rw [World.size_alloc, hUs] at this; rw [hW]; exact this⟩
  change Calls _ _ _ (((w3.alloc (.cells #[.int .i64 3, .slice d 1 f] 24)).alloc (.cells #[.int .u8 98, .int .u8 99, .int .u8 100] 5 (3, 4))).alloc (.cells #[.slice (some ⟨w3.heap.size + 1, 0, none⟩) 3 3] 22)) _
  rw [← hU, ← hW]
  clear hW hU HB2 hUs
  have HWW := Box.mk (below_trans (below_trans HW3.out HB3.out) HBU.out)
  have HG := Box.mk HW3.out.size
  refine (put_k (z := 3) (l := [97]) (ls := [[98, 99, 100]]) (k := 2) (L := [97, 98, 99]) ⟨d, f, rfl, (HD.out.keep HB3.out).keep HBU.out⟩ HS2.out (show 1 ≤ 2 by decide) (by decide) (by decide) rfl).mono ?_
  rintro e w4 ⟨d2, f2, rfl, hb, hby⟩
  have HW4 := Box.mk (below_trans HWW.out hb)
  have HD4 := Box.mk hby
  have HQ4 := Box.mk ((HQ.out.keep HBU.out).keep hb)
  clear hb hby HS2 HWW HBU HQ HB3 HD
  generalize w3.heap.size = g at *
  have HB5 := Box.mk (below_setRow HW4.out HG.out #[.int .i64 3, .slice d2 3 f2])
  have HQ5 := Box.mk (show QVar (w4.setRow g #[.int .i64 3, .slice d2 3 f2]) g 3 d2 3 f2 from setRow_heap _ _ _ _ _ _ HQ4.out)
  go_wp2_with (first
    | (refine wpList_store_row rfl 24 _ _ rfl g #[.int .i64 3, .slice d2 3 f2] rfl rfl 24 _ HQ4.out sizeQ rfl (oneQ _ _ _ _) ?_)
    | (refine wpList_load_row rfl 24 _ rfl g rfl 24 _ (0, 0) _ HQ5.out Try.underlying24 rfl sizeQ ?_))
  have HD5 := Box.mk (HQ4.out.store HD4.out #[.int .i64 3, .slice d2 3 f2])
  obtain ⟨w5, hw5⟩ : ∃ w5, w5 = w4.setRow g #[.int .i64 3, .slice d2 3 f2] := ⟨_, rfl⟩
  rw [← hw5] at HB5 HQ5 HD5 ⊢
  clear hw5 HQ4 HD4 HW4
  refine (take_k (z := 3) (n := 2) (l := [97, 98, 99]) (k := 2) (F := [97, 98]) (R := [99]) ⟨d2, f2, rfl, HD5.out⟩ (by decide) (by decide) rfl rfl).mono ?_
  rintro e w6 ⟨a6, m6, b6, c6, rfl, hb, hx, hy⟩
  have HW6 := Box.mk (below_trans HB5.out hb)
  have HQ6 := Box.mk (HQ5.out.keep hb)
  have HX := Box.mk hx
  have HY := Box.mk hy
  clear hb hx hy HB5 HQ5 HD5
  have HB7 := Box.mk (below_setRow HW6.out HG.out #[.int .i64 3, .slice b6 1 c6])
  have HQ7 := Box.mk (show QVar (w6.setRow g #[.int .i64 3, .slice b6 1 c6]) g 3 b6 1 c6 from setRow_heap _ _ _ _ _ _ HQ6.out)
  have HX7 := show (convert 22 9 (.slice a6 2 m6)).run Try.prog (w6.setRow g #[.int .i64 3, .slice b6 1 c6]) = .ok (.string ⟨#[97, 98]⟩) (w6.setRow g #[.int .i64 3, .slice b6 1 c6]) from conv_bytes (HQ6.out.store HX.out #[.int .i64 3, .slice b6 1 c6])
  have HY7 := Box.mk (HQ6.out.store HY.out #[.int .i64 3, .slice b6 1 c6])
  go_wp2_with (first
    | (refine wpList_store_row rfl 24 _ _ rfl g #[.int .i64 3, .slice b6 1 c6] rfl rfl 24 _ HQ6.out sizeQ rfl (oneQ _ _ _ _) ?_)
    | (refine wpList_unguard rfl ?_; refine wpList_load_row rfl 24 _ rfl g rfl 24 _ (0, 0) _ HQ7.out Try.underlying24 rfl sizeQ ?_))
  clear HX7
  obtain ⟨w7, hw7⟩ : ∃ w7, w7 = w6.setRow g #[.int .i64 3, .slice b6 1 c6] := ⟨_, rfl⟩
  rw [← hw7] at HB7 HQ7 HY7 ⊢
  clear hw7 HQ6 HX HY HW6
  refine (peek_k (z := 3) (n := 9) (l := [99]) (k := 1) (F := [99]) ⟨b6, c6, rfl, HY7.out⟩ (by decide) rfl).mono ?_
  rintro e w8 ⟨v8, rfl, hb, a8, c8, rfl, hy8⟩
  have HW8 := Box.mk (below_trans HB7.out hb)
  have HQ8 := Box.mk (HQ7.out.keep hb)
  have HY8 := Box.mk (HY7.out.keep hb)
  have hc8 := show (convert 22 9 (.slice a8 1 c8)).run Try.prog w8 = .ok (.string ⟨#[99]⟩) w8 from conv_bytes hy8
  clear hb hy8 HB7 HQ7 HY7
  go_wp2_with (refine wpList_unguard rfl ?_; refine wpList_load_row rfl 24 _ rfl g rfl 24 _ (0, 0) _ HQ8.out Try.underlying24 rfl sizeQ ?_)
  refine (room_k (z := 3) (l := [99]) (r := 2) ⟨b6, c6, rfl, HY8.out⟩ (by decide)).mono ?_
  rintro e w9 ⟨v9, rfl, hb, rfl⟩
  have HW9 := Box.mk (below_trans HW8.out hb)
  clear hb
  go_wp2_with fail
  go_ret
  exact ⟨rfl, HW9.out⟩
theorem awake_k (w : World) : Calls Try.prog 15 #[] w fun e w' => ∃ v', e = .returned v' ∧ Below w.heap.size w w' ∧ v' = .bool true := by
  refine (queAwake_any w).mono ?_
  rintro e w' ⟨rfl, h⟩
  exact ⟨_, rfl, h, rfl⟩
end Go.Proofs.Ytpgppninmnplkaa
