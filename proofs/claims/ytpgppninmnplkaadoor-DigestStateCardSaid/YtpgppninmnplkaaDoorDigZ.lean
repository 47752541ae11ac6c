/- The contracts over values that nobody looks into; the law of the states. -/
import Derived.Test.YtpgppninmnplkaaDoorDigX
import Derived.Test.YtpgppninmnplkaaDoorDigY
import Derived.Test.YtpgppninmnplkaaDoorLocA
namespace Go.Proofs.YtpgppninmnplkaaDoor
open Go.RowKit

def Spec.dig (L : List UInt8) : Spec := ⟨fun v w => DigAt w v L, fun _ _ _ h hb => h.keep hb⟩
/-- The two tables as the text lays them. -/
structure DTabs (w : World) : Prop where
  k : RowAt w 1 kkV
  i : RowAt w 0 initS.cells
theorem DTabs.keep {w w' : World} (h : DTabs w) (hb : Below w.heap.size w w') : DTabs w' := ⟨h.k.keep hb, h.i.keep hb⟩

theorem digAt_nil {w w' : World} (_h : Below w.heap.size w w') : DigAt w' (.agg (digV initS 0 (.slice none 0 0))) [] := digAt_start w'
theorem start_v (w : World) (ht : DTabs w) : Calls Tryd.prog 15 #[] w fun e w' => ∃ v, e = .returned v ∧ Below w.heap.size w w' ∧ DigAt w' v [] := by
  refine (digStart_any w ht.i).mono ?_
  rintro e w' ⟨rfl, hb⟩
  exact ⟨_, rfl, hb, digAt_start w'⟩
theorem write_v (L l : List UInt8) (v u : Value) (w : World) (hv : DigAt w v L) (hu : BytesV w u l) (hlen : L.length + l.length ≤ 70368744177664) (ht : DTabs w) :
    Calls Tryd.prog 16 #[v, u] w fun e w' => ∃ v', e = .returned v' ∧ Below w.heap.size w w' ∧ DigAt w' v' (L ++ l) := by
  obtain ⟨a, c, rfl, hb⟩ := hu
  refine (write_any L l v a c w hv hb (by omega) ht.k).mono ?_
  rintro e w' ⟨ta, tc, rfl, h1, h2, h3⟩
  exact ⟨_, rfl, h2, ta, tc, rfl, h1⟩
theorem sum_v (L : List UInt8) (v : Value) (w : World) (hv : DigAt w v L) (hL : L.length ≤ 70368744177664) (ht : DTabs w) :
    Calls Tryd.prog 17 #[v] w fun e w' => ∃ v', e = .returned v' ∧ Below w.heap.size w w' ∧ BytesV w' v' (sumS L) := by
  refine (digSum_any L v w hv hL ht.k).mono ?_
  rintro e w' ⟨v', rfl, h⟩
  exact ⟨v', rfl, h.2, h.bytesV⟩
theorem of_v (ls : List (List UInt8)) (M : List UInt8) (v : Value) (w : World) (hv : SlcV w v ls) (hn : ls.length ≤ 2) (hM : ls.flatten = M) (hL : M.length ≤ 70368744177664) (ht : DTabs w) :
    Calls Tryd.prog 10 #[v] w fun e w' => ∃ v', e = .returned v' ∧ Below w.heap.size w w' ∧ BytesV w' v' (sumS M) := by
  obtain ⟨a, c, rfl, hs⟩ := hv
  refine (digOf_any ls a c w hs (by omega) (by rw [hM]; exact hL) ht.k ht.i).mono ?_
  rintro e w' ⟨v', rfl, h⟩
  rw [hM] at h
  exact ⟨v', rfl, h.2, h.bytesV⟩
theorem refOf_v (l : List UInt8) (v : Value) (w : World) (hv : BytesV w v l) (hl : l.length ≤ 70368744177664) :
    Calls Tryd.prog 11 #[v] w fun e w' => ∃ v', e = .returned v' ∧ Below w.heap.size w w' ∧ BytesV w' v' (sumS l) := by
  obtain ⟨a, c, rfl, hb⟩ := hv
  refine (refOf_any l a c w hb hl).mono ?_
  rintro e w' ⟨v', rfl, h⟩
  exact ⟨v', rfl, h.2, h.bytesV⟩
theorem text_v (l : List UInt8) (v : Value) (w : World) (hv : BytesV w v l) (hl : l.length ≤ 70368744177664) :
    Calls Tryd.prog 12 #[v] w fun e w' => ∃ v', e = .returned v' ∧ Below w.heap.size w w' ∧ v' = .string ⟨(hexL l).toArray⟩ := by
  obtain ⟨a, c, rfl, hb⟩ := hv
  refine (text_any l a c w hb hl).mono ?_
  rintro e w' ⟨rfl, h⟩
  exact ⟨_, rfl, h, rfl⟩
theorem refText_v (l : List UInt8) (v : Value) (w : World) (hv : BytesV w v l) (hl : l.length ≤ 70368744177664) :
    Calls Tryd.prog 13 #[v] w fun e w' => ∃ v', e = .returned v' ∧ Below w.heap.size w w' ∧ v' = .string ⟨(hexL l).toArray⟩ := by
  obtain ⟨a, c, rfl, hb⟩ := hv
  refine (refText_any l a c w hb hl).mono ?_
  rintro e w' ⟨rfl, h⟩
  exact ⟨_, rfl, h, rfl⟩
theorem refState_v (l : List UInt8) (v : Value) (w : World) (hv : BytesV w v l) (hl : l.length ≤ 70368744177664) :
    Calls Tryd.prog 19 #[v] w fun e w' => ∃ v', e = .returned v' ∧ Below w.heap.size w w' ∧ DigAt w' v' l := by
  obtain ⟨a, c, rfl, hb⟩ := hv
  refine (refState_any l a c w hb hl).mono ?_
  rintro e w' ⟨ta, tc, rfl, h1, h2⟩
  exact ⟨_, rfl, h2, ta, tc, rfl, h1⟩
theorem same_v (L : List UInt8) (v u : Value) (w : World) (hv : DigAt w v L) (hu : DigAt w u L) :
    Calls Tryd.prog 18 #[v, u] w fun e w' => ∃ v', e = .returned v' ∧ Below w.heap.size w w' ∧ v' = .bool true := by
  obtain ⟨ta, ca, rfl, h1⟩ := hv
  obtain ⟨tb, cb, rfl, h2⟩ := hu
  refine (sameDigest_any (stS L) L.length ta tb (tailS L) ca cb w h1 h2).mono ?_
  rintro e w' ⟨rfl, h⟩
  exact ⟨_, rfl, h, rfl⟩
theorem awake_v (w : World) (ht : DTabs w) : Calls Tryd.prog 14 #[] w fun e w' => ∃ v', e = .returned v' ∧ Below w.heap.size w w' ∧ v' = .bool true := by
  refine (digAwake_any w ht.k ht.i).mono ?_
  rintro e w' ⟨rfl, h⟩
  exact ⟨_, rfl, h, rfl⟩
theorem short_v (l : List UInt8) (v : Value) (n : Nat) (w : World) (h : BytesV w v l) (hn : n ≤ 1000) :
    Calls Tryd.prog 8 #[v, .int .i64 n] w fun e w' => ∃ v', e = .returned v' ∧ w = w' ∧ BytesV w v' (l.take n) := by
  obtain ⟨a, c, rfl, hb⟩ := h
  refine (short_any l a c n w hb hn).mono ?_
  rintro e w' ⟨c', rfl, h1, h2⟩
  exact ⟨_, rfl, h2, a, c', rfl, h1⟩

set_option maxRecDepth 100000 in
set_option maxHeartbeats 2000000 in
theorem digestState_any (la lb : List UInt8) (a b : Option Addr) (ca cb : Nat) (w : World) (ha : IsBytes w a la ca) (hb : IsBytes w b lb cb) (ht : DTabs w) :
    Calls Tryd.prog 5 #[.slice a la.length ca, .slice b lb.length cb] w fun e w' => e = .returned (.bool true) ∧ Below w.heap.size w w' := by
  obtain ⟨va, hva⟩ : ∃ va, va = Value.slice a la.length ca := ⟨_, rfl⟩
  obtain ⟨vb, hvb⟩ : ∃ vb, vb = Value.slice b lb.length cb := ⟨_, rfl⟩
  rw [← hva, ← hvb]
  have HA : Box (BytesV w va la) := ⟨a, ca, hva, ha⟩
  have HB : Box (BytesV w vb lb) := ⟨b, cb, hvb, hb⟩
  have HT := Box.mk ht
  clear ha hb ht hva hvb
  go_enter Tryd.func5, Tryd.ntmps5
  go_wp2_with fail
  refine (short_v la va 200 w HA.out (by decide)).mono ?_
  rintro e w1 ⟨a1, rfl, rfl, h⟩
  have HA1 := Box.mk h
  have hal : (la.take 200).length ≤ 200 := by rw [List.length_take]; omega
  clear h HA
  go_wp2_with fail
  refine (short_v lb vb 200 w HB.out (by decide)).mono ?_
  rintro e w1 ⟨b1, rfl, rfl, h⟩
  have HB1 := Box.mk h
  have hbl : (lb.take 200).length ≤ 200 := by rw [List.length_take]; omega
  clear h HB
  generalize la.take 200 = A at *
  generalize lb.take 200 = B at *
  go_wp2_with fail
  refine (start_v w HT.out).mono ?_
  rintro e w1 ⟨v1, rfl, h1, h2⟩
  have HW1 := Box.mk h1
  have HD1 := Box.mk h2
  clear h1 h2
  go_wp2_with fail
  refine (refState_v [] (.slice none 0 0) w1 ⟨none, 0, rfl, .inl ⟨rfl, rfl, rfl⟩⟩ (by decide)).mono ?_
  rintro e w2 ⟨v2, rfl, h1, h2⟩
  have HW2 := Box.mk (below_trans HW1.out h1)
  have HD2 := Box.mk h2
  have HD1' := Box.mk (HD1.out.keep h1)
  clear h1 h2 HD1
  go_wp2_with fail
  refine (same_v [] v1 v2 w2 HD1'.out HD2.out).mono ?_
  rintro e w3 ⟨v3, rfl, h1, rfl⟩
  have HW3 := Box.mk (below_trans HW2.out h1)
  clear h1 HD1' HD2
  go_wp2_with fail
  refine (start_v w3 (HT.out.keep HW3.out)).mono ?_
  rintro e w4 ⟨v4, rfl, h1, h2⟩
  have HW4 := Box.mk (below_trans HW3.out h1)
  have HD4 := Box.mk h2
  clear h1 h2
  go_wp2_with fail
  refine (write_v [] A v4 a1 w4 HD4.out (HA1.out.keep HW4.out) (by rw [List.length_nil]; omega) (HT.out.keep HW4.out)).mono ?_
  rintro e w5 ⟨v5, rfl, h1, h2⟩
  have HW5 := Box.mk (below_trans HW4.out h1)
  have HD5 : Box (DigAt w5 v5 A) := ⟨h2⟩
  clear h1 h2 HD4
  go_wp2_with fail
  refine (write_v A B v5 b1 w5 HD5.out (HB1.out.keep HW5.out) (by omega) (HT.out.keep HW5.out)).mono ?_
  rintro e w6 ⟨v6, rfl, h1, h2⟩
  have HW6 := Box.mk (below_trans HW5.out h1)
  have HD6 := Box.mk h2
  clear h1 h2 HD5
  obtain ⟨xa, xc, rfl, hxa⟩ := HA1.out.keep HW6.out
  obtain ⟨ya, yc, rfl, hya⟩ := HB1.out.keep HW6.out
  have HXA := Box.mk hxa
  have HYA := Box.mk hya
  have HE := Box.mk (AccB.empty w6)
  clear hxa hya HA1 HB1
  go_wp2_with (at_builtin; refine wpList_unguard rfl ?_; refine wpList_append_accs _ rfl _ _ rfl rfl HE.out rfl (HXA.out.keep HE.out.2) (by simp; omega) ?c1)
  case c1 =>
    intro u1 w7 hacc
    have H1 := Box.mk hacc
    clear hacc
    go_wp2_with (at_builtin; refine wpList_unguard rfl ?_; refine wpList_append_accs _ rfl _ _ rfl rfl H1.out rfl (HYA.out.keep H1.out.2) (by first | omega | (simp; omega)) ?c2)
    case c2 =>
      intro u2 w8 hacc
      have H2 : Box (BytesV w8 u2 (A ++ B)) := ⟨by have := hacc.bytesV; simpa using this⟩
      have HW8 := Box.mk (below_trans HW6.out hacc.2)
      have HD8 := Box.mk (HD6.out.keep hacc.2)
      clear hacc
      go_wp2_with fail
      refine (refState_v (A ++ B) u2 w8 H2.out (by rw [List.length_append]; omega)).mono ?_
      rintro e w9 ⟨v9, rfl, h1, h2⟩
      have HW9 := Box.mk (below_trans HW8.out h1)
      have HD9 := Box.mk h2
      have HD6' := Box.mk (HD8.out.keep h1)
      clear h1 h2
      go_wp2_with fail
      refine (same_v (A ++ B) v6 v9 w9 HD6'.out HD9.out).mono ?_
      rintro e wa ⟨va, rfl, h1, rfl⟩
      have HWA := Box.mk (below_trans HW9.out h1)
      clear h1
      go_wp2_with fail
      refine (awake_v wa (HT.out.keep HWA.out)).mono ?_
      rintro e wb ⟨vb, rfl, h1, rfl⟩
      have HWB := Box.mk (below_trans HWA.out h1)
      clear h1
      go_wp2_with fail
      go_ret
      exact ⟨rfl, HWB.out⟩
end Go.Proofs.YtpgppninmnplkaaDoor
