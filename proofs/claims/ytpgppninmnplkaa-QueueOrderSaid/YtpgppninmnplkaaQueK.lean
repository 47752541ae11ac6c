/- The law that two Takes return what one would return. -/
import Derived.Test.YtpgppninmnplkaaQueJ
import Derived.Laws.Concat
namespace Go.Proofs.Ytpgppninmnplkaa
open Go.RowKit

theorem new_k (w : World) (m : Nat) (hm : m ≤ 1000000) : Calls Try.prog 8 #[.int .i64 m] w fun e w' => e = .returned (.agg #[.int .i64 m, .slice none 0 0]) ∧ Below w.heap.size w w' := by
  refine (new_lit m w (by omega) (by omega)).mono ?_
  rintro e w' ⟨rfl, hb⟩
  have e1 : newZ m = (m : Int) := by unfold newZ; omega
  exact ⟨by rw [e1], hb⟩
theorem validB_true {z n : Nat} (h1 : z ≤ 1000000) (h2 : n ≤ z) : validB z n = true := by
  have a1 : 0 ≤ (z : Int) := by omega
  have a2 : (z : Int) ≤ 1000000 := by omega
  have a3 : (n : Int) ≤ (z : Int) := by omega
  simp only [validB, a1, a2, a3, decide_true, Bool.and_self]
theorem roomN_of {z n : Nat} (h1 : z ≤ 1000000) (h2 : n ≤ z) : roomN z n = z - n := by
  unfold roomN
  rw [if_pos (validB_true h1 h2)]; omega
theorem peekN_of {z n : Nat} {k : Nat} (h1 : z ≤ 1000000) (h2 : n ≤ z) : peekN z k n = min k n := by
  unfold peekN
  rw [if_pos (validB_true h1 h2)]
  unfold clampN; omega
/-- Short and Within, of these laws. -/
theorem shortQ (l : List UInt8) (a : Option Addr) (cap n : Nat) (w : World) (h : IsBytes w a l cap) (hn : n ≤ 1000) :
    Calls Try.prog 22 #[.slice a l.length cap, .int .i64 n] w fun e w' => ∃ cap', e = .returned (.slice a (l.take n).length cap') ∧ IsBytes w a (l.take n) cap' ∧ w = w' := by
  have H0 := Box.mk h
  clear h
  by_cases hlt : n < l.length
  · have HB := Box.mk (H0.out.takeQ n)
    have hle : l.length ≤ cap := by
      rcases H0.out with ⟨h1, h2, _⟩ | ⟨x, h1, h2, _⟩
      · rw [h2] at hlt; exact absurd hlt (by simp)
      · exact h2
    have hl : (l.take n).length = n := by rw [List.length_take]; omega
    rw [hl]
    go_enter Try.func22, Try.ntmps22
    go_wp2
    go_ret
    exact ⟨_, rfl, HB.out, rfl⟩
  · rw [List.take_of_length_le (by omega)]
    go_enter Try.func22, Try.ntmps22
    go_wp2
    go_ret
    exact ⟨_, rfl, H0.out, rfl⟩
theorem within_valQ (z : Int) (n : Nat) (h0 : 0 < n) (hn : n ≤ 1000) : ∃ k : Nat, k < n ∧ (wrap64 (z.tmod n + n)).tmod n = (k : Int) := by
  have h1 : z.tmod n < n := Int.tmod_lt_of_pos z (by omega)
  have h2 : -(n : Int) < z.tmod n := Int.lt_tmod_of_pos z (by omega)
  generalize z.tmod n = y at *
  have e : wrap64 (y + n) = y + n := by simp only [wrap64]; omega
  rw [e, Int.tmod_eq_emod_of_nonneg (by omega)]
  exact ⟨((y + n) % n).toNat, by have := Int.emod_lt_of_pos (y + n) (show (0 : Int) < n by omega); have := Int.emod_nonneg (y + n) (show (n : Int) ≠ 0 by omega); omega, by have := Int.emod_nonneg (y + n) (show (n : Int) ≠ 0 by omega); omega⟩
theorem withinQ (z : Int) (n : Nat) (w : World) (h0 : 0 < n) (hn : n ≤ 1000) :
    Calls Try.prog 16 #[.int .i64 z, .int .i64 n] w fun e w' => ∃ k : Nat, k < n ∧ e = .returned (.int .i64 k) ∧ w = w' := by
  obtain ⟨k, hk, he⟩ := within_valQ z n h0 hn
  go_enter Try.func16, Try.ntmps16
  go_wp2
  go_ret
  exact ⟨k, hk, rfl, rfl⟩
theorem below_oneQ {w w1 : World} (h : Below w.heap.size w w1) (o : Obj) : Below w.heap.size w (w1.alloc o) := below_trans h (below_one w1 o)

set_option maxRecDepth 100000 in
set_option maxHeartbeats 2000000 in
theorem queueTwice_any (lb : List UInt8) (ab : Option Addr) (cb : Nat) (n m : Int) (w : World) (h : IsBytes w ab lb cb) :
    Calls Try.prog 6 #[.slice ab lb.length cb, .int .i64 n, .int .i64 m] w fun e w' => e = .returned (.bool true) ∧ Below w.heap.size w w' := by
  have H0 := Box.mk h
  clear h
  go_enter Try.func6, Try.ntmps6
  go_wp2_with fail
  refine (shortQ lb ab cb 200 w H0.out (by decide)).mono ?_
  rintro e w1 ⟨c1, rfl, hs, rfl⟩
  have HS := Box.mk hs
  have hBl : (lb.take 200).length ≤ 200 := by rw [List.length_take]; omega
  clear hs H0
  generalize lb.take 200 = B at *
  go_wp2_with fail
  refine (new_k w 200 (by decide)).mono ?_
  rintro e w1 ⟨rfl, hb⟩
  have HW1 := Box.mk hb
  have HS1 := Box.mk (HS.out.keep hb)
  clear hb HS
  go_wp2_with fail
  obtain ⟨W, hW⟩ : ∃ W, W = w1.alloc (.cells #[.slice ab B.length c1] 22) := ⟨_, rfl⟩
  have HSL : Box (SlcV W (.slice (some ⟨w1.heap.size, 0, none⟩) 1 1) [B]) := ⟨_, 1, rfl, by rw [hW]; exact slcIn_build1 HS1.out _ _⟩
  have HW2 := Box.mk (show Below w.heap.size w W by rw [hW]; exact below_oneQ HW1.out _)
  change Calls _ _ _ (w1.alloc (.cells #[.slice ab B.length c1] 22)) _
  rw [← hW]
  clear hW HW1 HS1
  refine (put_k (z := (200 : Nat)) (l := []) (ls := [B]) (k := B.length) (L := B) ⟨none, 0, rfl, .inl ⟨rfl, rfl, rfl⟩⟩ HSL.out (show 1 ≤ 2 by decide) (Nat.zero_le _) (by unfold putL; rw [List.length_nil, roomN_of (by decide) (Nat.zero_le _)]; simp; omega) (by simp)).mono ?_
  rintro e w3 ⟨d, f, rfl, hb, hby⟩
  have HW3 := Box.mk (below_trans HW2.out hb)
  have HD := Box.mk hby
  clear hb hby HW2 HSL
  go_wp2_with fail
  obtain ⟨W, hW⟩ : ∃ W, W = w3.alloc (.cells #[.int .i64 200, .slice d B.length f] 24) := ⟨_, rfl⟩
  have HQ := Box.mk (show QVar W w3.heap.size 200 d B.length f by rw [hW]; exact heap_alloc_new _ _)
  have HW4 := Box.mk (show Below w.heap.size w W by rw [hW]; exact below_oneQ HW3.out _)
  have HD4 := Box.mk (show IsBytes W d B f by rw [hW]; exact HD.out.keep (below_one _ _))
  change Calls _ _ _ (w3.alloc (.cells #[.int .i64 200, .slice d B.length f] 24)) _
  rw [← hW]
  clear hW HW3 HD
  generalize w3.heap.size = g at *
  refine (withinQ n 210 W (by decide) (by decide)).mono ?_
  rintro e w4 ⟨i, hi, rfl, rfl⟩
  go_wp2_with fail
  refine (withinQ m 210 W (by decide) (by decide)).mono ?_
  rintro e w4 ⟨j, hj, rfl, rfl⟩
  have hbl := Box.mk hBl
  obtain ⟨X, HX⟩ : ∃ X, Box (X = B.take (min i B.length)) := ⟨_, ⟨rfl⟩⟩
  obtain ⟨R, HR⟩ : ∃ R, Box (R = B.drop (min i B.length)) := ⟨_, ⟨rfl⟩⟩
  have HRL := Box.mk (show R.length = B.length - min i B.length by rw [HR.out, List.length_drop])
  obtain ⟨Y, HY⟩ : ∃ Y, Box (Y = R.take (min j R.length)) := ⟨_, ⟨rfl⟩⟩
  obtain ⟨S, HS⟩ : ∃ S, Box (S = R.drop (min j R.length)) := ⟨_, ⟨rfl⟩⟩
  have HZ := Box.mk (show B.take (min (i + j) B.length) = X ++ Y by
    have h1 := HRL.out
    rw [HX.out, HY.out, h1, HR.out, ← List.take_add]
    congr 1; omega)
  have HU := Box.mk (show B.drop (min (i + j) B.length) = S by
    have h1 := HRL.out
    rw [HS.out, h1, HR.out, List.drop_drop]
    congr 1; omega)
  have HXL := Box.mk (show X.length ≤ 200 by rw [HX.out, List.length_take]; omega)
  have HYL := Box.mk (show Y.length ≤ 200 by rw [HY.out, List.length_take]; have := HRL.out; omega)
  go_wp2_with (refine wpList_load_row rfl 24 _ rfl g rfl 24 _ (0, 0) _ HQ.out Try.underlying24 rfl sizeQ ?_)
  refine (take_k (z := (200 : Nat)) (n := i) (l := B) (k := min i B.length) (F := X) (R := R) ⟨d, f, rfl, HD4.out⟩ (by omega) (peekN_of (by decide) hBl) HX.out.symm HR.out.symm).mono ?_
  rintro e w5 ⟨a5, m5, b5, c5, rfl, hb, hx, hy⟩
  have HW5 := Box.mk (below_trans HW4.out hb)
  have HQ5 := Box.mk (HQ.out.keep hb)
  have HD5 := Box.mk (HD4.out.keep hb)
  have HX5 := Box.mk hx
  have HR5 := Box.mk hy
  clear hb hx hy HW4 HQ HD4
  have HAL := Box.mk (below_one w5 (.cells #[.int .i64 200, .slice b5 R.length c5] 24))
  have HN5 := Box.mk (show QVar (w5.alloc (.cells #[.int .i64 200, .slice b5 R.length c5] 24)) w5.heap.size 200 b5 R.length c5 from heap_alloc_new _ _)
  go_wp2_with (refine wpList_load_row rfl 24 _ rfl w5.heap.size rfl 24 _ (0, 0) _ HN5.out Try.underlying24 rfl sizeQ ?_)
  refine (take_k (z := (200 : Nat)) (n := j) (l := R) (k := min j R.length) (F := Y) (R := S) ⟨b5, c5, rfl, HR5.out.keep HAL.out⟩ (by have := HRL.out; omega) (peekN_of (by decide) (by have := HRL.out; omega)) HY.out.symm HS.out.symm).mono ?_
  rintro e w6 ⟨a6, m6, b6, c6, rfl, hb, hx, hy⟩
  have HW6 := Box.mk (below_trans (below_trans HW5.out HAL.out) hb)
  have HQ6 := Box.mk ((HQ5.out.keep HAL.out).keep hb)
  have HD6 := Box.mk ((HD5.out.keep HAL.out).keep hb)
  have HX6 := Box.mk ((HX5.out.keep HAL.out).keep hb)
  have HY6 := Box.mk hx
  have HS6 := Box.mk hy
  clear hb hx hy HW5 HQ5 HD5 HX5 HR5 HAL HN5
  have HAL := Box.mk (below_one w6 (.cells #[.int .i64 200, .slice b6 S.length c6] 24))
  have HV6 := Box.mk (show QVar (w6.alloc (.cells #[.int .i64 200, .slice b6 S.length c6] 24)) w6.heap.size 200 b6 S.length c6 from heap_alloc_new _ _)
  have HQ7 := Box.mk (HQ6.out.keep HAL.out)
  go_wp2_with (refine wpList_load_row rfl 24 _ rfl g rfl 24 _ (0, 0) _ HQ7.out Try.underlying24 rfl sizeQ ?_)
  rw [show ((i : Int) + (j : Int)) = ((i + j : Nat) : Int) from (Int.natCast_add i j).symm]
  refine (take_k (z := (200 : Nat)) (n := ((i + j : Nat) : Int)) (l := B) (k := min (i + j) B.length) (F := X ++ Y) (R := S) ⟨d, f, rfl, HD6.out.keep HAL.out⟩ (by omega) (peekN_of (by decide) hBl) HZ.out HU.out).mono ?_
  rintro e w8 ⟨a8, m8, b8, c8, rfl, hb, hx, hy⟩
  have hb2 := below_trans hb (below_one w8 (.cells #[.int .i64 200, .slice b8 S.length c8] 24))
  obtain ⟨W8, hW8⟩ : ∃ W8, W8 = w8.alloc (.cells #[.int .i64 200, .slice b8 S.length c8] 24) := ⟨_, rfl⟩
  rw [← hW8] at hb2
  have HBX := Box.mk (below_trans HAL.out hb2)
  have hX8 := conv_bytes (HX6.out.keep HBX.out)
  have hY8 := conv_bytes (HY6.out.keep HBX.out)
  have hZ8 := conv_bytes (hx.keep (show Below w8.heap.size w8 W8 by rw [hW8]; exact below_one _ _))
  have HS8 := Box.mk ((HS6.out.keep HAL.out).keep hb2)
  have HU8 := Box.mk (hy.keep (show Below w8.heap.size w8 W8 by rw [hW8]; exact below_one _ _))
  have HV8 := Box.mk (HV6.out.keep hb2)
  have HT8 := Box.mk (show QVar W8 w8.heap.size 200 b8 S.length c8 by rw [hW8]; exact heap_alloc_new _ _)
  have HW8 := Box.mk (below_trans HW6.out HBX.out)
  rw [hW8] at hX8 hY8 hZ8
  have hadd : ∀ W, (Op.stringOp .add ⟨X.toArray⟩ ⟨Y.toArray⟩).run Try.prog W = .ok (.string ⟨(X ++ Y).toArray⟩) W := fun W => by
    have h := run_string_add_sum (P := Try.prog) (w := W) ⟨X.toArray⟩ ⟨Y.toArray⟩ (by show (X.toArray).size + (Y.toArray).size ≤ _; simp; have := HXL.out; have := HYL.out; omega)
    have e : (⟨X.toArray⟩ : ByteArray) ++ ⟨Y.toArray⟩ = ⟨(X ++ Y).toArray⟩ := by
      apply ByteArray.ext; rw [ByteArray.data_append]; simp
    rw [e] at h; exact h
  clear hb hb2 hx hy HAL HW6 HQ6 HQ7 HD6 HX6 HY6 HS6 HV6
  have HV9 := Box.mk (show QVar (w8.alloc (.cells #[.int .i64 200, .slice b8 S.length c8] 24)) w6.heap.size 200 b6 S.length c6 by rw [← hW8]; exact HV8.out)
  have HT9 := Box.mk (show QVar (w8.alloc (.cells #[.int .i64 200, .slice b8 S.length c8] 24)) w8.heap.size 200 b8 S.length c8 by rw [← hW8]; exact HT8.out)
  generalize X ++ Y = Z at *
  go_wp2_with (refine wpList_unguard rfl ?_; (first
    | refine wpList_load_row rfl 24 _ rfl w6.heap.size rfl 24 _ (0, 0) _ HV9.out Try.underlying24 rfl sizeQ ?_
    | refine wpList_load_row rfl 24 _ rfl w8.heap.size rfl 24 _ (0, 0) _ HT9.out Try.underlying24 rfl sizeQ ?_))
  change Calls _ _ _ (w8.alloc (.cells #[.int .i64 200, .slice b8 S.length c8] 24)) _
  rw [← hW8] at hX8 hY8 hZ8 HV9 HT9 ⊢
  clear hW8 hX8 hY8 hZ8 hadd
  refine (same_k (z := 200) (l := S) ⟨b6, c6, rfl, HS8.out⟩ ⟨b8, c8, rfl, HU8.out⟩).mono ?_
  rintro e w9 ⟨v9, rfl, hb, rfl⟩
  have HW9 := Box.mk (below_trans HW8.out hb)
  clear hb
  go_wp2_with fail
  refine (awake_k w9).mono ?_
  rintro e wa ⟨va, rfl, hb, rfl⟩
  have HWA := Box.mk (below_trans HW9.out hb)
  clear hb
  go_wp2_with fail
  go_ret
  exact ⟨rfl, HWA.out⟩
end Go.Proofs.Ytpgppninmnplkaa
