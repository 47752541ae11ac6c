/- The laws of layer 2 at the arguments as they read. -/
import Derived.Test.YtpianlannenagaaDoorNumF
namespace Go.Proofs.YtpianlannenagaaDoor
open Go.RowKit

set_option maxRecDepth 100000 in
set_option maxHeartbeats 1600000 in
theorem numberPrint_any (w : World) (n : Int) (h0 : -9223372036854775808 ≤ n) (h1 : n ≤ 9223372036854775807) (ht : Tabs w) :
    Calls Tryd.prog 3 #[.int .i64 n] w fun e w' => e = .returned (.bool true) ∧ Below w.heap.size w w' := by
  have HT := Lib.hid ht
  clear ht
  have HD : Hid (parseS 10 n (fmtS 10 n) = if n < 0 then (0, 2) else if n ≤ n then (n, 0) else (0, 3)) := Lib.hid (parse_fmt (b := 10) (by decide) (by decide) n n)
  have HX : Hid (parseS 16 n (fmtS 16 n) = if n < 0 then (0, 2) else if n ≤ n then (n, 0) else (0, 3)) := Lib.hid (parse_fmt (b := 16) (by decide) (by decide) n n)
  have z1 := fmtS_max (b := 10) (by decide) n h1
  have z2 := fmtS_max (b := 16) (by decide) n h1
  by_cases hn : n < 0
  all_goals
    have HN := Lib.hid hn
    go_enter Tryd.func3, Tryd.ntmps3
    go_wp2_with fail
    refine (decimal_any _ _ h0 h1 HT.out).mono ?_
    rintro e w1 ⟨rfl, hb1⟩
    have HB1 := Lib.hid hb1
    clear hb1
    go_wp2_with fail
    refine (hex_any _ _ h0 h1 (tabs_below HT.out HB1.out)).mono ?_
    rintro e w2 ⟨rfl, hb2⟩
    have HB2 := Lib.hid (below_trans HB1.out hb2)
    clear hb2
    go_wp2_with fail
    refine (refDecimal_any _ _ h0 h1).mono ?_
    rintro e w3 ⟨rfl, hb3⟩
    have HB3 := Lib.hid (below_trans HB2.out hb3)
    clear hb3
    go_wp2_with fail
    refine (refHex_any _ _ h0 h1).mono ?_
    rintro e w4 ⟨rfl, hb4⟩
    have HB4 := Lib.hid (below_trans HB3.out hb4)
    clear hb4
    go_wp2_with fail
    refine (parseDecimal_any _ _ _ z1 h0 h1).mono ?_
    rintro e w5 ⟨he, rfl⟩
    first | rw [HD.out, if_pos HN.out] at he | rw [HD.out, if_neg (Int.not_lt.2 HN.out), if_pos (Int.le_refl _)] at he
    subst he
    go_wp2_with fail
    refine (parseHex_any _ _ _ z2 h0 h1).mono ?_
    rintro e w5 ⟨he, rfl⟩
    first | rw [HX.out, if_pos HN.out] at he | rw [HX.out, if_neg (Int.not_lt.2 HN.out), if_pos (Int.le_refl _)] at he
    subst he
    go_wp2_with fail
    refine (numAwake_any _ (tabs_below HT.out HB4.out)).mono ?_
    rintro e w6 ⟨rfl, hb6⟩
    go_wp2_with fail
    go_ret
    exact ⟨rfl, below_trans HB4.out hb6⟩

set_option maxRecDepth 100000 in
set_option maxHeartbeats 1600000 in
theorem numberAdd_any (w : World) (most : Int) (l : List Int) (a : Option Addr) (cap : Nat) (h0 : -9223372036854775808 ≤ most) (h1 : most ≤ 9223372036854775807) (hl : IsInts w a l cap) (ht : Tabs w) :
    Calls Tryd.prog 6 #[.int .i64 most, .slice a l.length cap] w fun e w' => e = .returned (.bool true) ∧ Below w.heap.size w w' := by
  have HT := Lib.hid ht
  have HL := Lib.hid hl
  clear ht hl
  obtain ⟨b1, b2⟩ := addS_bd most l
  by_cases hm : most < 0
  · clear b2
    go_enter Tryd.func6, Tryd.ntmps6
    go_wp2_with fail
    refine (numAdd_any _ _ _ _ _ h0 h1 HL.out).mono ?_
    rintro e w1 ⟨rfl, rfl⟩
    go_wp2_with fail
    refine (refAdd_any _ _ _ _ _ h0 h1 HL.out).mono ?_
    rintro e w1 ⟨rfl, rfl⟩
    go_wp2_with fail
    refine (numAwake_any _ HT.out).mono ?_
    rintro e w6 ⟨rfl, hb6⟩
    go_wp2_with fail
    go_ret
    exact ⟨rfl, hb6⟩
  · have b3 : addS most l ≤ most := by omega
    clear b2
    go_enter Tryd.func6, Tryd.ntmps6
    go_wp2_with fail
    refine (numAdd_any _ _ _ _ _ h0 h1 HL.out).mono ?_
    rintro e w1 ⟨rfl, rfl⟩
    go_wp2_with fail
    refine (refAdd_any _ _ _ _ _ h0 h1 HL.out).mono ?_
    rintro e w1 ⟨rfl, rfl⟩
    go_wp2_with fail
    refine (numAwake_any _ HT.out).mono ?_
    rintro e w6 ⟨rfl, hb6⟩
    go_wp2_with fail
    go_ret
    exact ⟨rfl, hb6⟩

theorem addS_turn (most a b c : Int) : addS most [c, a, b] = addS most [a, b, c] := by
  rw [addS_eq, addS_eq]; simp only [sumX]; split
  · rfl
  · congr 1; omega
theorem addS_group (most a b c : Int) : addS most [addS most [a, b], c] = addS most [a, b, c] := by
  rw [addS_eq most [_, c], addS_eq most [a, b, c], addS_eq most [a, b]]
  split
  · rfl
  · simp only [sumX]
    have x0 : 0 ≤ max a 0 := by omega
    have y0 : 0 ≤ max b 0 := by omega
    have z0 : 0 ≤ max c 0 := by omega
    generalize max a 0 = x at *
    generalize max b 0 = y at *
    generalize max c 0 = z at *
    omega
theorem isInts_3 (w : World) (a b c : Int) (a0 : -9223372036854775808 ≤ a) (a1 : a ≤ 9223372036854775807) (b0 : -9223372036854775808 ≤ b) (b1 : b ≤ 9223372036854775807) (c0 : -9223372036854775808 ≤ c) (c1 : c ≤ 9223372036854775807) :
    IsInts (w.alloc (.cells #[.int .i64 a, .int .i64 b, .int .i64 c] 3)) (some ⟨w.heap.size, 0, none⟩) [a, b, c] 3 :=
  isInts_new w [a, b, c] (by simp) (by simp; omega)
theorem isInts_2 (w : World) (a b : Int) (a0 : -9223372036854775808 ≤ a) (a1 : a ≤ 9223372036854775807) (b0 : -9223372036854775808 ≤ b) (b1 : b ≤ 9223372036854775807) :
    IsInts (w.alloc (.cells #[.int .i64 a, .int .i64 b] 3)) (some ⟨w.heap.size, 0, none⟩) [a, b] 2 :=
  isInts_new w [a, b] (by simp) (by simp; omega)
theorem numAdd_3 (most a b c : Int) (w : World) (hm0 : -9223372036854775808 ≤ most) (hm1 : most ≤ 9223372036854775807) (a0 : -9223372036854775808 ≤ a) (a1 : a ≤ 9223372036854775807) (b0 : -9223372036854775808 ≤ b) (b1 : b ≤ 9223372036854775807) (c0 : -9223372036854775808 ≤ c) (c1 : c ≤ 9223372036854775807) :
    Calls Tryd.prog 17 #[.int .i64 most, .slice (some ⟨w.heap.size, 0, none⟩) 3 3] (w.alloc (.cells #[.int .i64 a, .int .i64 b, .int .i64 c] 3)) fun e w' => e = .returned (.int .i64 (addS most [a, b, c])) ∧ Below w.heap.size w w' :=
  (numAdd_any most [a, b, c] _ 3 _ hm0 hm1 (isInts_3 w a b c a0 a1 b0 b1 c0 c1)).mono fun _ _ ⟨h1, h2⟩ => ⟨h1, h2 ▸ below_alloc' _ _⟩
theorem numAdd_2 (most a b : Int) (w : World) (hm0 : -9223372036854775808 ≤ most) (hm1 : most ≤ 9223372036854775807) (a0 : -9223372036854775808 ≤ a) (a1 : a ≤ 9223372036854775807) (b0 : -9223372036854775808 ≤ b) (b1 : b ≤ 9223372036854775807) :
    Calls Tryd.prog 17 #[.int .i64 most, .slice (some ⟨w.heap.size, 0, none⟩) 2 2] (w.alloc (.cells #[.int .i64 a, .int .i64 b] 3)) fun e w' => e = .returned (.int .i64 (addS most [a, b])) ∧ Below w.heap.size w w' :=
  (numAdd_any most [a, b] _ 2 _ hm0 hm1 (isInts_2 w a b a0 a1 b0 b1)).mono fun _ _ ⟨h1, h2⟩ => ⟨h1, h2 ▸ below_alloc' _ _⟩
set_option maxRecDepth 100000 in
set_option maxHeartbeats 1600000 in
theorem numberAddOrder_any (w : World) (most a b c : Int) (h0 : -9223372036854775808 ≤ most) (h1 : most ≤ 9223372036854775807) (a0 : -9223372036854775808 ≤ a) (a1 : a ≤ 9223372036854775807)
    (b0 : -9223372036854775808 ≤ b) (b1 : b ≤ 9223372036854775807) (c0 : -9223372036854775808 ≤ c) (c1 : c ≤ 9223372036854775807) (ht : Tabs w) :
    Calls Tryd.prog 7 #[.int .i64 most, .int .i64 a, .int .i64 b, .int .i64 c] w fun e w' => e = .returned (.bool true) ∧ Below w.heap.size w w' := by
  have HT := Lib.hid ht
  clear ht
  have E1 := Lib.hid (addS_turn most a b c)
  have E2 := Lib.hid (addS_group most a b c)
  obtain ⟨d0, d1⟩ := addS_bd most [a, b]
  have d2 : addS most [a, b] ≤ 9223372036854775807 := by
    rcases d1 with d | d
    · unfold addS; rw [if_pos d]; omega
    · omega
  clear d1
  go_enter Tryd.func7, Tryd.ntmps7
  go_wp2_with fail
  refine (numAdd_3 most a b c _ h0 h1 a0 a1 b0 b1 c0 c1).mono ?_
  rintro e w1 ⟨rfl, hb⟩
  have HB1 := Lib.hid hb
  clear hb
  go_wp2_with fail
  refine (numAdd_3 most c a b _ h0 h1 c0 c1 a0 a1 b0 b1).mono ?_
  rintro e w2 ⟨he, hb⟩
  rw [E1.out] at he
  subst he
  have HB2 := Lib.hid (below_trans HB1.out hb)
  clear hb
  go_wp2_with fail
  refine (numAdd_2 most a b _ h0 h1 a0 a1 b0 b1).mono ?_
  rintro e w3 ⟨rfl, hb⟩
  have HB3 := Lib.hid (below_trans HB2.out hb)
  clear hb
  go_wp2_with fail
  refine (numAdd_2 most (addS most [a, b]) c _ h0 h1 (by omega) d2 c0 c1).mono ?_
  rintro e w4 ⟨he, hb⟩
  rw [E2.out] at he
  subst he
  have HB4 := Lib.hid (below_trans HB3.out hb)
  clear hb
  go_wp2_with fail
  refine (numAdd_3 most a b c _ h0 h1 a0 a1 b0 b1 c0 c1).mono ?_
  rintro e w5 ⟨rfl, hb⟩
  have HB5 := Lib.hid (below_trans HB4.out hb)
  clear hb
  go_wp2_with fail
  refine (numAwake_any _ (tabs_below HT.out HB5.out)).mono ?_
  rintro e w6 ⟨rfl, hb6⟩
  go_wp2_with fail
  go_ret
  exact ⟨rfl, below_trans HB5.out hb6⟩
end Go.Proofs.YtpianlannenagaaDoor
