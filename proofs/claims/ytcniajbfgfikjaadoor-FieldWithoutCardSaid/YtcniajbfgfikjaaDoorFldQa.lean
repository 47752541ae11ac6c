/- The law FieldWithout. -/
import Derived.Test.YtcniajbfgfikjaaDoorFldQ
namespace Go.Proofs.YtcniajbfgfikjaaDoor
open Go.RowKit

set_option maxRecDepth 100000 in
set_option maxHeartbeats 4000000 in
theorem fieldWithout_any (l r : List Fld) (a d : Option Addr) (cap cd : Nat) (b : Option Addr) (n c : Nat) (s : ByteArray) (p q : Int) (wild : Bool) (w : World)
    (h : FldsC w a l cap) (hcap : l.length ≤ cap) (hcm : cap ≤ maxLen) (k : FldsC w d r cd) (kcap : r.length ≤ cd) (kcm : cd ≤ maxLen) (hi : IntsF w b n) (hn : n ≤ maxLen) (hs : s.size ≤ maxLen) (hl : ShortF l) (hr : ShortF r) :
    Calls Tryd.prog 4 #[.slice a l.length cap, .slice d r.length cd, .slice b n c, .string s, .int .i64 p, .int .i64 q, .bool wild] w fun e w' => e = .returned (.bool true) ∧ Below w.heap.size w w' := by
  have H0 := Box.mk (And.intro h (And.intro k hi))
  have HS := Box.mk (And.intro hl (And.intro hr hs))
  clear h k hi hl hr hs
  go_enter Tryd.func4, Tryd.ntmps4
  go_wp2_with fail
  refine (lawFields_any l a cap b n c wild _ H0.out.1 hcap hcm H0.out.2.2 hn).mono ?_
  rintro e w1 ⟨x, a1, c1, rfl, hx, hx30, hall, hb1⟩
  have HX := Box.mk hx
  have HXS := Box.mk (shortF_made HS.out.1 hall)
  have HB := Box.mk hb1
  have HD := Box.mk (H0.out.2.1.keep hb1)
  clear hx hall hb1 H0
  go_wp2_with fail
  refine (lawFields_nil r d cd _ HD.out kcap kcm).mono ?_
  rintro e w2 ⟨y, a2, c2, rfl, hy, hy30, hall, hb2⟩
  have HY := Box.mk hy
  have HX2 := Box.mk (HX.out.keep hb2)
  have HB2 := Box.mk (below_trans HB.out hb2)
  clear hy hall hb2 HX HD HB
  go_wp2_with fail
  refine (lawName_any x a1 c1 s p _ HX2.out.1 HXS.out hx30).mono ?_
  rintro e w3 ⟨m1, rfl, hm1, hb3⟩
  have HM1 := Box.mk (hm1.size HS.out.2.2 HXS.out)
  have HX3 := Box.mk (HX2.out.keep hb3)
  have HY3 := Box.mk (HY.out.keep hb3)
  have HB3 := Box.mk (below_trans HB2.out hb3)
  clear hm1 hb3 HX2 HY HB2
  go_wp2_with fail
  refine (lawName_any x a1 c1 s q _ HX3.out.1 HXS.out hx30).mono ?_
  rintro e w4 ⟨m2, rfl, hm2, hb4⟩
  have HM2 := Box.mk (hm2.size HS.out.2.2 HXS.out)
  have HX4 := Box.mk (HX3.out.keep hb4)
  have HY4 := Box.mk (HY3.out.keep hb4)
  have HB4 := Box.mk (below_trans HB3.out hb4)
  clear hm2 hb4 HX3 HY3 HB3
  go_wp2_with fail
  have HN4 := Box.mk (below_oneF w4 (.cells #[.string m1, .string m2] 9))
  obtain ⟨z, HZE⟩ : ∃ z, Box (withoutL x [m1, m2] = z) := ⟨_, ⟨rfl⟩⟩
  refine (fWithout_eq x z m1 m2 HZE.out a1 _ c1 _ (HX4.out.1.keep HN4.out) HXS.out (strsIn_twoF w4 m1 m2 _) HM1.out HM2.out (by omega)).mono ?_
  rintro e w5 ⟨a5, c5, rfl, hz, hb5⟩
  have HZ := Box.mk hz
  have HX5 := Box.mk ((HX4.out.keep HN4.out).keep hb5)
  have HY5 := Box.mk ((HY4.out.keep HN4.out).keep hb5)
  have HB5 := Box.mk (below_trans (below_trans HB4.out HN4.out) hb5)
  have hzl : z.length ≤ x.length := by rw [← HZE.out]; exact withoutL_len x [m1, m2]
  have HZS := Box.mk (show ShortF z by rw [← HZE.out]; exact withoutL_short HXS.out [m1, m2])
  have HH1 := Box.mk (show hasL z m1 = false by rw [← HZE.out]; exact hasL_without x [m1, m2] m1 (by simp))
  have HH2 := Box.mk (show hasL z m2 = false by rw [← HZE.out]; exact hasL_without x [m1, m2] m2 (by simp))
  clear hz hb5 HX4 HY4 HB4 HN4
  go_wp2_with fail
  obtain ⟨xy, HXY⟩ : ∃ xy, Box (x ++ y = xy) := ⟨_, ⟨rfl⟩⟩
  refine (fWith_eq x y xy HXY.out a1 a2 c1 c2 _ HX5.out HY5.out (by omega) (by omega)).mono ?_
  rintro e w6 ⟨a6, c6, rfl, hv, hb6⟩
  have HV := Box.mk hv
  have HZ6 := Box.mk (HZ.out.keep hb6)
  have HX6 := Box.mk (HX5.out.keep hb6)
  have HY6 := Box.mk (HY5.out.keep hb6)
  have HB6 := Box.mk (below_trans HB5.out hb6)
  clear hv hb6 HX5 HY5 HB5 HZ
  go_wp2_with fail
  have HN6 := Box.mk (below_oneF w6 (.cells #[.string m1, .string m2] 9))
  refine (refWithout_eq x z m1 m2 HZE.out a1 _ c1 _ (HX6.out.1.keep HN6.out) HXS.out (strsIn_twoF w6 m1 m2 _) HM1.out HM2.out (by omega)).mono ?_
  rintro e w7 ⟨a7, c7, rfl, hu, hb7⟩
  have HU := Box.mk hu
  have HV7 := Box.mk ((HV.out.keep HN6.out).keep hb7)
  have HZ7 := Box.mk ((HZ6.out.keep HN6.out).keep hb7)
  have HX7 := Box.mk ((HX6.out.keep HN6.out).keep hb7)
  have HY7 := Box.mk ((HY6.out.keep HN6.out).keep hb7)
  have HB7 := Box.mk (below_trans (below_trans HB6.out HN6.out) hb7)
  clear hu hb7 HX6 HY6 HB6 HZ6 HV HN6
  go_wp2_with fail
  refine (same_true z a5 a7 c5 c7 _ HZ7.out HU.out (by omega)).mono ?_
  rintro e w8 ⟨rfl, hb8⟩
  have HV8 := Box.mk (HV7.out.keep hb8)
  have HZ8 := Box.mk (HZ7.out.keep hb8)
  have HX8 := Box.mk (HX7.out.keep hb8)
  have HY8 := Box.mk (HY7.out.keep hb8)
  have HB8 := Box.mk (below_trans HB7.out hb8)
  clear hb8 HX7 HY7 HB7 HZ7 HV7 HU
  go_wp2_with fail
  refine (fHas_any z m1 a5 c5 _ HZ8.out HZS.out HM1.out (by omega)).mono ?_
  rintro e w9 ⟨he, hb9⟩
  rw [HH1.out] at he
  subst he
  have HV9 := Box.mk (HV8.out.keep hb9)
  have HZ9 := Box.mk (HZ8.out.keep hb9)
  have HX9 := Box.mk (HX8.out.keep hb9)
  have HY9 := Box.mk (HY8.out.keep hb9)
  have HB9 := Box.mk (below_trans HB8.out hb9)
  clear hb9 HX8 HY8 HB8 HZ8 HV8
  go_wp2_with fail
  refine (fHas_any z m2 a5 c5 _ HZ9.out HZS.out HM2.out (by omega)).mono ?_
  rintro e w10 ⟨he, hb10⟩
  rw [HH2.out] at he
  subst he
  have HV10 := Box.mk (HV9.out.keep hb10)
  have HX10 := Box.mk (HX9.out.keep hb10)
  have HY10 := Box.mk (HY9.out.keep hb10)
  have HB10 := Box.mk (below_trans HB9.out hb10)
  clear hb10 HX9 HY9 HB9 HZ9 HV9
  go_wp2_with fail
  refine (refWith_eq x y xy HXY.out a1 a2 c1 c2 _ HX10.out HY10.out (by omega) (by omega)).mono ?_
  rintro e w11 ⟨a11, c11, rfl, hu, hb11⟩
  have HU := Box.mk hu
  have HV11 := Box.mk (HV10.out.keep hb11)
  have HX11 := Box.mk (HX10.out.keep hb11)
  have HB11 := Box.mk (below_trans HB10.out hb11)
  have hxy : xy.length ≤ 2000000 := by rw [← HXY.out, List.length_append]; omega
  clear hu hb11 HX10 HY10 HB10 HV10
  go_wp2_with fail
  refine (same_true xy a6 a11 _ _ _ HV11.out HU.out hxy).mono ?_
  rintro e w12 ⟨rfl, hb12⟩
  have HX12 := Box.mk (HX11.out.keep hb12)
  have HB12 := Box.mk (below_trans HB11.out hb12)
  clear hb12 HX11 HB11 HV11 HU
  go_wp2_with fail
  refine (fWithout_none x a1 c1 _ HX12.out.1 HXS.out (by omega)).mono ?_
  rintro e w13 ⟨a13, c13, rfl, hu, hb13⟩
  have HU := Box.mk hu
  have HX13 := Box.mk (HX12.out.keep hb13)
  have HB13 := Box.mk (below_trans HB12.out hb13)
  clear hu hb13 HX12 HB12
  go_wp2_with fail
  refine (same_true x a13 a1 _ _ _ HU.out HX13.out.1 (by omega)).mono ?_
  rintro e w14 ⟨rfl, hb14⟩
  have HB14 := Box.mk (below_trans HB13.out hb14)
  clear hb14 HX13 HB13 HU
  go_wp2_with fail
  refine (awakeF_any _).mono ?_
  rintro e w15 ⟨rfl, hb15⟩
  have HB15 := Box.mk (below_trans HB14.out hb15)
  clear hb15
  go_wp2_with fail
  go_ret
  exact ⟨rfl, HB15.out⟩
end Go.Proofs.YtcniajbfgfikjaaDoor
