/- awake of the laws; the law FieldFormat. -/
import Derived.Test.YtcniajbfgfikjaaDoorFldO
namespace Go.Proofs.YtcniajbfgfikjaaDoor
open Go.RowKit

theorem ret_parse {e : Ending} {o : Option Fld} {p : Option Fld} (h : e = .returned (parseV o)) (hp : o = p) : e = .returned (parseV p) := by rw [h, hp]
theorem fHas_one (n v key : ByteArray) (b cb : Nat) (w : World) (h : FldsIn w (some ⟨b, 0, none⟩) [(n, v)]) (hn : n.size ≤ maxLen) (hv : v.size ≤ maxLen) (hk : key.size ≤ maxLen) (hh : hasL [((n, v) : Fld)] key = true) :
    Calls Tryd.prog 15 #[.slice (some ⟨b, 0, none⟩) 1 cb, .string key] w fun e w' => e = .returned (.bool true) ∧ Below w.heap.size w w' := by
  refine (fHas_any [(n, v)] key _ cb w h (fun f hf => by simp at hf; subst hf; exact ⟨hn, hv⟩) hk (by show 1 ≤ 1000000; decide)).mono ?_
  rintro e w' ⟨rfl, hb⟩
  exact ⟨by rw [hh], hb⟩
theorem fldsIn_two (w : World) (o : Obj) (n v : ByteArray) : FldsIn ((w.alloc o).alloc (.cells #[.string n, .string v] 28)) (some ⟨w.heap.size + 1, 0, none⟩) [(n, v)] := by
  have h := fldsIn_one (w.alloc o) n v
  rw [World.size_alloc] at h
  exact h
set_option maxRecDepth 100000 in
set_option maxHeartbeats 2000000 in
theorem awakeF_any (w : World) : Calls Tryd.prog 19 #[] w fun e w' => e = .returned (.bool true) ∧ Below w.heap.size w w' := by
  go_enter Tryd.func19, Tryd.ntmps19
  go_wp2_with fail
  refine (fParse_any lineA _ (by decide)).mono ?_
  rintro e w1 ⟨he, hb1⟩
  have he1 := ret_parse he parse_lineA
  simp only [parseV] at he1
  subst he1
  have HB1 := Box.mk hb1
  clear he hb1
  go_wp2_with fail
  have HN := Box.mk (below_oneF w1 (.cells #[.string ⟨#[72, 111, 115, 116]⟩, .string ⟨#[97]⟩] 28))
  have HV := Box.mk (FVar.new w1 ⟨#[72, 111, 115, 116]⟩ ⟨#[97]⟩)
  refine (fParse_any lineC _ (by decide)).mono ?_
  rintro e w2 ⟨he, hb2⟩
  have he2 := ret_parse he parse_lineC
  simp only [parseV] at he2
  subst he2
  have HB2 := Box.mk (below_trans (below_trans HB1.out HN.out) hb2)
  have HV2 := Box.mk (HV.out.keep hb2)
  have hlt : w1.heap.size < w2.heap.size := HV2.out.lt
  have hc0 := HV2.out.c0
  have hc1 := HV2.out.c1
  clear he hb2 HB1 HN HV
  go_wp2_with fail
  have HN2 := Box.mk (below_twoF (below_oneF w2 (.cells #[.string ⟨#[]⟩, .string ⟨#[]⟩] 28)) (.cells #[.string ⟨#[72, 111, 115, 116]⟩, .string ⟨#[97]⟩] 28))
  refine (fHas_one ⟨#[72, 111, 115, 116]⟩ ⟨#[97]⟩ _ _ _ _ (fldsIn_two w2 _ _ _) (by decide) (by decide) (by decide) has_awake).mono ?_
  rintro e w3 ⟨rfl, hb3⟩
  have HB3 := Box.mk (below_trans (below_trans HB2.out HN2.out) hb3)
  clear hb3 hc0 hc1 hlt
  go_wp2_with fail
  go_ret
  exact ⟨rfl, HB3.out⟩

theorem smallF_made {l x : List Fld} (hl : SmallF l) (h : ∀ f ∈ x, f ∈ l ∨ MadeF f) : SmallF x := fun f hf => by
  rcases h f hf with h1 | h1
  · exact hl f h1
  · exact ⟨Nat.le_trans h1.2.1 (by decide), Nat.le_trans h1.2.2 (by decide)⟩
theorem shortF_made {l x : List Fld} (hl : ShortF l) (h : ∀ f ∈ x, f ∈ l ∨ MadeF f) : ShortF x := fun f hf => by
  rcases h f hf with h1 | h1
  · exact hl f h1
  · exact ⟨Nat.le_trans h1.2.1 (by decide), Nat.le_trans h1.2.2 (by decide)⟩
theorem SmallF.short {l : List Fld} (h : SmallF l) : ShortF l := fun f hf => ⟨le_maxLen (h f hf).1, le_maxLen (h f hf).2⟩

set_option maxRecDepth 100000 in
set_option maxHeartbeats 2000000 in
theorem fieldFormat_any (l : List Fld) (a : Option Addr) (cap : Nat) (b : Option Addr) (n c : Nat) (wild : Bool) (w : World) (h : FldsC w a l cap) (hcap : l.length ≤ cap) (hcm : cap ≤ maxLen) (hi : IntsF w b n) (hn : n ≤ maxLen) (hs : SmallF l) :
    Calls Tryd.prog 5 #[.slice a l.length cap, .slice b n c, .bool wild] w fun e w' => e = .returned (.bool true) ∧ Below w.heap.size w w' := by
  have HS := Box.mk hs
  have H0 := Box.mk (And.intro h hi)
  clear h hs hi
  go_enter Tryd.func5, Tryd.ntmps5
  go_wp2_with fail
  refine (lawFields_any l a cap b n c wild _ H0.out.1 hcap hcm H0.out.2 hn).mono ?_
  rintro e w1 ⟨x, a', cap', rfl, hx, hx30, hall, hb1⟩
  have HX := Box.mk hx.1
  have HXS := Box.mk (smallF_made HS.out hall)
  have HB1 := Box.mk hb1
  clear hx hall hb1
  go_wp2_with fail
  refine (fFormat_any x a' cap' _ HX.out HXS.out (by omega)).mono ?_
  rintro e w2 ⟨rfl, hb2⟩
  have HB2 := Box.mk (below_trans HB1.out hb2)
  have HX2 := Box.mk (HX.out.keep hb2)
  clear hb2
  go_wp2_with fail
  refine (refFormat_any x a' cap' _ HX2.out HXS.out (by omega)).mono ?_
  rintro e w3 ⟨rfl, hb3⟩
  have HB3 := Box.mk (below_trans HB2.out hb3)
  clear hb3
  go_wp2_with fail
  refine (awakeF_any _).mono ?_
  rintro e w4 ⟨rfl, hb4⟩
  have HB4 := Box.mk (below_trans HB3.out hb4)
  clear hb4
  go_wp2_with fail
  go_ret
  exact ⟨rfl, HB4.out⟩
end Go.Proofs.YtcniajbfgfikjaaDoor
