/- The fields that the laws make. The law's awake. The law HopStrip. Opening a slice of numbers; the tables out of the listed variables. Forward, in the reference. awake of the laws on framing. The law FramingReply. What the law FramingAlone wants: a made frame beside fields that no rule names; single operations of a region that draws its order. SameReply and SameRequest of the reference, at equal messages; FormatRequest and FormatStatus of package startline. The law LineRequest. The law HopForward. The law HopOneFraming. -/
import Derived.Test.YtfghgenboahkkaaGreatDoorPq4
import Derived.StillTailTactics
import Derived.ArgAppend
namespace Go.Proofs.YtfghgenboahkkaaGreatDoor
open Go.RowKit
def MdSt (g : Nat) (a : Option Addr) (n c : Nat) (W : World) (K : Nat) (v : Value) (w : World) : Prop :=
 ∃ x, OwnF (g + 1) w v x ∧ x.length ≤ K ∧ SmallF x ∧ Src w g a n c ∧ W.grownBy w (some g)
theorem MdSt.le {g : Nat} {a : Option Addr} {n c : Nat} {W : World} {K K' : Nat} {v : Value} {w : World} (h : MdSt g a n c W K v w) (hk : K ≤ K') : MdSt g a n c W K' v w := by
 obtain ⟨x, h1, h2, h3⟩ := h
 exact ⟨x, h1, by omega, h3⟩
theorem MdSt.next {g : Nat} {a : Option Addr} {n c : Nat} {W : World} {K : Nat} {v : Value} {w w' : World} (h : MdSt g a n c W K v w) (hs : Src w' g a n c) (hg : w.grownBy w' (some g)) : MdSt g a n c W K v w' := by
 obtain ⟨x, h1, h2, h3, _, h5⟩ := h
 exact ⟨x, h1.grown hg (fun k hk e => by have := (h1.lt hk).1; have := Option.some.inj e; omega), h2, h3, hs, grownBy_trans h5 hg⟩
theorem MdSt.src {g : Nat} {a : Option Addr} {n c : Nat} {W : World} {K : Nat} {v : Value} {w : World} (h : MdSt g a n c W K v w) : Src w g a n c := by
 obtain ⟨x, _, _, _, h, _⟩ := h
 exact h
theorem mdApp {g : Nat} {a : Option Addr} {n c : Nat} {W w2 w3 : World} {K : Nat} {v v' : Value} {x : List Fld} {f : Fld} {o : Obj} (hW : W.heap.size = g + 1) (ho : OwnF (g + 1) w2 v x) (hk : x.length ≤ K) (hs : SmallF x) (hsrc : Src w2 g a n c) (hgr : W.grownBy w2 (some g))
  (hlow : ∀ y, a = some y → 0 < n → y.block < g) (hf : f.1.size ≤ 1048576 ∧ f.2.size ≤ 1048576) (hown : OwnF (g + 1) w3 v' (x ++ [f])) (hgrow : (w2.alloc o).grownBy w3 v.ownBlock) : MdSt g a n c W (K + 1) v' w3 := by
 have hg2 : w2.grownBy w3 v.ownBlock := ⟨hgrow.os, hgrow.tape, hgrow.output, Nat.le_trans (by simp) hgrow.size, fun k hk hne => by
  rw [hgrow.block k (by simp; omega) hne]
  exact (below_oneF w2 _).block k hk⟩
 refine ⟨_, hown, by rw [List.length_append]; show _ + 1 ≤ _; omega, ?_, hsrc.grown hg2 (fun e => by have := (ho.lt e.symm).1; omega) (fun y e h0 e2 => by have := (ho.lt e2.symm).1; have := hlow y e h0; omega), grownBy_new hgr hg2 (fun i e => by have := (ho.lt e).1; omega)⟩
 intro y hy
 rcases List.mem_append.1 hy with hy | hy
 · exact hs y hy
 · obtain rfl := List.mem_singleton.1 hy; exact hf
theorem below_box' {g : Nat} {w W w' : World} (hg : w.heap.size = g) (h : Below g w W) (k : W.grownBy w' (some g)) : Below w.heap.size w w' := by
 subst hg; exact below_box h k
set_option maxRecDepth 100000 in
set_option maxHeartbeats 4000000 in
theorem made_any (a : Option Addr) (n c : Nat) (w : World) (hi : IntsF w a n) (hn : n ≤ maxLen) :
  Calls Tryz.prog 7 #[.slice a n c] w fun e w' => ∃ v x, e = .returned v ∧ OwnF w.heap.size w' v x ∧ x.length ≤ 10 ∧ SmallF x ∧ Below w.heap.size w w' := by
 have HLOW := Box.mk (show ∀ y, a = some y → 0 < n → y.block < w.heap.size from fun y e h0 => by
  obtain ⟨x, z, e1, h1, _⟩ := hi 0 h0
  rw [e] at e1
  obtain rfl := Option.some.inj e1
  have := lt_cell h1
  rwa [add_blockF] at this)
 have HSB := Box.mk (src_box (c := c) hi hn)
 have HBB := Box.mk (below_oneF w (.cells #[.slice a n c, .int .i64 0] 34))
 have HWS := Box.mk (show (w.alloc (.cells #[.slice a n c, .int .i64 0] 34)).heap.size = w.heap.size + 1 by rw [World.size_alloc])
 clear hi hn
 go_enter Tryz.func7, Tryz.ntmps7
 go_wp2_with fail
 generalize hWW : w.alloc (.cells #[.slice a n c, .int .i64 0] 34) = W at *
 clear hWW
 refine (srcFieldsS_any w.heap.size 6 a n c W HSB.out (by decide)).mono ?_
 rintro e w1 ⟨v1, x1, rfl, ho, hl, hf, hsrc, hg1⟩
 have HST := Box.mk (show MdSt w.heap.size a n c W 6 v1 w1 from ⟨x1, by rw [← HWS.out]; exact ho, hl, fun f hm => by obtain ⟨_, h1, h2⟩ := (hf f hm).made; exact ⟨by omega, by omega⟩, hsrc, hg1⟩)
 clear ho hl hf hsrc hg1 HSB
 generalize hg : w.heap.size = g at *
 have HG := Box.mk hg
 clear hg
 go_wp2_with fail
 refine (next_any g 3 a n c w1 HST.out.src (by decide) (by decide)).mono ?_
 rintro e w2 ⟨k, hk, rfl, hsrc, hgn⟩
 have HST2 := Box.mk (HST.out.next hsrc hgn)
 clear hsrc hgn HST
 go_upto_if 12 with fail
 go_cut [4] (fun v wx => Box (MdSt g a n c W 7 v wx))
 case first =>
  by_cases hk0 : k = 0
  · have e0 : (((k : Nat) : Int) == 0) = true := by rw [hk0]; rfl
    clear hk0
    obtain ⟨x, ho, hx4, hs, hsrc, hgr⟩ := HST2.out
    have HO := Box.mk ho
    have HX := Box.mk (And.intro hx4 (And.intro hs (And.intro hsrc hgr)))
    have hgB := hgr.size
    have hWZ := HWS.out
    have hglt := hsrc.lt
    clear ho hs hsrc hgr HST2
    have HFS := Box.mk (show (((⟨#[84, 114, 97, 110, 115, 102, 101, 114, 45, 69, 110, 99, 111, 100, 105, 110, 103]⟩ : ByteArray), (⟨#[99, 104, 117, 110, 107, 101, 100]⟩ : ByteArray)) : Fld).1.size ≤ 1048576 ∧ (((⟨#[84, 114, 97, 110, 115, 102, 101, 114, 45, 69, 110, 99, 111, 100, 105, 110, 103]⟩ : ByteArray), (⟨#[99, 104, 117, 110, 107, 101, 100]⟩ : ByteArray)) : Fld).2.size ≤ 1048576 from ⟨by decide, by decide⟩)
    go_wp2_with (at_builtin; refine wpList_append_ownf _ rfl _ _ rfl rfl (HO.out.keep ((Below.refl _ _).alloc (Nat.le_refl _) _)) rfl (y := ((⟨#[84, 114, 97, 110, 115, 102, 101, 114, 45, 69, 110, 99, 111, 100, 105, 110, 103]⟩, ⟨#[99, 104, 117, 110, 107, 101, 100]⟩) : Fld)) (by simp) (by simp) (by omega) (by simp; omega) ?c3)
    case c3 =>
     intro v' w9 hown hgrow
     have HN := Box.mk (mdApp HWS.out HO.out HX.out.1 HX.out.2.1 HX.out.2.2.1 HX.out.2.2.2 HLOW.out HFS.out hown hgrow)
     clear hown hgrow HO HX
     go_wp2_with fail
     go_meet
     exact HN
  · have e0 : (((k : Nat) : Int) == 0) = false := by rw [beq_eq_false_iff_ne]; omega
    clear hk0
    go_wp2_with fail
    go_meet
    exact ⟨HST2.out.le (by decide)⟩
 case rest =>
  have HST := hcut
  clear hcut HST2
  go_wp2_with fail
  refine (next_any g 3 a n c wc HST.out.src (by decide) (by decide)).mono ?_
  rintro e w3 ⟨k, hk, rfl, hsrc, hgn⟩
  have HST2 := Box.mk (HST.out.next hsrc hgn)
  clear hsrc hgn HST
  go_upto_if 19 with fail
  go_cut [4] (fun v wx => Box (MdSt g a n c W 8 v wx))
  case first =>
   by_cases hk0 : k = 0
   · have e0 : (((k : Nat) : Int) == 0) = true := by rw [hk0]; rfl
     clear hk0
     obtain ⟨x, ho, hx4, hs, hsrc, hgr⟩ := HST2.out
     have HO := Box.mk ho
     have HX := Box.mk (And.intro hx4 (And.intro hs (And.intro hsrc hgr)))
     have hgB := hgr.size
     have hWZ := HWS.out
     have hglt := hsrc.lt
     clear ho hs hsrc hgr HST2
     go_wp2_with fail
     obtain ⟨L, hL⟩ : ∃ L : List ByteArray, L = [⟨#[53]⟩, ⟨#[48, 53]⟩, ⟨#[120]⟩] := ⟨_, rfl⟩
     obtain ⟨W8, hW8⟩ : ∃ W8, W8 = w3.alloc (.cells (L.map Value.string).toArray 9) := ⟨_, rfl⟩
     have HL8 := Box.mk (show StrsIn W8 (some ⟨w3.heap.size, 0, none⟩) L by rw [hW8]; exact strsIn_newF w3 L 9)
     have hb8 : Below w3.heap.size w3 W8 := by rw [hW8]; exact below_oneF w3 _
     have HLS := Box.mk (show ∀ s ∈ L, s.size ≤ 1000 by
      rw [hL]; intro s hs
      have h : ([⟨#[53]⟩, ⟨#[48, 53]⟩, ⟨#[120]⟩] : List ByteArray).all (fun s => decide (s.size ≤ 1000)) = true := by decide +kernel
      exact of_decide_eq_true (List.all_eq_true.1 h s hs))
     have hLk : L.length = 3 := by rw [hL]; rfl
     have HO8 := Box.mk (HO.out.keep hb8)
     have HX8 := Box.mk (show x.length ≤ _ ∧ SmallF x ∧ Src W8 g a n c ∧ W.grownBy W8 (some g) from ⟨HX.out.1, HX.out.2.1, HX.out.2.2.1.keep hb8, grownBy_trans HX.out.2.2.2 (grownBy_below hb8)⟩)
     rw [hL] at hW8
     change Calls _ _ _ (w3.alloc (.cells ((([⟨#[53]⟩, ⟨#[48, 53]⟩, ⟨#[120]⟩] : List ByteArray).map Value.string).toArray) 9)) _
     rw [← hW8]
     clear hW8 hb8 hL HO HX
     refine (of_n g w3.heap.size 3 L 3 a n c W8 HX8.out.2.2.1 HL8.out (by omega) hLk (by decide) (by decide)).mono ?_
     rintro e w8 ⟨s, hs, rfl, hsrc, hg8⟩
     have HFS := Box.mk (show (((⟨#[67, 111, 110, 116, 101, 110, 116, 45, 76, 101, 110, 103, 116, 104]⟩ : ByteArray), s) : Fld).1.size ≤ 1048576 ∧ (((⟨#[67, 111, 110, 116, 101, 110, 116, 45, 76, 101, 110, 103, 116, 104]⟩ : ByteArray), s) : Fld).2.size ≤ 1048576 from ⟨(by show (⟨#[67, 111, 110, 116, 101, 110, 116, 45, 76, 101, 110, 103, 116, 104]⟩ : ByteArray).size ≤ _; decide), (by have := HLS.out s hs; show s.size ≤ _; omega)⟩)
     have HO := Box.mk (HO8.out.grown hg8 (fun q hq e => by have := (HO8.out.lt hq).1; have := Option.some.inj e; omega))
     have HX := Box.mk (show x.length ≤ _ ∧ SmallF x ∧ Src w8 g a n c ∧ W.grownBy w8 (some g) from ⟨HX8.out.1, HX8.out.2.1, hsrc, grownBy_trans HX8.out.2.2.2 hg8⟩)
     have hgB8 := HX.out.2.2.2.size
     clear hs hsrc hg8 HO8 HX8 HL8 HLS hLk
     go_wp2_with (at_builtin; refine wpList_append_ownf _ rfl _ _ rfl rfl (HO.out.keep ((Below.refl _ _).alloc (Nat.le_refl _) _)) rfl (y := ((⟨#[67, 111, 110, 116, 101, 110, 116, 45, 76, 101, 110, 103, 116, 104]⟩, s) : Fld)) (by simp) (by simp) (by omega) (by simp; omega) ?c3)
     case c3 =>
      intro v' w9 hown hgrow
      have HN := Box.mk (mdApp HWS.out HO.out HX.out.1 HX.out.2.1 HX.out.2.2.1 HX.out.2.2.2 HLOW.out HFS.out hown hgrow)
      clear hown hgrow HO HX
      go_wp2_with fail
      go_meet
      exact HN
   · have e0 : (((k : Nat) : Int) == 0) = false := by rw [beq_eq_false_iff_ne]; omega
     clear hk0
     go_wp2_with fail
     go_meet
     exact ⟨HST2.out.le (by decide)⟩
  case rest =>
   have HST := hcut
   clear hcut HST2
   go_wp2_with fail
   refine (next_any g 3 a n c wc HST.out.src (by decide) (by decide)).mono ?_
   rintro e w4 ⟨k, hk, rfl, hsrc, hgn⟩
   have HST2 := Box.mk (HST.out.next hsrc hgn)
   clear hsrc hgn HST
   go_upto_if 29 with fail
   go_cut [4] (fun v wx => Box (MdSt g a n c W 9 v wx))
   case first =>
    by_cases hk0 : k = 0
    · have e0 : (((k : Nat) : Int) == 0) = true := by rw [hk0]; rfl
      clear hk0
      obtain ⟨x, ho, hx4, hs, hsrc, hgr⟩ := HST2.out
      have HO := Box.mk ho
      have HX := Box.mk (And.intro hx4 (And.intro hs (And.intro hsrc hgr)))
      have hgB := hgr.size
      have hWZ := HWS.out
      have hglt := hsrc.lt
      clear ho hs hsrc hgr HST2
      go_wp2_with fail
      obtain ⟨L, hL⟩ : ∃ L : List ByteArray, L = [⟨#[72, 111, 115, 116, 44, 32, 67, 111, 111, 107, 105, 101]⟩, ⟨#[118, 105, 97]⟩, ⟨#[120, 45, 102, 111, 114, 119, 97, 114, 100, 101, 100, 45, 102, 111, 114, 44, 32, 88, 45, 66]⟩, ⟨#[99, 111, 110, 116, 101, 110, 116, 45, 108, 101, 110, 103, 116, 104]⟩, ⟨#[88, 45, 82, 101, 113, 117, 101, 115, 116, 45, 73, 100, 44, 99, 108, 111, 115, 101]⟩] := ⟨_, rfl⟩
      obtain ⟨W8, hW8⟩ : ∃ W8, W8 = w4.alloc (.cells (L.map Value.string).toArray 9) := ⟨_, rfl⟩
      have HL8 := Box.mk (show StrsIn W8 (some ⟨w4.heap.size, 0, none⟩) L by rw [hW8]; exact strsIn_newF w4 L 9)
      have hb8 : Below w4.heap.size w4 W8 := by rw [hW8]; exact below_oneF w4 _
      have HLS := Box.mk (show ∀ s ∈ L, s.size ≤ 1000 by
       rw [hL]; intro s hs
       have h : ([⟨#[72, 111, 115, 116, 44, 32, 67, 111, 111, 107, 105, 101]⟩, ⟨#[118, 105, 97]⟩, ⟨#[120, 45, 102, 111, 114, 119, 97, 114, 100, 101, 100, 45, 102, 111, 114, 44, 32, 88, 45, 66]⟩, ⟨#[99, 111, 110, 116, 101, 110, 116, 45, 108, 101, 110, 103, 116, 104]⟩, ⟨#[88, 45, 82, 101, 113, 117, 101, 115, 116, 45, 73, 100, 44, 99, 108, 111, 115, 101]⟩] : List ByteArray).all (fun s => decide (s.size ≤ 1000)) = true := by decide +kernel
       exact of_decide_eq_true (List.all_eq_true.1 h s hs))
      have hLk : L.length = 5 := by rw [hL]; rfl
      have HO8 := Box.mk (HO.out.keep hb8)
      have HX8 := Box.mk (show x.length ≤ _ ∧ SmallF x ∧ Src W8 g a n c ∧ W.grownBy W8 (some g) from ⟨HX.out.1, HX.out.2.1, HX.out.2.2.1.keep hb8, grownBy_trans HX.out.2.2.2 (grownBy_below hb8)⟩)
      rw [hL] at hW8
      change Calls _ _ _ (w4.alloc (.cells ((([⟨#[72, 111, 115, 116, 44, 32, 67, 111, 111, 107, 105, 101]⟩, ⟨#[118, 105, 97]⟩, ⟨#[120, 45, 102, 111, 114, 119, 97, 114, 100, 101, 100, 45, 102, 111, 114, 44, 32, 88, 45, 66]⟩, ⟨#[99, 111, 110, 116, 101, 110, 116, 45, 108, 101, 110, 103, 116, 104]⟩, ⟨#[88, 45, 82, 101, 113, 117, 101, 115, 116, 45, 73, 100, 44, 99, 108, 111, 115, 101]⟩] : List ByteArray).map Value.string).toArray) 9)) _
      rw [← hW8]
      clear hW8 hb8 hL HO HX
      refine (of_n g w4.heap.size 5 L 5 a n c W8 HX8.out.2.2.1 HL8.out (by omega) hLk (by decide) (by decide)).mono ?_
      rintro e w8 ⟨s, hs, rfl, hsrc, hg8⟩
      have HFS := Box.mk (show (((⟨#[99, 111, 110, 110, 101, 99, 116, 105, 111, 110]⟩ : ByteArray), s) : Fld).1.size ≤ 1048576 ∧ (((⟨#[99, 111, 110, 110, 101, 99, 116, 105, 111, 110]⟩ : ByteArray), s) : Fld).2.size ≤ 1048576 from ⟨(by show (⟨#[99, 111, 110, 110, 101, 99, 116, 105, 111, 110]⟩ : ByteArray).size ≤ _; decide), (by have := HLS.out s hs; show s.size ≤ _; omega)⟩)
      have HO := Box.mk (HO8.out.grown hg8 (fun q hq e => by have := (HO8.out.lt hq).1; have := Option.some.inj e; omega))
      have HX := Box.mk (show x.length ≤ _ ∧ SmallF x ∧ Src w8 g a n c ∧ W.grownBy w8 (some g) from ⟨HX8.out.1, HX8.out.2.1, hsrc, grownBy_trans HX8.out.2.2.2 hg8⟩)
      have hgB8 := HX.out.2.2.2.size
      clear hs hsrc hg8 HO8 HX8 HL8 HLS hLk
      go_wp2_with (at_builtin; refine wpList_append_ownf _ rfl _ _ rfl rfl (HO.out.keep ((Below.refl _ _).alloc (Nat.le_refl _) _)) rfl (y := ((⟨#[99, 111, 110, 110, 101, 99, 116, 105, 111, 110]⟩, s) : Fld)) (by simp) (by simp) (by omega) (by simp; omega) ?c3)
      case c3 =>
       intro v' w9 hown hgrow
       have HN := Box.mk (mdApp HWS.out HO.out HX.out.1 HX.out.2.1 HX.out.2.2.1 HX.out.2.2.2 HLOW.out HFS.out hown hgrow)
       clear hown hgrow HO HX
       go_wp2_with fail
       go_meet
       exact HN
    · have e0 : (((k : Nat) : Int) == 0) = false := by rw [beq_eq_false_iff_ne]; omega
      clear hk0
      go_wp2_with fail
      go_meet
      exact ⟨HST2.out.le (by decide)⟩
   case rest =>
    have HST2 := hcut
    clear hcut
    obtain ⟨x, ho, hx4, hs, hsrc, hgr⟩ := HST2.out
    have HO := Box.mk ho
    have HX := Box.mk (And.intro hx4 (And.intro hs (And.intro hsrc hgr)))
    have hgB := hgr.size
    have hWZ := HWS.out
    have hglt := hsrc.lt
    clear ho hs hsrc hgr
    have HFS := Box.mk (show (((⟨#[72, 111, 115, 116]⟩ : ByteArray), (⟨#[97]⟩ : ByteArray)) : Fld).1.size ≤ 1048576 ∧ (((⟨#[72, 111, 115, 116]⟩ : ByteArray), (⟨#[97]⟩ : ByteArray)) : Fld).2.size ≤ 1048576 from ⟨by decide, by decide⟩)
    go_wp2_with (at_builtin; refine wpList_append_ownf _ rfl _ _ rfl rfl (HO.out.keep ((Below.refl _ _).alloc (Nat.le_refl _) _)) rfl (y := ((⟨#[72, 111, 115, 116]⟩, ⟨#[97]⟩) : Fld)) (by simp) (by simp) (by omega) (by simp; omega) ?c3)
    case c3 =>
     intro v' w9 hown hgrow
     have HN := Box.mk (mdApp HWS.out HO.out HX.out.1 HX.out.2.1 HX.out.2.2.1 HX.out.2.2.2 HLOW.out HFS.out hown hgrow)
     clear hown hgrow HO HX
     go_wp2_with fail
     go_ret
     obtain ⟨y, h1, h2, h3, h4, h5⟩ := HN.out
     exact ⟨_, y, rfl, h1.mono (by rw [HG.out]; omega), h2, h3, by
      have := below_trans (show Below w.heap.size w W by rw [HG.out]; exact HBB.out) (Below.refl _ _)
      exact (below_box' HG.out HBB.out h5)⟩
def awA : List Fld := [(⟨#[67, 111, 110, 110, 101, 99, 116, 105, 111, 110]⟩, ⟨#[99, 108, 111, 115, 101, 44, 32, 88, 45, 65]⟩), (⟨#[88, 45, 65]⟩, ⟨#[49]⟩), (⟨#[88, 45, 66]⟩, ⟨#[50]⟩)]
def awHb : List Fld := [(⟨#[88, 45, 66]⟩, ⟨#[50]⟩)]
def awC : List Fld := [(xffP, ⟨#[49]⟩)]
def awD : List Fld := [(xffP, ⟨#[49, 44, 32, 55]⟩), (viaP, selfP)]
theorem aw_strip : stripL awA = awHb := by decide +kernel
theorem aw_fwd : fwdL awC false 0 ⟨#[55]⟩ = awD := by decide +kernel
theorem aw_smallA : SmallF awA := by
 have h : awA.all (fun f => decide (f.1.size ≤ 1048576) && decide (f.2.size ≤ 1048576)) = true := by decide +kernel
 intro f hf
 have h1 := List.all_eq_true.1 h f hf
 rw [Bool.and_eq_true] at h1
 exact ⟨of_decide_eq_true h1.1, of_decide_eq_true h1.2⟩
theorem aw_smallC : SmallF awC := by
 have h : awC.all (fun f => decide (f.1.size ≤ 1048576) && decide (f.2.size ≤ 1048576)) = true := by decide +kernel
 intro f hf
 have h1 := List.all_eq_true.1 h f hf
 rw [Bool.and_eq_true] at h1
 exact ⟨of_decide_eq_true h1.1, of_decide_eq_true h1.2⟩
theorem fldsIn_new (w : World) (l : List Fld) (cs : Array Value) (h : cs = (cellsF l).toArray) : FldsIn (w.alloc (.cells cs 69)) (some ⟨w.heap.size, 0, none⟩) l := by
 refine FldsIn.of_cells fun j u hj => ?_
 rw [Addr.add_lit, Nat.zero_add, new_cellF, h]
 simpa using hj
theorem OwnF.lit {B : Nat} {w : World} {v : Value} {l : List Fld} (h : OwnF B w v l) (hne : l ≠ []) : ∃ g cap, v = .slice (some ⟨g, 0, none⟩) l.length cap ∧ g < w.heap.size ∧ ∀ j u, (cellsF l)[j]? = some u → w.cell? ⟨g, j, none⟩ = some u := by
 obtain ⟨a, c, hv, hs, _⟩ := h.shape
 rcases h.2 with ⟨_, h2⟩ | ⟨g, cap, cur, hv', _, hc, _⟩
 · exact absurd (List.eq_nil_of_length_eq_zero h2) hne
 · rw [hv] at hv'
   cases hv'
   refine ⟨g, c, hv, (Array.getElem?_eq_some_iff.1 hc).1, fun j u hj => ?_⟩
   have := hs.1.cells j u hj
   rwa [Addr.add_lit, Nat.zero_add] at this
set_option maxRecDepth 100000 in
set_option maxHeartbeats 4000000 in
theorem awakeHop_any (w : World) (mm : Int) (hm : MaxOk w mm) (ht : Tabs w) : Calls Tryz.prog 8 #[] w fun e w' => e = .returned (.bool true) ∧ Below w.heap.size w w' := by
 obtain ⟨W1, hW1⟩ : ∃ W1, W1 = w.alloc (.cells (cellsF awA).toArray 69) := ⟨_, rfl⟩
 have HB1 := Box.mk (show Below w.heap.size w W1 by rw [hW1]; exact below_oneF w _)
 have HF1 := Box.mk (show FldsIn W1 (some ⟨w.heap.size, 0, none⟩) awA by rw [hW1]; exact fldsIn_new w awA _ rfl)
 have HM := Box.mk (And.intro (hm.keep HB1.out) (tabs_below ht HB1.out))
 clear hm ht
 go_enter Tryz.func8, Tryz.ntmps8
 go_wp2_with fail
 change Calls _ _ _ (w.alloc (.cells (cellsF awA).toArray 69)) _
 rw [← hW1]
 clear hW1
 refine (hStrip_any awA _ 3 W1 mm HF1.out aw_smallA.short (by decide) HM.out.1 (by decide +kernel)).mono ?_
 rintro e w2 ⟨v2, rfl, hv2⟩
 rw [aw_strip] at hv2
 obtain ⟨g2, c2, hve, hg2, hs2⟩ := hv2.own.lit (by decide)
 have hve : v2 = .slice (some ⟨g2, 0, none⟩) 1 c2 := hve
 subst hve
 have HB2 := Box.mk (below_trans HB1.out hv2.2)
 have HM2 := Box.mk (And.intro (HM.out.1.keep hv2.2) (tabs_below HM.out.2 hv2.2))
 have HC2 := Box.mk (show w2.cell? ⟨g2, 0, none⟩ = some (.string ⟨#[88, 45, 66]⟩) from hs2 0 _ rfl)
 clear hv2 hs2 HF1 HB1 HM hg2
 go_wp2_with fail
 obtain ⟨W3, hW3⟩ : ∃ W3, W3 = w2.alloc (.cells #[.string ⟨#[88, 45, 70, 111, 114, 119, 97, 114, 100, 101, 100, 45, 70, 111, 114]⟩, .string ⟨#[49]⟩] 69) := ⟨_, rfl⟩
 have hb3 : Below w2.heap.size w2 W3 := by rw [hW3]; exact below_oneF w2 _
 have HF3 := Box.mk (show FldsIn W3 (some ⟨w2.heap.size, 0, none⟩) awC by rw [hW3]; exact fldsIn_new w2 awC _ rfl)
 have HM3 := Box.mk (And.intro (HM2.out.1.keep hb3) (tabs_below HM2.out.2 hb3))
 have HB3 := Box.mk (below_trans HB2.out hb3)
 have HC3 := Box.mk (below_cell hb3 HC2.out)
 rw [← hW3]
 clear hW3 hb3 HM2 HC2 HB2
 refine (hForward_any ⟨#[71, 69, 84]⟩ ⟨#[47]⟩ ⟨#[55]⟩ 0 awC _ 1 false [] none 0 W3 mm HF3.out aw_smallC (by decide) (by decide) HM3.out.1 HM3.out.2 (.inl ⟨rfl, rfl, rfl⟩) (by decide)).mono ?_
 rintro e w4 ⟨v4, b4, c4, rfl, ho4, _, hb4⟩
 have ho4 : OwnF W3.heap.size w4 v4 awD := by rw [← aw_fwd]; exact ho4
 obtain ⟨g4, c5, hve, hg4, hs4⟩ := ho4.lit (by decide)
 have hve : v4 = .slice (some ⟨g4, 0, none⟩) 2 c5 := hve
 subst hve
 have HB4 := Box.mk (below_trans HB3.out hb4)
 have hbx := below_oneF w4 (.cells #[.string ⟨#[71, 69, 84]⟩, .string ⟨#[47]⟩, .int .i64 1, .slice (some ⟨g4, 0, none⟩) 2 c5, .bool false, .slice b4 0 c4] 31)
 have hx0 := below_cell hbx (below_cell hb4 HC3.out)
 have hx1 := below_cell hbx (show w4.cell? ⟨g4, 0, none⟩ = some (.string ⟨#[88, 45, 70, 111, 114, 119, 97, 114, 100, 101, 100, 45, 70, 111, 114]⟩) from hs4 0 _ rfl)
 have hx2 := below_cell hbx (show w4.cell? ⟨g4, 1, none⟩ = some (.string ⟨#[49, 44, 32, 55]⟩) from hs4 1 _ rfl)
 have hx3 := below_cell hbx (show w4.cell? ⟨g4, 2, none⟩ = some (.string ⟨#[86, 105, 97]⟩) from hs4 2 _ rfl)
 have hx4 := below_cell hbx (show w4.cell? ⟨g4, 3, none⟩ = some (.string ⟨#[49, 46, 49, 32, 99, 97, 110, 97, 114, 121]⟩) from hs4 3 _ rfl)
 have HB5 := Box.mk (below_trans HB4.out hbx)
 clear ho4 hb4 hs4 hg4 HC3 HB3 HB4 HF3 HM3 hbx
 go_wp2_with fail
 go_ret
 exact ⟨rfl, HB5.out⟩
def FdIn (w0 : World) (v : Value) (w : World) : Prop := ∃ x a c, v = .slice a (List.length x) c ∧ FldsIn w a x ∧ SmallF x ∧ Below w0.heap.size w0 w
set_option maxRecDepth 100000 in
set_option maxHeartbeats 4000000 in
theorem hopStrip_any (b : Option Addr) (n cb : Nat) (l : List Fld) (a : Option Addr) (cap : Nat) (wild : Bool) (w : World) (mm : Int) (hi : IntsF w b n) (hn : n ≤ maxLen) (h : FldsIn w a l) (hs : SmallF l) (hm : MaxOk w mm) (ht : Tabs w) :
  Calls Tryz.prog 3 #[.slice b n cb, .slice a l.length cap, .bool wild] w fun e w' => e = .returned (.bool true) ∧ Below w.heap.size w w' := by
 have H0 := Box.mk (And.intro h hs)
 have HM := Box.mk (And.intro hm ht)
 have HI := Box.mk (And.intro hi hn)
 clear h hs hm ht hi hn
 go_enter Tryz.func3, Tryz.ntmps3
 go_wp2_with fail
 refine (made_any b n cb w HI.out.1 HI.out.2).mono ?_
 rintro e w1 ⟨v1, x1, rfl, ho1, _, hs1, hb1⟩
 have HX1 := Box.mk (show FdIn w v1 w1 by
  obtain ⟨a1, c1, hv, hf, _⟩ := ho1.shape
  exact ⟨x1, a1, c1, hv, hf.1, hs1, hb1⟩)
 have HR1 := Box.mk (show FdIn w (.slice a l.length cap) w1 from ⟨l, a, cap, rfl, H0.out.1.keep hb1, H0.out.2, hb1⟩)
 clear ho1 hs1 hb1 H0 HI
 go_upto_if 11 with fail
 go_cut [7] (fun v wx => Box (FdIn w v wx))
 case first =>
  cases wild with
  | true =>
   go_wp2_with fail
   go_meet
   exact HR1
  | false =>
   go_wp2_with fail
   go_meet
   exact HX1
 case rest =>
  obtain ⟨x, ax, cx, hv, hf, hsm, hb⟩ := hcut.out
  subst hv
  have HB := Box.mk hb
  have HF := Box.mk hf
  have HS := Box.mk hsm
  have HM1 := Box.mk (And.intro (HM.out.1.keep hb) (tabs_below HM.out.2 hb))
  clear hcut hb hf hsm HX1 HR1 HM
  by_cases h40 : 40 < x.length
  · go_wp2_with fail
    refine (awakeHop_any _ mm HM1.out.1 HM1.out.2).mono ?_
    rintro e w2 ⟨rfl, hb2⟩
    have HB2 := Box.mk (below_trans HB.out hb2)
    clear hb2
    go_wp2_with fail
    go_ret
    exact ⟨rfl, HB2.out⟩
  · have HT := Box.mk (fun n => small_total HS.out (by omega) n)
    go_wp2_with fail
    refine (hStrip_any x ax cx wc mm HF.out HS.out.short (by omega) HM1.out.1 (Nat.le_trans (HT.out _) (by decide))).mono ?_
    rintro e w2 ⟨v2, rfl, hv2⟩
    obtain ⟨y, hy⟩ : ∃ y, y = stripL x := ⟨_, rfl⟩
    have HY := Box.mk (And.intro (show SmallF y by rw [hy]; exact stripL_small HS.out) (show stripL y = y by rw [hy]; exact strip_twice x))
    have hyl : y.length ≤ 40 := by rw [hy]; have := stripL_len x; omega
    have HYE := Box.mk hy
    rw [← hy] at hv2
    obtain ⟨a2, c2, rfl, hf2⟩ := hv2.shape
    have HF2 := Box.mk (And.intro (HF.out.keep hv2.2) hf2)
    have HM2 := Box.mk (And.intro (HM1.out.1.keep hv2.2) (tabs_below HM1.out.2 hv2.2))
    have HB2 := Box.mk (below_trans HB.out hv2.2)
    clear hv2 hf2 hy HF HM1 HB
    go_wp2_with fail
    refine (refStrip_any x ax cx w2 HF2.out.1 HS.out.short (by omega) (Nat.le_trans (HT.out _) (by decide))).mono ?_
    rintro e w3 ⟨v3, rfl, hv3⟩
    rw [← HYE.out] at hv3
    obtain ⟨a3, c3, rfl, hf3⟩ := hv3.shape
    have HF3 := Box.mk (And.intro (HF2.out.1.keep hv3.2) (And.intro (HF2.out.2.keep hv3.2) hf3))
    have HM3 := Box.mk (And.intro (HM2.out.1.keep hv3.2) (tabs_below HM2.out.2 hv3.2))
    have HB3 := Box.mk (below_trans HB2.out hv3.2)
    clear hv3 hf3 HF2 HM2 HB2
    go_wp2_with fail
    refine (same_true y a2 a3 c2 c3 w3 HF3.out.2.1 HF3.out.2.2 (by omega)).mono ?_
    rintro e w4 ⟨rfl, hb4⟩
    have HF4 := Box.mk (And.intro (HF3.out.1.keep hb4) (HF3.out.2.1.keep hb4))
    have HM4 := Box.mk (And.intro (HM3.out.1.keep hb4) (tabs_below HM3.out.2 hb4))
    have HB4 := Box.mk (below_trans HB3.out hb4)
    clear hb4 HF3 HM3 HB3
    go_wp2_with fail
    have HT2 := Box.mk (fun n => small_total HY.out.1 (by omega) n)
    refine (hStrip_any y a2 c2 w4 mm HF4.out.2 HY.out.1.short (by omega) HM4.out.1 (Nat.le_trans (HT2.out _) (by decide))).mono ?_
    rintro e w5 ⟨v5, rfl, hv5⟩
    rw [HY.out.2] at hv5
    obtain ⟨a5, c5, rfl, hf5⟩ := hv5.shape
    have HF5 := Box.mk (And.intro (HF4.out.1.keep hv5.2) (And.intro (HF4.out.2.keep hv5.2) hf5))
    have HM5 := Box.mk (And.intro (HM4.out.1.keep hv5.2) (tabs_below HM4.out.2 hv5.2))
    have HB5 := Box.mk (below_trans HB4.out hv5.2)
    clear hv5 hf5 HF4 HM4 HB4
    go_wp2_with fail
    refine (same_true y a5 a2 c5 c2 w5 HF5.out.2.2 HF5.out.2.1 (by omega)).mono ?_
    rintro e w6 ⟨rfl, hb6⟩
    have HF6 := Box.mk (HF5.out.1.keep hb6)
    have HM6 := Box.mk (And.intro (HM5.out.1.keep hb6) (tabs_below HM5.out.2 hb6))
    have HB6 := Box.mk (below_trans HB5.out hb6)
    clear hb6 HF5 HM5 HB5
    obtain ⟨z, hz⟩ : ∃ z, z = viaL x := ⟨_, rfl⟩
    have hzl : z.length ≤ 41 := by rw [hz]; have := extL_len x viaP selfP; unfold viaL; omega
    have HZ := Box.mk hz
    clear hz
    go_wp2_with fail
    refine (hVia_any x ax cx w6 mm HF6.out HS.out.short (by omega) HM6.out.1 (Nat.le_trans (HT.out _) (by decide))).mono ?_
    rintro e w7 ⟨v7, rfl, hv7⟩
    rw [← HZ.out] at hv7
    obtain ⟨a7, c7, rfl, hf7⟩ := hv7.shape
    have HF7 := Box.mk (And.intro (HF6.out.keep hv7.2) hf7)
    have HM7 := Box.mk (And.intro (HM6.out.1.keep hv7.2) (tabs_below HM6.out.2 hv7.2))
    have HB7 := Box.mk (below_trans HB6.out hv7.2)
    clear hv7 hf7 HF6 HM6 HB6
    go_wp2_with fail
    refine (refVia_any x ax cx w7 HF7.out.1 HS.out.short (by omega) (Nat.le_trans (HT.out _) (by decide))).mono ?_
    rintro e w8 ⟨v8, rfl, hv8⟩
    rw [← HZ.out] at hv8
    obtain ⟨a8, c8, rfl, hf8⟩ := hv8.shape
    have HF8 := Box.mk (And.intro (HF7.out.2.keep hv8.2) hf8)
    have HM8 := Box.mk (And.intro (HM7.out.1.keep hv8.2) (tabs_below HM7.out.2 hv8.2))
    have HB8 := Box.mk (below_trans HB7.out hv8.2)
    clear hv8 hf8 HF7 HM7 HB7
    go_wp2_with fail
    refine (same_true z a7 a8 c7 c8 w8 HF8.out.1 HF8.out.2 (by omega)).mono ?_
    rintro e w9 ⟨rfl, hb9⟩
    have HM9 := Box.mk (And.intro (HM8.out.1.keep hb9) (tabs_below HM8.out.2 hb9))
    have HB9 := Box.mk (below_trans HB8.out hb9)
    clear hb9 HF8 HM8 HB8
    go_wp2_with fail
    refine (awakeHop_any _ mm HM9.out.1 HM9.out.2).mono ?_
    rintro e w10 ⟨rfl, hb10⟩
    have HB10 := Box.mk (below_trans HB9.out hb10)
    clear hb10
    go_wp2_with fail
    go_ret
    exact ⟨rfl, HB10.out⟩
end Go.Proofs.YtfghgenboahkkaaGreatDoor
namespace Go.Proofs.YtfghgenboahkkaaGreatDoor
open Go.ChangeShapes Go.WideShapes Go.ChangeAt Go.RowKit
def dB64 : List Int := [0, 1, 56, 2, 57, 49, 28, 3, 61, 58, 42, 50, 38, 29, 17, 4, 62, 47, 59, 36, 45, 43, 51, 22, 53, 39, 33, 30, 24, 18, 12, 5, 63, 55, 48, 27, 60, 41, 37, 16, 46, 35, 44, 21, 52, 32, 23, 11, 54, 26, 40, 15, 34, 20, 31, 10, 25, 14, 19, 9, 13, 8, 7, 6]
theorem tabs_of_laid {W : World} {l : List (String × DataW Unit)} (h : laidMetH Tryz.prog l W)
  (e1 : l.filter (fun x => x.1 == "internal/strconv.uint64pow10") = [("internal/strconv.uint64pow10", Lib.tabData .u64 Lib.pow10Tab)])
  (e2 : l.filter (fun x => x.1 == "math/bits.deBruijn64tab") = [("math/bits.deBruijn64tab", Lib.tabData .u8 dB64)]) : Tabs W := by
 have h1 := h.filter (fun x => x.1 == "internal/strconv.uint64pow10")
 have h2 := h.filter (fun x => x.1 == "math/bits.deBruijn64tab")
 rw [e1] at h1
 rw [e2] at h2
 rw [MakeChecks.laidMetH_plain _ _ _ (by kernel_rfl)] at h1 h2
 have t1 := Lib.tabIs_of_head (g := 1) (t := 214) (e := 143) (n := 20) (by kernel_rfl) (by kernel_rfl) (by kernel_rfl) (by kernel_rfl) (by kernel_rfl) (by kernel_rfl) h1
 have t2 := Lib.tabIs_of_head (g := 3) (t := 236) (e := 5) (n := 64) (by kernel_rfl) (by kernel_rfl) (by kernel_rfl) (by kernel_rfl) (by kernel_rfl) (by kernel_rfl) h2
 refine ⟨t1, t2.cell (by kernel_rfl) 15 (by decide), lt_cell (t1.cell (by kernel_rfl) 0 (by decide))⟩
end Go.Proofs.YtfghgenboahkkaaGreatDoor
namespace Go.Proofs.YtfghgenboahkkaaGreatDoor
open Go.RowKit
structure FwV (g : Nat) (w : World) (cs : Array Value) (W : World) : Prop where
 row : W.heap[g]? = some (.cells cs 31 (0, 0))
 res : RVar W (g + 1) ⟨#[]⟩ ⟨#[]⟩ 0
 bel : Below g w W
theorem FwV.keep {g : Nat} {w W W' : World} {cs : Array Value} (h : FwV g w cs W) (hb : Below W.heap.size W W') : FwV g w cs W' :=
 ⟨by rw [hb.block g (Array.getElem?_eq_some_iff.1 h.row).1]; exact h.row, h.res.keep hb, h.bel.trans (hb.mono (by have := (Array.getElem?_eq_some_iff.1 h.row).1; omega))⟩
theorem FwV.app {g : Nat} {w W W' : World} {cs : Array Value} {row : Option Nat} (h : FwV g w cs W) (hg : W.grownBy W' row) (hr : ∀ k, row = some k → g + 2 ≤ k) : FwV g w cs W' :=
 ⟨(hg.block g (Array.getElem?_eq_some_iff.1 h.row).1 (fun e => by have := hr _ e.symm; omega)).trans h.row, (hg.block (g + 1) (Array.getElem?_eq_some_iff.1 h.res).1 (fun e => by have := hr _ e.symm; omega)).trans h.res, h.bel.grown hg (by have := (Array.getElem?_eq_some_iff.1 h.row).1; omega) (fun k e => by have := hr _ e; omega)⟩
theorem FwV.set {g : Nat} {w W : World} {cs : Array Value} (h : FwV g w cs W) (i : Nat) (v : Value) : FwV g w (cs.setIfInBounds i v) (W.setCell ⟨g, i, none⟩ v) :=
 ⟨heap_setCell_same W g i cs 31 v h.row, (heap_setCell_other W ⟨g, i, none⟩ (g + 1) _ (by show g + 1 ≠ g; omega)).trans h.res, h.bel.setCell (Nat.le_refl _) v⟩
def Spec.fsl (f : Fld) : Spec := ⟨fun v w => ∃ b c, v = .slice (some ⟨b, 0, none⟩) 1 c ∧ w.cell? ⟨b, 0, none⟩ = some (.string f.1) ∧ w.cell? ⟨b, 1, none⟩ = some (.string f.2), fun _ _ _ h hb => by
 obtain ⟨b, c, h2, h3, h4⟩ := h
 exact ⟨b, c, h2, below_cell hb h3, below_cell hb h4⟩⟩
def Spec.ownG (B : Nat) (x : List Fld) : Spec := ⟨fun v w => OwnF B w v x, fun _ _ _ h hb => h.keep hb⟩
def FwEnd (g : Nat) (w : World) (m t : ByteArray) (fr : Bool) (bv : Value) (F : List Fld) (W : World) : Prop :=
 ∃ vF, FwV g w #[.string m, .string t, .int .i64 1, vF, .bool fr, bv] W ∧ OwnF (g + 2) W vF F
theorem sliceS {B : Nat} {w : World} {v : Value} {l : List Fld} (h : OwnF B w v l) : ∃ a c, v = .slice a l.length c := by
 obtain ⟨a, c, rfl, _, _⟩ := h.shape
 exact ⟨a, c, rfl⟩
set_option maxRecDepth 100000 in
set_option maxHeartbeats 4000000 in
theorem refForward_any (m t peer : ByteArray) (z : Int) (l : List Fld) (a : Option Addr) (cap : Nat) (fr : Bool) (bl : List UInt8) (ba : Option Addr) (bc : Nat) (w : World) (h : FldsIn w a l) (hz : SmallF l) (hl : l.length ≤ 1000) (hp : peer.size ≤ 4000000000) (hb : IsBytes w ba bl bc) (hbl : bl.length ≤ 4000000000) :
  Calls Tryz.prog 17 #[.agg #[.string m, .string t, .int .i64 z, .slice a l.length cap, .bool fr, .slice ba bl.length bc], .string peer] w (RetFwd w m t fr bl (fwdL l fr (bl.length : Int) peer)) := by
 obtain ⟨W2, hW2⟩ : ∃ W2, W2 = (w.alloc (.cells #[.string m, .string t, .int .i64 1, .slice a l.length cap, .bool fr, .slice ba bl.length bc] 31)).alloc (.cells #[.string ⟨#[]⟩, .string ⟨#[]⟩, .int .i64 0, .slice none 0 0, .bool false, .slice none 0 0] 31) := ⟨_, rfl⟩
 have HB2 := Box.mk (show Below w.heap.size w W2 by rw [hW2]; exact below_twoF (below_oneF w _) _)
 have HV2 := Box.mk (show FwV w.heap.size w #[.string m, .string t, .int .i64 1, .slice a l.length cap, .bool fr, .slice ba bl.length bc] W2 from ⟨by
  rw [hW2]; exact ((below_oneF (w.alloc _) _).block _ (by rw [World.size_alloc]; omega)).trans (heap_alloc_new w _), by
  have h1 := heap_alloc_new (w.alloc (.cells #[.string m, .string t, .int .i64 1, .slice a l.length cap, .bool fr, .slice ba bl.length bc] 31)) (.cells #[.string ⟨#[]⟩, .string ⟨#[]⟩, .int .i64 0, .slice none 0 0, .bool false, .slice none 0 0] 31)
  rw [World.size_alloc] at h1
  rw [hW2]; exact h1, HB2.out⟩)
 have HS2 := Box.mk (show W2.heap.size = w.heap.size + 2 by rw [hW2, World.size_alloc, World.size_alloc])
 have H0 := Box.mk (h.keep HB2.out)
 have HI0 := Box.mk hb
 have hsl := stripL_len l
 have HZ := Box.mk (And.intro hz (stripL_small hz))
 have HT := Box.mk (small_total hz hl cnN)
 have HW2 := Box.mk hW2
 clear h hb hW2 hz
 go_enter Tryz.func17, Tryz.ntmps17
 go_wp2_with fail
 rw [← HW2.out]
 clear HW2
 generalize hg : w.heap.size = g at *
 have HG := Box.mk hg
 clear hg
 refine (refStrip_any l a cap W2 H0.out HZ.out.1.short (by omega) (by have := HT.out; omega)).mono ?_
 rintro e w3 ⟨v3, rfl, hv3⟩
 obtain ⟨a3, c3, rfl, hs3⟩ := hv3.shapeC
 have HB3 := Box.mk hv3.2
 obtain ⟨s1, HS1⟩ : ∃ s1, Box (stripL l = s1) := ⟨_, ⟨rfl⟩⟩
 rw [HS1.out] at hs3 HZ hsl ⊢
 have HF3 := Box.mk hs3.1
 have HT1 := Box.mk (small_total HZ.out.2 (by omega) xffP)
 have HT2 := Box.mk (ext_total xff_via (last := peer) (Nat.le_trans (small_total HZ.out.2 (by omega) viaP) (by decide)))
 have HZ2 := Box.mk (extL_short (n := xffP) HZ.out.2.short (by decide) (Nat.le_trans HT1.out (by decide)) hp)
 have hl2 := extL_len s1 xffP peer
 clear hv3 hs3
 go_wp2_with fail
 refine (refExt_any s1 xffP peer a3 c3 w3 HF3.out HZ.out.2.short (by decide) (by omega) (by have := HT1.out; omega) hp).mono ?_
 rintro e w4 ⟨v4, rfl, hv4⟩
 obtain ⟨a4, c4, rfl, hs4⟩ := hv4.shapeC
 have HB4 := Box.mk (below_trans HB3.out hv4.2)
 obtain ⟨s2, HS2e⟩ : ∃ s2, Box (extL s1 xffP peer = s2) := ⟨_, ⟨rfl⟩⟩
 rw [HS2e.out] at hs4 HZ2 HT2 hl2 ⊢
 have HF4 := Box.mk hs4.1
 clear hv4 hs4 HF3 HB3
 go_wp2_with fail
 refine (refVia_any s2 a4 c4 w4 HF4.out HZ2.out (by omega) HT2.out).mono ?_
 rintro e w5 ⟨v5, rfl, hv5⟩
 obtain ⟨s3, HS3⟩ : ∃ s3, Box (viaL s2 = s3) := ⟨_, ⟨rfl⟩⟩
 rw [HS3.out] at hv5
 have hl3 : s3.length ≤ 2000 := by rw [← HS3.out]; have := extL_len s2 viaP selfP; unfold viaL; omega
 have HA5 := Box.mk (AccF.lift HB4.out hv5)
 have HO5 := Box.mk (show OwnF (g + 2) w5 v5 s3 by have h1 := HA5.out.own; rw [HS2.out] at h1; exact h1)
 have HV5 := Box.mk (HV2.out.keep HA5.out.2)
 have hf3 := frozen_of_row w5 g 3 _ _ HV5.out.row
 have hc3 : w5.cell? ⟨g, 3, none⟩ = some (.slice a l.length cap) := by rw [cell_of_row _ _ _ _ _ _ HV5.out.row]; rfl
 obtain ⟨fa, fc, hV⟩ := sliceS HO5.out
 subst hV
 have HFE := Box.mk (show fwdL l fr (bl.length : Int) peer = s3 ++ (if fr then [lenF (bl.length : Int)] else []) by unfold fwdL; rw [HS1.out, HS2e.out, HS3.out])
 obtain ⟨W6, hW6⟩ : ∃ W6, W6 = w5.setCell ⟨g, 3, none⟩ (.slice fa s3.length fc) := ⟨_, rfl⟩
 have HV6 := Box.mk (show FwV g w #[.string m, .string t, .int .i64 1, .slice fa s3.length fc, .bool fr, .slice ba bl.length bc] W6 by rw [hW6]; exact HV5.out.set 3 _)
 have HO6 := Box.mk (show OwnF (g + 2) W6 (.slice fa s3.length fc) s3 by rw [hW6]; exact HO5.out.grown grownBy_setCell (fun k hk e => by have := (HO5.out.lt hk).1; have := Option.some.inj e; omega))
 have HW6 := Box.mk hW6
 clear hv5 HF4 HB4 hl2 hsl HT1 HT2 HZ2 HZ HT HS1 HS2e HS3 hW6 HV2 H0 HB2
 have hc4 : (w5.setCell ⟨g, 3, none⟩ (.slice fa s3.length fc)).cell? ⟨g, 4, none⟩ = some (.bool fr) := by rw [← HW6.out, cell_of_row _ _ _ _ _ _ HV6.out.row]; rfl
 go_upto_if 14 with fail
 rw [← HW6.out] at hc4 ⊢
 clear HW6 hf3 hc3 HA5 HO5 HV5 hc4
 go_cut [] (fun wx => Box (FwEnd g w m t fr (.slice ba bl.length bc) (fwdL l fr (bl.length : Int) peer) wx))
 case first =>
  cases fr with
  | false =>
   have HE := Box.mk (show FwEnd g w m t false (.slice ba bl.length bc) (fwdL l false (bl.length : Int) peer) W6 from ⟨_, HV6.out, by rw [HFE.out]; simpa using HO6.out⟩)
   go_wp2_with fail
   go_meet
   exact HE
  | true =>
   obtain ⟨F, HF⟩ : ∃ F, Box (F = s3 ++ [lenF (bl.length : Int)]) := ⟨_, ⟨rfl⟩⟩
   have HFE2 := Box.mk (show fwdL l true (bl.length : Int) peer = F by rw [HFE.out, HF.out]; rfl)
   clear HFE
   go_wp2_with fail
   refine wp_region_phases [8, 10] (fun p => match p with | 0 => [0, 1, 2, 3, 4, 5, 6, 7] | 1 => [9] | _ => [])
    (fun p => match p with
     | 0 => [.val (.pointer (some ⟨g, 3, none⟩)), .val (.slice fa s3.length fc), .val (.pointer (some ⟨g, 5, none⟩)), .val (.slice ba bl.length bc), .val (.int .i64 bl.length), .val (.string (lenF (bl.length : Int)).2), .val (.agg #[.string (lenF (bl.length : Int)).1, .string (lenF (bl.length : Int)).2]), .fsl (lenF (bl.length : Int)), .nope, .nope, .any]
     | 1 => [.any, .any, .any, .any, .any, .any, .any, .any, .ownG (g + 2) F, .val (.pointer (some ⟨g, 3, none⟩)), .any]
     | _ => [.any, .any, .any, .any, .any, .any, .any, .any, .any, .any, .any])
    (fun p => match p with
     | 0 => fun wx => FwV g w #[.string m, .string t, .int .i64 1, .slice fa s3.length fc, .bool true, .slice ba bl.length bc] wx ∧ OwnF (g + 2) wx (.slice fa s3.length fc) s3 ∧ g + 2 ≤ wx.heap.size
     | 1 => fun wx => FwV g w #[.string m, .string t, .int .i64 1, .slice fa s3.length fc, .bool true, .slice ba bl.length bc] wx
     | _ => fun wx => FwEnd g w m t true (.slice ba bl.length bc) F wx)
    (by kernel_rfl) (by kernel_rfl) (by kernel_rfl) (by kernel_rfl) (by kernel_rfl) (by kernel_rfl) ?_ ⟨HV6.out, HO6.out, (Array.getElem?_eq_some_iff.1 HV6.out.res).1⟩ ?_ ?_ ?_
   · intro p w1 w2 h hb
     match p, h with
     | 0, h => exact ⟨h.1.keep hb, h.2.1.keep hb, Nat.le_trans h.2.2 hb.size⟩
     | 1, h => exact FwV.keep h hb
     | (_ + 2), h =>
      obtain ⟨vF, h1, h2⟩ := h
      exact ⟨vF, h1.keep hb, h2.keep hb⟩
   · intro p hp
     match p, hp with
     | 0, _ =>
      refine ⟨?_, ?_, ?_, ?_, ?_, ?_, ?_, ?_, trivial⟩ <;> intro a1 w1 hv hf hd
      · exact ⟨wanted_none rfl, loc_fieldR rfl (hf.base 2 rfl) (by decide) rfl⟩
      · exact ⟨wanted_none rfl, loc_cell rfl (hd 0 rfl) (by rw [cell_of_row _ _ _ _ _ _ hv.1.row]; rfl) (agg_fields _) rfl⟩
      · exact ⟨wanted_none rfl, loc_fieldR rfl (hf.base 2 rfl) (by decide) rfl⟩
      · exact ⟨wanted_none rfl, loc_cell rfl (hd 2 rfl) (by rw [cell_of_row _ _ _ _ _ _ hv.1.row]; rfl) (Tryz.isAgg29 _) rfl⟩
      · exact ⟨wanted_none rfl, loc_len rfl (hd 3 rfl) rfl⟩
      · refine ⟨wanted_none rfl, loc_call rfl (by kernel_rfl) ?_⟩
        show Calls _ _ #[a1.eval (.tmp 19)] w1 _
        rw [show a1.eval (.tmp 19) = .int .i64 bl.length from hd 4 rfl]
        refine (refDecimal_any (bl.length : Int) w1 (by omega) (by omega)).mono ?_
        rintro e w' ⟨rfl, hb'⟩
        exact ⟨_, rfl, hb', rfl⟩
      · exact ⟨wanted_none rfl, loc_buildF (b := (lenF (bl.length : Int)).1) (c := (lenF (bl.length : Int)).2) rfl rfl (hd 5 rfl) rfl⟩
      · exact ⟨wanted_none rfl, loc_slice1F (f := lenF (bl.length : Int)) rfl (hd 6 rfl) fun w' h0 h1 => ⟨_, _, rfl, h0, h1⟩⟩
     | 1, _ =>
      refine ⟨?_, trivial⟩
      intro a1 w1 hv hf hd
      exact ⟨wanted_none rfl, loc_fieldR rfl (hf.base 2 rfl) (by decide) rfl⟩
     | 2, _ => exact trivial
   · intro p hp
     match p, hp with
     | 0, _ =>
      intro a2 w2 hv hf hd
      have e16 : a2.eval (.tmp 16) = .slice fa s3.length fc := hd 1 rfl
      obtain ⟨b, cb, e22, h0, h1⟩ := hd 7 rfl
      refine ⟨wanted_none rfl, wp_append_oneF rfl (by show OwnF (g + 2) w2 (a2.eval (.tmp 16)) s3; rw [e16]; exact hv.2.1) e22 h0 h1 (by omega) hv.2.2 fun v' w3 hown hgrow => ?_⟩
      rw [show a2.eval (.tmp 16) = .slice fa s3.length fc from e16] at hgrow
      exact ⟨v', rfl, hv.1.app hgrow (fun k hk => (hv.2.1.lt hk).1), (by show OwnF (g + 2) w3 v' F; rw [HF.out]; exact hown),
       ⟨.inr fun _ _ _ => trivial, .inr fun _ _ _ => trivial, .inr fun _ _ _ => trivial, .inr fun _ _ _ => trivial, .inr fun _ _ _ => trivial, .inr fun _ _ _ => trivial, .inr fun _ _ _ => trivial, .inr fun _ _ _ => trivial, .inl rfl, .inr fun _ _ h => h.elim, .inr fun _ _ _ => trivial, trivial⟩⟩
     | 1, _ =>
      intro a2 w2 hv hf hd
      have hown : OwnF (g + 2) w2 (a2.eval (.tmp 23)) F := hd 8 rfl
      obtain ⟨sa, sc, e23⟩ := sliceS hown
      have e24 : a2.eval (.tmp 24) = .pointer (some ⟨g, 3, none⟩) := hd 9 rfl
      refine ⟨wanted_none rfl, wp_store_slice (u := .slice fa s3.length fc) rfl e24 e23 (by kernel_rfl) (by rw [cell_of_row _ _ _ _ _ _ hv.row]; rfl) (frozen_of_row w2 g 3 _ _ hv.row) ?_⟩
      rw [e23] at hown
      exact ⟨undef, rfl, ⟨_, hv.set 3 _, hown.grown grownBy_setCell (fun k hk e => by have := (hown.lt hk).1; have := Option.some.inj e; omega)⟩, trivial,
       ⟨.inr fun _ _ _ => trivial, .inr fun _ _ _ => trivial, .inr fun _ _ _ => trivial, .inr fun _ _ _ => trivial, .inr fun _ _ _ => trivial, .inr fun _ _ _ => trivial, .inr fun _ _ _ => trivial, .inr fun _ _ _ => trivial, .inr fun _ _ _ => trivial, .inr fun _ _ _ => trivial, .inl rfl, trivial⟩⟩
   · intro a2 w2 hv hf hh
     clear hh
     rw [fr_putAll hf]
     clear hf
     simp only [putAll]
     generalize a2.eval (.tmp 15) = u15
     generalize a2.eval (.tmp 16) = u16
     generalize a2.eval (.tmp 17) = u17
     generalize a2.eval (.tmp 18) = u18
     generalize a2.eval (.tmp 19) = u19
     generalize a2.eval (.tmp 20) = u20
     generalize a2.eval (.tmp 21) = u21
     generalize a2.eval (.tmp 22) = u22
     generalize a2.eval (.tmp 23) = u23
     generalize a2.eval (.tmp 24) = u24
     clear a2
     simp only [Act.put, List.setIfInBounds_toArray, List.set_cons_succ, List.set_cons_zero]
     rename (∀ (a' : Act) (w' : World), Met _ a' w' → _) => hM
     refine hM _ _ ?_
     go_meet
     rw [HFE2.out]
     exact ⟨hv⟩
 case rest =>
  obtain ⟨vF, hv, ho⟩ := hcut.out
  have HV := Box.mk hv
  have HO := Box.mk ho
  clear hcut hv ho HV6 HO6 HFE
  obtain ⟨sa, sc, hV⟩ := sliceS HO.out
  subst hV
  obtain ⟨cs, hcs⟩ : ∃ cs : Array Value, cs = #[.string m, .string t, .int .i64 1, .slice sa (fwdL l fr (bl.length : Int) peer).length sc, .bool fr, .slice ba bl.length bc] := ⟨_, rfl⟩
  rw [← hcs] at HV
  have h6 : cs.size = 6 := by rw [hcs]; rfl
  have HSZ := Box.mk (show (Tryz.prog.info? 31).map (·.size) = some cs.size by rw [h6]; exact sizeR)
  have h1 : cs.all (·.oneCell') = true := by rw [hcs]; simp [Value.oneCell']
  have HB := Box.mk (below_setRow HV.out.bel (Nat.le_succ g) cs)
  have HCS := Box.mk hcs
  clear hcs
  go_wp2_with (first
   | (refine wpList_load_row rfl 31 _ rfl g rfl 31 cs (0, 0) _ HV.out.row Tryz.underlying31 rfl HSZ.out ?_)
   | (refine wpList_store_row rfl 31 _ _ rfl (g + 1) cs rfl rfl 31 _ HV.out.res HSZ.out h6.symm h1 ?_))
  (try simp only [Exit.inBlock, Exit.then])
  refine ret_rowQ rfl rfl rfl (setRow_heap _ _ _ _ _ _ HV.out.res) Tryz.underlying31 rfl HSZ.out ?_
  refine ⟨_, ba, bc, by rw [HCS.out], ?_, ?_, by rw [HG.out]; exact HB.out⟩
  · rw [HG.out]
    exact (HO.out.grown (grownBy_setRowF _ _ _) (fun k hk e => by have := (HO.out.lt hk).1; have := Option.some.inj e; omega)).mono (by omega)
  · exact HI0.out.keep (by rw [HG.out]; exact HB.out)
theorem OwnF.in {B : Nat} {w : World} {a : Option Addr} {l : List Fld} {n c : Nat} (h : OwnF B w (.slice a n c) l) : FldsIn w a l := by
 obtain ⟨a', c', e, h1, _⟩ := h.shape
 injection e with e1
 subst e1
 exact h1.1
section
variable {Q : Exit → Act → World → Prop} {act : Act} {w : World} {o : Oper} {s : Spec}
theorem eq_frame (k n : Int) (w : World) : (Op.equalIn Op.maxDepth 40 (.agg #[.int .i64 k, .int .i64 n]) (.agg #[.int .i64 k, .int .i64 n])).run Tryz.prog w = .ok true w := by
 rw [show Op.maxDepth = 9999 + 1 from rfl, run_equalIn_struct w 9999 _ _ _ (by kernel_rfl) (by kernel_rfl)]
 go_simp
end
section
variable (b : Option Addr) (nb cb : Nat) (lr : List Fld) (ar : Option Addr) (cr : Nat) (method : ByteArray) (status minor : Int) (wild : Bool) (mm : Int) (w : World)
end
end Go.Proofs.YtfghgenboahkkaaGreatDoor
namespace Go.Proofs.YtfghgenboahkkaaGreatDoor
open Go.RowKit
section
variable {Q : Exit → Act → World → Prop} {act : Act} {w : World} {o : Oper} {s : Spec} {K : Act → World → Prop}
theorem wp_append_ownFs {x y : Operand} (ho : o.op = .call { callee := .builtin .append, args := #[x, y], argTypes := #[23, 23] }) {B : Nat} {l r : List Fld} {a : Option Addr} {c : Nat} (hx : OwnF B w (act.eval x) l)
  (hy : act.eval y = .slice a r.length c) (hr : FldsC w a r c) (hn : l.length + r.length ≤ 4398046511104) (hB : B ≤ w.heap.size)
  (h : ∀ v' w', OwnF B w' v' (l ++ r) → w.grownBy w' (act.eval x).ownBlock → K (act.put o.dst v') w') : o.wp Tryz.prog act w K Q := by
 obtain ⟨i0, hi, hz0, hz1, hz2⟩ := info_parts Tryz.info69
 have fin : ∀ v w', (Builtin.append_ #[23, 23] o.type #[act.eval x, .slice a r.length c]).run Tryz.prog w = .ok v w' → OwnF B w' v (l ++ r) → w.grownBy w' (act.eval x).ownBlock → o.wp Tryz.prog act w K Q := fun v w' h1 h2 h3 => by
  unfold Oper.wp execOp
  simp only [ho, resolve, invoke, builtin, Sem.run_bind, Sem.run_pure, Result.andThen_ok, List.map_toArray, List.map_cons, List.map_nil, hy, h1]
  exact h v w' h2 h3
 cases a with
 | none =>
  obtain ⟨rfl, rfl⟩ := hr.2 rfl
  refine fin (act.eval x) w (run_append_owned_none (P := Tryz.prog) (w := w) B 23 o.type 69 i0 2 Tryz.underlying23 hi (act.eval x) l.length (cellsF l) hx) ?_ ⟨rfl, rfl, rfl, Nat.le_refl _, fun _ _ _ => rfl⟩
  rw [List.append_nil]; exact hx
 | some ad =>
  obtain ⟨v', w', hr2, h2, h3, _, _⟩ := run_append_own_at (P := Tryz.prog) w B 23 o.type 69 i0 _ 2 32 Tryz.underlying23 hi hz0 hz1 hz2 rfl (by decide) (act.eval x) l.length (cellsF l) hx ad r.length c (cellsF r) (cellsF_len r) (hr.1.cells) (cellsF_one r) (by unfold maxLen; omega) (by omega) hB
  refine fin v' w' hr2 ?_ h3
  unfold OwnF
  rw [List.length_append, cellsF_app]; exact h2
end
end Go.Proofs.YtfghgenboahkkaaGreatDoor
namespace Go.Proofs.YtfghgenboahkkaaGreatDoor
open Go.RowKit
theorem cellTwo0 (w : World) (cs ds : Array Value) (t s : TypeId) (j : Nat) : ((w.alloc (.cells cs t (0, 0))).alloc (.cells ds s (0, 0))).cell? ⟨w.heap.size, j, none⟩ = cs[j]? := by
 have h1 : (w.alloc (.cells cs t (0, 0))).heap[w.heap.size]? = some (.cells cs t (0, 0)) := heap_alloc_new _ _
 have h2 := (below_oneF (w.alloc (.cells cs t (0, 0))) (.cells ds s (0, 0))).block w.heap.size (by rw [World.size_alloc]; omega)
 exact cell_of_row _ _ _ _ _ _ (h2.trans h1)
set_option maxRecDepth 100000 in
set_option maxHeartbeats 2000000 in
theorem sameReq_any (m t : ByteArray) (z : Int) (fr : Bool) (x : List Fld) (l : List UInt8) (a b p q : Option Addr) (ca cb cp cq : Nat) (w : World) (h1 : FldsIn w a x) (h2 : FldsIn w b x) (h3 : IsBytes w p l cp) (h4 : IsBytes w q l cq) (hx : x.length ≤ 2000000) :
  Calls Tryz.prog 15 #[.agg #[.string m, .string t, .int .i64 z, .slice a x.length ca, .bool fr, .slice p l.length cp], .agg #[.string m, .string t, .int .i64 z, .slice b x.length cb, .bool fr, .slice q l.length cq]] w fun e w' => e = .returned (.bool true) ∧ Below w.heap.size w w' := by
 have HBW := Box.mk (below_twoF (below_oneF w (.cells #[.string m, .string t, .int .i64 z, .slice a x.length ca, .bool fr, .slice p l.length cp] 31)) (.cells #[.string m, .string t, .int .i64 z, .slice b x.length cb, .bool fr, .slice q l.length cq] 31))
 have hd5 := cellTwo0 w #[.string m, .string t, .int .i64 z, .slice a x.length ca, .bool fr, .slice p l.length cp] #[.string m, .string t, .int .i64 z, .slice b x.length cb, .bool fr, .slice q l.length cq] 31 31 5
 have he5 := new_cellF2 w (.cells #[.string m, .string t, .int .i64 z, .slice a x.length ca, .bool fr, .slice p l.length cp] 31) #[.string m, .string t, .int .i64 z, .slice b x.length cb, .bool fr, .slice q l.length cq] 31 5
 have HC := Box.mk (And.intro hd5 he5)
 have H := Box.mk (And.intro (h1.keep HBW.out) (And.intro (h2.keep HBW.out) (And.intro (h3.keep HBW.out) (h4.keep HBW.out))))
 clear h1 h2 h3 h4 hd5 he5
 have hfr : (fr == fr) = true := by simp
 go_enter Tryz.func15, Tryz.ntmps15
 go_wp2_with fail
 refine (same_true x a b ca cb _ H.out.1 H.out.2.1 hx).mono ?_
 rintro e w1 ⟨rfl, hb1⟩
 have hc5 := below_cell hb1 (show _ = some (Value.slice p l.length cp) from HC.out.1)
 have he5 := below_cell hb1 (show _ = some (Value.slice q l.length cq) from HC.out.2)
 have hcv1 := conv_bytes (H.out.2.2.1.keep hb1)
 have hcv2 := conv_bytes (H.out.2.2.2.keep hb1)
 have HB := Box.mk (below_trans HBW.out hb1)
 clear hb1 H HC HBW
 generalize (⟨l.toArray⟩ : ByteArray) = bs at *
 have hself : (bs.toList == bs.toList) = true := by simp
 go_wp2_with fail
 go_ret
 exact ⟨rfl, HB.out⟩
theorem Own.bytesL {B : Nat} {w : World} {v : Value} {l : List UInt8} (h : Own B w v l) : ∃ a c, v = .slice a l.length c ∧ IsBytes w a l c := h.val
theorem lawReq_any (b : Option Addr) (n c : Nat) (w : World) (hi : IntsF w b n) (hn : n ≤ maxLen) :
  Calls Tryz.prog 14 #[.pointer (some ⟨w.heap.size, 0, none⟩)] (w.alloc (.cells #[.slice b n c, .int .i64 0] 34)) fun e w' =>
   ∃ m t z sF x cF fr sB l cB, e = .returned (.agg #[.string m, .string t, .int .i64 z, .slice sF (List.length x) cF, .bool fr, .slice sB (List.length l) cB]) ∧ tokS m = true ∧ targetS t = true ∧ m.size ≤ 1000 ∧ t.size ≤ 1000 ∧ (z = 0 ∨ z = 1) ∧ FldsC w' sF x cF ∧ RF3 x ∧ IsBytes w' sB l cB ∧ l.length ≤ 30 ∧ Below w.heap.size w w' := by
 refine (srcReq_any w.heap.size b n c _ (src_box hi hn)).mono ?_
 rintro e w' ⟨m, t, z, vF, x, fr, vB, l, rfl, hm, ht, hz, hF, hB, hR, hl, _, _, hg⟩
 obtain ⟨sF, cF, rfl, h1, _⟩ := hF.shape
 obtain ⟨sB, cB, rfl, h2⟩ := hB.bytesL
 exact ⟨m, t, z, sF, x, cF, fr, sB, l, cB, rfl, (meth_at hm).1, (targ_at ht).1, (meth_at hm).2, (targ_at ht).2, hz, h1, hR, h2, hl, below_box (below_oneF w _) hg⟩
section
variable (line : ByteArray) (b : Option Addr) (n cb : Nat) (at_ : Int) (c : UInt8) (wild : Int) (mm : Int) (w : World)
end
end Go.Proofs.YtfghgenboahkkaaGreatDoor
namespace Go.Proofs.YtfghgenboahkkaaGreatDoor
open Go.RowKit
structure HvV (g : Nat) (w : World) (cs : Array Value) (W : World) : Prop where
 row : W.heap[g + 1]? = some (.cells cs 31 (0, 0))
 bel : Below g w W
theorem HvV.keep {g : Nat} {w W W' : World} {cs : Array Value} (h : HvV g w cs W) (hb : Below W.heap.size W W') : HvV g w cs W' :=
 ⟨by rw [hb.block _ (Array.getElem?_eq_some_iff.1 h.row).1]; exact h.row, h.bel.trans (hb.mono (by have := (Array.getElem?_eq_some_iff.1 h.row).1; omega))⟩
theorem HvV.app {g : Nat} {w W W' : World} {cs : Array Value} {row : Option Nat} (h : HvV g w cs W) (hg : W.grownBy W' row) (hr : ∀ k, row = some k → g + 2 ≤ k) : HvV g w cs W' :=
 ⟨(hg.block _ (Array.getElem?_eq_some_iff.1 h.row).1 (fun e => by have := hr _ e.symm; omega)).trans h.row, h.bel.grown hg (by have := (Array.getElem?_eq_some_iff.1 h.row).1; omega) (fun k e => by have := hr _ e; omega)⟩
theorem HvV.set {g : Nat} {w W : World} {cs : Array Value} (h : HvV g w cs W) (i : Nat) (v : Value) : HvV g w (cs.setIfInBounds i v) (W.setCell ⟨g + 1, i, none⟩ v) :=
 ⟨heap_setCell_same W (g + 1) i cs 31 v h.row, h.bel.setCell (Nat.le_succ g) v⟩
def HvEnd (g : Nat) (w : World) (W : World) : Prop :=
 ∃ m t z a x c fr b l d, HvV g w #[.string m, .string t, .int .i64 z, .slice a (List.length x) c, .bool fr, .slice b (List.length l) d] W ∧ FldsIn W a x ∧ SmallF x ∧ IsBytes W b l d ∧ l.length ≤ 4000000000
def Spec.flds (x : List Fld → Prop) : Spec := ⟨fun v w => ∃ y a c, v = .slice a (List.length y) c ∧ FldsC w a y c ∧ x y, fun _ _ _ h hb => by
 obtain ⟨y, a, c, h1, h2, h3⟩ := h
 exact ⟨y, a, c, h1, h2.keep hb, h3⟩⟩
def Spec.ownP (B : Nat) (P : List Fld → Prop) : Spec := ⟨fun v w => ∃ y, OwnF B w v y ∧ P y, fun _ _ _ h hb => by
 obtain ⟨y, h1, h2⟩ := h
 exact ⟨y, h1.keep hb, h2⟩⟩
theorem SmallF.app {x y : List Fld} (h : SmallF x) (k : SmallF y) : SmallF (x ++ y) := fun f hf => by
 rcases List.mem_append.1 hf with hf | hf
 · exact h f hf
 · exact k f hf
theorem rf3_small {x : List Fld} (h : RF3 x) : SmallF x := fun f hf => by
 obtain ⟨_, h1, h2⟩ := h.made.1 f hf
 exact ⟨by omega, by omega⟩
def Spec.fwdd (m t : ByteArray) (fr : Bool) (l : List UInt8) (F : List Fld) : Spec :=
 ⟨fun v w => ∃ a c b d, v = .agg #[.string m, .string t, .int .i64 1, .slice a F.length c, .bool fr, .slice b l.length d] ∧ FldsIn w a F ∧ IsBytes w b l d, fun _ _ _ h hb => by
  obtain ⟨a, c, b, d, h1, h2, h3⟩ := h
  exact ⟨a, c, b, d, h1, h2.keep hb, h3.keep hb⟩⟩
theorem RetFwd.spec {w w' : World} {m t : ByteArray} {fr : Bool} {l : List UInt8} {F : List Fld} {e : Ending} (h : RetFwd w m t fr l F e w') : ∃ v, e = .returned v ∧ Below w.heap.size w w' ∧ (Spec.fwdd m t fr l F).p v w' := by
 obtain ⟨v, b, c, he, ho, hi, hb⟩ := h
 obtain ⟨a, d, rfl, hf, _⟩ := ho.shape
 exact ⟨_, he, hb, a, d, b, c, rfl, hf.1, hi⟩
theorem fwdL_len {l : List Fld} (fr : Bool) (k : Int) (peer : ByteArray) : (fwdL l fr k peer).length ≤ l.length + 3 := by
 have h1 := stripL_len l
 have h2 := extL_len (stripL l) xffP peer
 have h3 := extL_len (extL (stripL l) xffP peer) viaP selfP
 unfold fwdL viaL
 rw [List.length_append]
 have : (if fr = true then [lenF k] else []).length ≤ 1 := by cases fr <;> simp
 omega
theorem run_loadReqH (w : World) (g : Nat) {u0 u1 u2 u3 u4 u5 : Value} (h : w.heap[g]? = some (.cells #[u0, u1, u2, u3, u4, u5] 31 (0, 0))) :
  (Instr.loadAt 31 (.pointer (some ⟨g, 0, none⟩))).run Tryz.prog w = .ok (.agg #[u0, u1, u2, u3, u4, u5]) w := by
 simp [Instr.loadAt, Instr.sureAddr, run_loadVar_row w g _ 31 _ _ _ h Tryz.underlying31 rfl sizeR]
theorem own_apart {B B' : Nat} {w : World} {v u : Value} {x : List Fld} {l : List UInt8} (h : OwnF B w v x) (k : Own B' w u l) {q : Nat} (hk : u.ownBlock = some q) : some q ≠ v.ownBlock := fun e => by
 rcases h.2 with ⟨h1, _⟩ | ⟨g1, cap, cur, h1, _, h3, _⟩
 · rw [h1] at e; cases e
 · rw [h1] at e
   obtain rfl : q = g1 := Option.some.inj e
   rcases k.2 with ⟨k1, _⟩ | ⟨g2, cap2, cur2, k1, _, k3, _⟩
   · rw [k1] at hk; cases hk
   · rw [k1] at hk
     obtain rfl : g2 = q := Option.some.inj hk
     rw [h3] at k3
     have := Option.some.inj k3
     injection this with _ h4
     exact absurd h4 (by decide)
set_option maxRecDepth 100000 in
set_option maxHeartbeats 4000000 in
theorem hopForward_any (b0 : Option Addr) (n c0 : Nat) (m t peer : ByteArray) (z : Int) (l : List Fld) (a : Option Addr) (cap : Nat) (fr : Bool) (bl : List UInt8) (ba : Option Addr) (bc : Nat) (wild : Bool) (w : World) (mm : Int)
  (hi : IntsF w b0 n) (hn : n ≤ maxLen) (h : FldsIn w a l) (hz : SmallF l) (hp : peer.size ≤ 4000000000) (hm : MaxOk w mm) (ht : Tabs w) (hb : IsBytes w ba bl bc) (hbl : bl.length ≤ 4000000000) :
  Calls Tryz.prog 4 #[.slice b0 n c0, .agg #[.string m, .string t, .int .i64 z, .slice a l.length cap, .bool fr, .slice ba bl.length bc], .string peer, .bool wild] w fun e w' => e = .returned (.bool true) ∧ Below w.heap.size w w' := by
 obtain ⟨W2, hW2⟩ : ∃ W2, W2 = (w.alloc (.cells #[.string m, .string t, .int .i64 z, .slice a l.length cap, .bool fr, .slice ba bl.length bc] 31)).alloc (.cells #[.string m, .string t, .int .i64 z, .slice a l.length cap, .bool fr, .slice ba bl.length bc] 31) := ⟨_, rfl⟩
 have HV2 := Box.mk (show HvV w.heap.size w #[.string m, .string t, .int .i64 z, .slice a l.length cap, .bool fr, .slice ba bl.length bc] W2 from ⟨by
  have h1 := heap_alloc_new (w.alloc (.cells #[.string m, .string t, .int .i64 z, .slice a l.length cap, .bool fr, .slice ba bl.length bc] 31)) (.cells #[.string m, .string t, .int .i64 z, .slice a l.length cap, .bool fr, .slice ba bl.length bc] 31)
  rw [World.size_alloc] at h1
  rw [hW2]; exact h1, by rw [hW2]; exact below_twoF (below_oneF w _) _⟩)
 have HS2 := Box.mk (show W2.heap.size = w.heap.size + 2 by rw [hW2, World.size_alloc, World.size_alloc])
 have HE2 := Box.mk (show HvEnd w.heap.size w W2 from ⟨m, t, z, a, l, cap, fr, ba, bl, bc, HV2.out, h.keep HV2.out.bel, hz, hb.keep HV2.out.bel, hbl⟩)
 have HI := Box.mk (And.intro (hi.keep HV2.out.bel) hn)
 have HM := Box.mk (And.intro hm ht)
 have HLOW := Box.mk (show ∀ y, b0 = some y → 0 < n → y.block < w.heap.size from fun y e h0 => by
  obtain ⟨x, z, e1, h1, _⟩ := hi 0 h0
  rw [e] at e1
  obtain rfl := Option.some.inj e1
  have := lt_cell h1
  rwa [add_blockF] at this)
 have HW2 := Box.mk hW2
 clear hi hn h hz hm ht hb hbl hW2
 go_enter Tryz.func4, Tryz.ntmps4
 go_upto_if 12 with fail
 rw [← HW2.out]
 clear HW2
 generalize hg : w.heap.size = g at *
 have HG := Box.mk hg
 clear hg
 go_cut [] (fun wx => Box (HvEnd g w wx))
 case first =>
  cases wild with
  | true =>
   go_wp2_with fail
   go_meet
   exact HE2
  | false =>
   have HSB := Box.mk (src_box (c := c0) HI.out.1 HI.out.2)
   have HB3 := Box.mk (below_oneF W2 (.cells #[.slice b0 n c0, .int .i64 0] 34))
   go_wp2_with fail
   generalize hW3 : W2.alloc (.cells #[.slice b0 n c0, .int .i64 0] 34) = W3 at *
   have HS3 := Box.mk (show W3.heap.size = g + 3 by rw [← hW3, World.size_alloc, HS2.out])
   clear hW3
   refine (srcReq_any W2.heap.size b0 n c0 W3 HSB.out).mono ?_
   rintro e w4 ⟨m1, t1, z1, vF, x, fr1, vB, l1, rfl, _, _, _, hF, hB, hR, hl1, _, _, hg4⟩
   obtain ⟨sF, cF, hvf⟩ := sliceS hF
   obtain ⟨sB, cB, hvb, _⟩ := hB.bytesL
   subst hvf hvb
   have hbw := below_trans HB3.out (Below.refl _ _)
   have HB4 := Box.mk (show Below W2.heap.size W2 w4 from HB3.out.grown hg4 HB3.out.size (fun k e => by have := Option.some.inj e; omega))
   have HV4 := Box.mk (HV2.out.keep HB4.out)
   have HX4 := Box.mk (And.intro hF (And.intro hB (And.intro (rf3_small hR) (And.intro hR.made.2 hl1))))
   obtain ⟨cs, hcs⟩ : ∃ cs : Array Value, cs = #[.string m1, .string t1, .int .i64 z1, .slice sF x.length cF, .bool fr1, .slice sB l1.length cB] := ⟨_, rfl⟩
   rw [← hcs]
   have h6 : cs.size = 6 := by rw [hcs]; rfl
   have HSZ := Box.mk (show (Tryz.prog.info? 31).map (·.size) = some cs.size by rw [h6]; exact sizeR)
   have h1 : cs.all (·.oneCell') = true := by rw [hcs]; simp [Value.oneCell']
   have HCS := Box.mk hcs
   have HI4 := Box.mk (And.intro (HI.out.1.keep HB4.out) HI.out.2)
   clear hF hB hR hl1 hg4 hbw HSB HB3 HE2 HI hcs
   go_wp2_with (refine wpList_store_row rfl 31 _ _ rfl (g + 1) cs rfl rfl 31 _ HV4.out.row HSZ.out h6.symm h1 ?_)
   have HV5 := Box.mk (show HvV g w #[.string m1, .string t1, .int .i64 z1, .slice sF x.length cF, .bool fr1, .slice sB l1.length cB] (w4.setRow (g + 1) cs) by
    rw [← HCS.out]; exact ⟨setRow_heap _ _ _ _ _ _ HV4.out.row, below_setRow HV4.out.bel (Nat.le_succ g) _⟩)
   have hsr := grownBy_setRowF w4 (g + 1) cs
   have HX5 := Box.mk (show OwnF (g + 2) (w4.setRow (g + 1) cs) (.slice sF x.length cF) x ∧ Own (g + 2) (w4.setRow (g + 1) cs) (.slice sB l1.length cB) l1 ∧ IntsF (w4.setRow (g + 1) cs) b0 n ∧ g + 2 ≤ (w4.setRow (g + 1) cs).heap.size from by
    have e3 := HS3.out
    have e4 := HX4.out.1
    have e5 := HX4.out.2.1
    rw [e3] at e4 e5
    exact ⟨(e4.grown hsr (fun k hk e => by have := (e4.lt hk).1; have := Option.some.inj e; omega)).mono (by omega), (e5.grown hsr (fun k hk e => by have := (e5.lt hk).1; have := Option.some.inj e; omega)).mono (by omega),
     HI4.out.1.grown hsr (fun y e h0 e2 => by have := HLOW.out y e h0; have := Option.some.inj e2; omega), (Array.getElem?_eq_some_iff.1 HV5.out.row).1⟩)
   have HSX := Box.mk HX4.out.2.2
   generalize w4.setRow (g + 1) cs = W5 at *
   have hx6 := HSX.out.2.1
   clear HX4 HV4 HCS HSZ h1 h6 HB4 HS3 HV2 HS2 hsr
   refine wp_region_phases [4, 6] (fun p => match p with | 0 => [0, 1, 2, 3] | 1 => [5] | _ => [])
    (fun p => match p with
     | 0 => [.val (.pointer (some ⟨g + 1, 3, none⟩)), .val (.slice sF x.length cF), .val (.slice b0 n c0), .flds (fun y => SmallF y ∧ y.length ≤ 10), .nope, .nope, .any]
     | 1 => [.any, .any, .any, .any, .ownP (g + 2) SmallF, .val (.pointer (some ⟨g + 1, 3, none⟩)), .any]
     | _ => [.any, .any, .any, .any, .any, .any, .any])
    (fun p => match p with
     | 0 => fun wx => HvV g w #[.string m1, .string t1, .int .i64 z1, .slice sF x.length cF, .bool fr1, .slice sB l1.length cB] wx ∧ OwnF (g + 2) wx (.slice sF x.length cF) x ∧ Own (g + 2) wx (.slice sB l1.length cB) l1 ∧ IntsF wx b0 n ∧ g + 2 ≤ wx.heap.size
     | 1 => fun wx => HvV g w #[.string m1, .string t1, .int .i64 z1, .slice sF x.length cF, .bool fr1, .slice sB l1.length cB] wx ∧ Own (g + 2) wx (.slice sB l1.length cB) l1
     | _ => fun wx => HvEnd g w wx)
    (by kernel_rfl) (by kernel_rfl) (by kernel_rfl) (by kernel_rfl) (by kernel_rfl) (by kernel_rfl) ?_ ⟨HV5.out, HX5.out⟩ ?_ ?_ ?_
   · intro p w1 w2 h hb
     match p, h with
     | 0, h => exact ⟨h.1.keep hb, h.2.1.keep hb, h.2.2.1.keep hb, h.2.2.2.1.keep hb, Nat.le_trans h.2.2.2.2 hb.size⟩
     | 1, h => exact ⟨h.1.keep hb, h.2.keep hb⟩
     | (_ + 2), h =>
      obtain ⟨m, t, z, a, x, c, fr, b, l, d, h1, h2, h3, h4, h5⟩ := h
      exact ⟨m, t, z, a, x, c, fr, b, l, d, h1.keep hb, h2.keep hb, h3, h4.keep hb, h5⟩
   · intro p hp
     match p, hp with
     | 0, _ =>
      refine ⟨?_, ?_, ?_, ?_, trivial⟩ <;> intro a1 w1 hv hf hd
      · exact ⟨wanted_none rfl, loc_fieldR rfl (hf.base 9 rfl) (by decide) rfl⟩
      · exact ⟨wanted_none rfl, loc_cell rfl (hd 0 rfl) (by rw [cell_of_row _ _ _ _ _ _ hv.1.row]; rfl) (agg_fields _) rfl⟩
      · exact ⟨wanted_none rfl, loc_move rfl (hf.base 0 rfl)⟩
      · refine ⟨wanted_none rfl, loc_call rfl (by kernel_rfl) ?_⟩
        show Calls _ _ #[a1.eval (.tmp 19)] w1 _
        rw [show a1.eval (.tmp 19) = .slice b0 n c0 from hd 2 rfl]
        refine (made_any b0 n c0 w1 hv.2.2.2.1 HI4.out.2).mono ?_
        rintro e w' ⟨v, y, rfl, ho, hl, hs, hb'⟩
        obtain ⟨ya, yc, rfl, hyf, _⟩ := ho.shape
        exact ⟨_, rfl, hb', y, ya, yc, rfl, hyf, hs, hl⟩
     | 1, _ =>
      refine ⟨?_, trivial⟩
      intro a1 w1 hv hf hd
      exact ⟨wanted_none rfl, loc_fieldR rfl (hf.base 9 rfl) (by decide) rfl⟩
     | 2, _ => exact trivial
   · intro p hp
     match p, hp with
     | 0, _ =>
      intro a2 w2 hv hf hd
      have e18 : a2.eval (.tmp 18) = .slice sF x.length cF := hd 1 rfl
      obtain ⟨y, ya, yc, e20, hyf, hys, hyl⟩ := hd 3 rfl
      refine ⟨wanted_none rfl, wp_append_ownFs rfl (by show OwnF (g + 2) w2 (a2.eval (.tmp 18)) x; rw [e18]; exact hv.2.1) e20 hyf (by omega) hv.2.2.2.2 fun v' w3 hown hgrow => ?_⟩
      rw [show a2.eval (.tmp 18) = .slice sF x.length cF from e18] at hgrow
      exact ⟨v', rfl, ⟨hv.1.app hgrow (fun k hk => (hv.2.1.lt hk).1), hv.2.2.1.grown hgrow (fun k hk => own_apart hv.2.1 hv.2.2.1 hk)⟩, ⟨x ++ y, hown, HSX.out.1.app hys⟩,
       ⟨.inr fun _ _ _ => trivial, .inr fun _ _ _ => trivial, .inr fun _ _ _ => trivial, .inr fun _ _ _ => trivial, .inl rfl, .inr fun _ _ h => h.elim, .inr fun _ _ _ => trivial, trivial⟩⟩
     | 1, _ =>
      intro a2 w2 hv hf hd
      obtain ⟨y, hown, hys⟩ := hd 4 rfl
      obtain ⟨sa, sc, e21⟩ := sliceS hown
      have e22 : a2.eval (.tmp 22) = .pointer (some ⟨g + 1, 3, none⟩) := hd 5 rfl
      refine ⟨wanted_none rfl, wp_store_slice (u := .slice sF x.length cF) rfl e22 e21 (by kernel_rfl) (by rw [cell_of_row _ _ _ _ _ _ hv.1.row]; rfl) (frozen_of_row w2 (g + 1) 3 _ _ hv.1.row) ?_⟩
      rw [show a2.eval (.tmp 21) = .slice sa y.length sc from e21] at hown
      have ho2 : OwnF (g + 2) (w2.setCell ⟨g + 1, 3, none⟩ (.slice sa y.length sc)) (.slice sa y.length sc) y := hown.grown grownBy_setCell (fun k hk e => by have := (hown.lt hk).1; have := Option.some.inj e; omega)
      have hb2 : Own (g + 2) (w2.setCell ⟨g + 1, 3, none⟩ (.slice sa y.length sc)) (.slice sB l1.length cB) l1 := hv.2.set (by omega)
      obtain ⟨ya, yc, hve, hyf, _⟩ := ho2.shape
      obtain ⟨ba2, bc2, hbe, hbf⟩ := hb2.bytesL
      cases hve
      cases hbe
      exact ⟨undef, rfl, ⟨m1, t1, z1, _, y, _, fr1, _, l1, _, hv.1.set 3 _, hyf.1, hys, hbf, (by have := HSX.out.2.2; omega)⟩, trivial,
       ⟨.inr fun _ _ _ => trivial, .inr fun _ _ _ => trivial, .inr fun _ _ _ => trivial, .inr fun _ _ _ => trivial, .inr fun _ _ _ => trivial, .inr fun _ _ _ => trivial, .inl rfl, trivial⟩⟩
   · intro a2 w2 hv hf hh
     clear hh
     rw [fr_putAll hf]
     clear hf
     simp only [putAll]
     generalize a2.eval (.tmp 17) = u17
     generalize a2.eval (.tmp 18) = u18
     generalize a2.eval (.tmp 19) = u19
     generalize a2.eval (.tmp 20) = u20
     generalize a2.eval (.tmp 21) = u21
     generalize a2.eval (.tmp 22) = u22
     clear a2
     simp only [Act.put, List.setIfInBounds_toArray, List.set_cons_succ, List.set_cons_zero]
     rename (∀ (a' : Act) (w' : World), Met _ a' w' → _) => hM
     refine hM _ _ ?_
     go_meet
     exact ⟨hv⟩
 case rest =>
  obtain ⟨m1, t1, z1, ax, x, cx, fr1, pb, l1, d1, hv, hf, hsm, hbb, hl1⟩ := hcut.out
  have HV := Box.mk hv
  have HX := Box.mk (And.intro hf (And.intro hsm (And.intro hbb hl1)))
  have HMc := Box.mk (And.intro (HM.out.1.keep (by rw [HG.out]; exact hv.bel)) (tabs_below HM.out.2 (by rw [HG.out]; exact hv.bel)))
  have HBc := Box.mk (show Below w.heap.size w wc by rw [HG.out]; exact hv.bel)
  have hc3 : wc.cell? ⟨g + 1, 3, none⟩ = some (.slice ax x.length cx) := by rw [cell_of_row _ _ _ _ _ _ hv.row]; rfl
  clear hcut hv hf hsm hbb HV2 HS2 HE2 HI HM HLOW
  by_cases h40 : 40 < x.length
  · go_wp2_with fail
    refine (awakeHop_any _ mm HMc.out.1 HMc.out.2).mono ?_
    rintro e w2 ⟨rfl, hb2⟩
    have HB2 := Box.mk (below_trans HBc.out hb2)
    clear hb2
    go_wp2_with fail
    go_ret
    exact ⟨rfl, HB2.out⟩
  · have HFL := Box.mk (show (fwdL x fr1 (l1.length : Int) peer).length ≤ 2000000 by have := fwdL_len (l := x) fr1 (l1.length : Int) peer; omega)
    go_wp2_with fail
    clear hc3
    rename_i K hK
    obtain ⟨F, HF⟩ : ∃ F, Box (fwdL x fr1 (l1.length : Int) peer = F) := ⟨_, ⟨rfl⟩⟩
    refine wp_region_local (S := [.val (.agg #[.string m1, .string t1, .int .i64 z1, .slice ax x.length cx, .bool fr1, .slice pb l1.length d1]), .val (.string peer), .fwdd m1 t1 fr1 l1 F, .val (.agg #[.string m1, .string t1, .int .i64 z1, .slice ax x.length cx, .bool fr1, .slice pb l1.length d1]), .val (.string peer), .fwdd m1 t1 fr1 l1 F, .val (.bool true), .val (.bool true), .val (.bool true), .val (.bool true), .val (.bool true)])
     (by kernel_rfl) (by kernel_rfl) (by kernel_rfl) ?_ ?_
    · refine ⟨?_, ?_, ?_, ?_, ?_, ?_, ?_, ?_, ?_, ?_, ?_, trivial⟩ <;> intro a1 w5 hb hf hd
      · exact ⟨wanted_none rfl, loc_load rfl (by rw [show a1.eval (.tmp 9) = .pointer (some ⟨g + 1, 0, none⟩) from hf.base 9 rfl]; exact run_loadReqH _ _ (HV.out.keep hb).row) rfl⟩
      · exact ⟨wanted_none rfl, loc_move rfl (hf.base 2 rfl)⟩
      · refine ⟨wanted_none rfl, loc_call rfl (by kernel_rfl) ?_⟩
        show Calls _ _ #[a1.eval (.tmp 28), a1.eval (.tmp 29)] w5 _
        rw [show a1.eval (.tmp 28) = _ from hd 0 rfl, show a1.eval (.tmp 29) = _ from hd 1 rfl]
        refine (hForward_any m1 t1 peer z1 x ax cx fr1 l1 pb d1 w5 mm (HX.out.1.keep hb) HX.out.2.1 (by omega) hp (HMc.out.1.keep hb) (tabs_below HMc.out.2 hb) (HX.out.2.2.1.keep hb) hl1).mono ?_
        rw [HF.out]
        intro e w' h
        exact h.spec
      · exact ⟨wanted_none rfl, loc_load rfl (by rw [show a1.eval (.tmp 9) = .pointer (some ⟨g + 1, 0, none⟩) from hf.base 9 rfl]; exact run_loadReqH _ _ (HV.out.keep hb).row) rfl⟩
      · exact ⟨wanted_none rfl, loc_move rfl (hf.base 2 rfl)⟩
      · refine ⟨wanted_none rfl, loc_call rfl (by kernel_rfl) ?_⟩
        show Calls _ _ #[a1.eval (.tmp 31), a1.eval (.tmp 32)] w5 _
        rw [show a1.eval (.tmp 31) = _ from hd 3 rfl, show a1.eval (.tmp 32) = _ from hd 4 rfl]
        refine (refForward_any m1 t1 peer z1 x ax cx fr1 l1 pb d1 w5 (HX.out.1.keep hb) HX.out.2.1 (by omega) hp (HX.out.2.2.1.keep hb) hl1).mono ?_
        rw [HF.out]
        intro e w' h
        exact h.spec
      · refine ⟨wanted_none rfl, loc_call rfl (by kernel_rfl) ?_⟩
        show Calls _ _ #[a1.eval (.tmp 30), a1.eval (.tmp 33)] w5 _
        obtain ⟨p1, p2, p3, p4, e30, f1, f2⟩ := hd 2 rfl
        obtain ⟨q1, q2, q3, q4, e33, f3, f4⟩ := hd 5 rfl
        rw [show a1.eval (.tmp 30) = _ from e30, show a1.eval (.tmp 33) = _ from e33]
        refine (sameReq_any m1 t1 1 fr1 F l1 p1 q1 p3 q3 p2 q2 p4 q4 w5 f1 f3 f2 f4 (by rw [← HF.out]; exact HFL.out)).mono ?_
        rintro e w' ⟨rfl, hb'⟩
        exact ⟨_, rfl, hb', rfl⟩
      · exact ⟨wanted_none rfl, loc_move rfl (hd 6 rfl)⟩
      · refine ⟨wanted_true rfl rfl (hd 7 rfl), loc_call rfl (by kernel_rfl) ?_⟩
        refine (awakeHop_any w5 mm (HMc.out.1.keep hb) (tabs_below HMc.out.2 hb)).mono ?_
        rintro e w' ⟨rfl, hb'⟩
        exact ⟨_, rfl, hb', rfl⟩
      · exact ⟨wanted_none rfl, loc_pick rfl (hd 7 rfl) (hd 8 rfl)⟩
      · exact ⟨wanted_none rfl, loc_assign rfl (hd 9 rfl)⟩
    · intro a1 w5 hb hf hh
      refine hK a1 w5 ?_
      go_wp2_with fail
      exact local_ret rfl hf.defers (show a1.eval (.tmp 8) = .bool true from hh 10 (by decide)) ⟨rfl, below_trans HBc.out hb⟩
theorem fmtS_short (k : Nat) (h : k ≤ 1000000000) : (fmtS 10 (k : Int)).size ≤ maxLen := fmtS_len k h
theorem fwdL_short {l : List Fld} {fr : Bool} {k : Nat} {peer : ByteArray} (h : SmallF l) (hl : l.length ≤ 1000) (hp : peer.size ≤ 4000000000) (hk : k ≤ 1000000000) : ShortF (fwdL l fr (k : Int) peer) := by
 have h1 := stripL_small h
 have h2 := small_total h1 (Nat.le_trans (stripL_len l) hl) xffP
 have h3 := small_total h1 (Nat.le_trans (stripL_len l) hl) viaP
 have h4 := extL_short (n := xffP) h1.short (by decide) (by omega) hp
 have h5 := extL_short (n := viaP) (last := selfP) h4 (by decide) (ext_total xff_via (by omega)) (by decide)
 intro f hf
 rcases List.mem_append.1 hf with hf | hf
 · exact h5 f hf
 · cases fr with
   | false => cases hf
   | true =>
    obtain rfl := List.mem_singleton.1 hf
    exact ⟨(by show (lenF 0).1.size ≤ _; decide), fmtS_short k hk⟩
theorem vals_fwd (l : List Fld) (fr : Bool) (k : Int) (peer n : ByteArray) (h1 : foldS viaP n = false) (h2 : foldS xffP n = false) (h3 : foldS (lenF 0).1 n = false) : valuesL (fwdL l fr k peer) n = valuesL (stripL l) n := by
 unfold fwdL viaL
 rw [vals_app, valuesL_ext _ _ _ _ h1, valuesL_ext _ _ _ _ h2]
 cases fr with
 | false => simp [valuesL]
 | true =>
  have : valuesL [lenF k] n = [] := by
   show valuesL [((lenF 0).1, fmtS 10 k)] n = []
   rw [vals_one, h3]; rfl
  simp [this]
theorem fwd_host (l : List Fld) (fr : Bool) (k : Int) (peer : ByteArray) : valuesL (fwdL l fr k peer) hostLo = valuesL l hostLo := by
 rw [vals_fwd _ _ _ _ _ (by decide +kernel) (by decide +kernel) (by decide +kernel), strip_prot _ _ nine_host (by decide +kernel)]
theorem fwd_cook (l : List Fld) (fr : Bool) (k : Int) (peer : ByteArray) : valuesL (fwdL l fr k peer) cookN = valuesL l cookN := by
 rw [vals_fwd _ _ _ _ _ (by decide +kernel) (by decide +kernel) (by decide +kernel), strip_prot _ _ nine_cook (by decide +kernel)]
theorem fwd_te (l : List Fld) (fr : Bool) (k : Int) (peer : ByteArray) : valuesL (fwdL l fr k peer) teN = [] := by
 rw [vals_fwd _ _ _ _ _ (by decide +kernel) (by decide +kernel) (by decide +kernel), strip_gone _ _ nine_te]
theorem fwd_via (l : List Fld) (fr : Bool) (k : Int) (peer : ByteArray) : ∃ v, valuesL (fwdL l fr k peer) viaN = [v] := by
 have h0 : ∀ s, valuesL s viaN = valuesL s viaP := fun s => (valuesL_low s (by decide +kernel)).symm
 unfold fwdL viaL
 rw [h0, vals_app, valuesL_extSame]
 refine ⟨joinS (listL (valuesL (extL (stripL l) xffP peer) viaP) ++ [selfP]), ?_⟩
 cases fr with
 | false => simp [valuesL]
 | true =>
  have : valuesL [lenF k] viaP = [] := by
   show valuesL [((lenF 0).1, fmtS 10 k)] viaP = []
   rw [vals_one, show foldS (lenF 0).1 viaP = false by decide +kernel]; rfl
  simp only [if_true, this, List.append_nil]
theorem fwd_cl (l : List Fld) (fr : Bool) (k : Int) (peer : ByteArray) : valuesL (fwdL l fr k peer) clN = if fr then [fmtS 10 k] else [] := by
 unfold fwdL viaL
 rw [vals_app, valuesL_ext _ _ _ _ (by decide +kernel), valuesL_ext _ _ _ _ (by decide +kernel), strip_gone _ _ nine_cl]
 cases fr with
 | false => rfl
 | true =>
  show valuesL [((lenF 0).1, fmtS 10 k)] clN = _
  rw [vals_one, show foldS (lenF 0).1 clN = true by decide +kernel]
theorem has_none {l : List Fld} {n : ByteArray} (h : valuesL l n = []) : hasL l n = false := by
 have := valuesL_any l n
 rw [h] at this
 unfold hasL; rw [← this]; rfl
theorem fwd_frame (l : List Fld) (fr : Bool) (k : Nat) (peer : ByteArray) (hk : k ≤ 1000000000) : frameS 1 (fwdL l fr (k : Int) peer) 1 = if fr then (2, (k : Int), 0) else (1, 0, 0) := by
 have h1 := has_none (fwd_te l fr (k : Int) peer)
 have h2 := fwd_cl l fr (k : Int) peer
 cases fr with
 | false => exact frameS_none h1 h2
 | true =>
  rw [frameS_one h1 h2]
  have h3 : parseS 10 1000000000 (fmtS 10 (k : Int)) = if (k : Int) < 0 then (0, 2) else if (k : Int) ≤ 1000000000 then ((k : Int), 0) else (0, 3) := parse_fmt (b := 10) (by decide) (by decide) (k : Int) 1000000000
  rw [if_neg (by omega), if_pos (by omega)] at h3
  unfold lenS
  rw [h3]; rfl
def Spec.strs (x : List ByteArray) : Spec := ⟨fun v w => ∃ a c, v = .slice a (List.length x) c ∧ StrsAt w a x, fun _ _ _ h hb => by
 obtain ⟨a, c, h1, h2⟩ := h
 exact ⟨a, c, h1, h2.keep hb⟩⟩
theorem loc_lenS {Q : Exit → Act → World → Prop} {act : Act} {w : World} {o : Oper} {s : Spec} {x : Operand} (ho : o.op = .call { callee := .builtin .len, args := #[x], argTypes := #[45] }) {ad : Option Addr} {n c : Nat} (hx : act.eval x = .slice ad n c) (hs : s.p (.int .i64 n) w) :
  o.wp Tryz.prog act w (fun a' w' => ∃ v, a' = act.put o.dst v ∧ Below w.heap.size w w' ∧ s.p v w') Q :=
 loc_run (v := .int .i64 n) (by
  unfold execOp
  simp [ho, hx, resolve, invoke, builtin, Builtin.len_, run_underlying Tryz.underlying45]
  try rfl) (Below.refl _ _) hs
set_option maxRecDepth 100000 in
set_option maxHeartbeats 4000000 in
theorem hopOneFraming_any (b0 b1 : Option Addr) (n0 c0 n1 c1 : Nat) (w : World) (mm : Int) (hi : IntsF w b0 n0) (hn : n0 ≤ maxLen) (hi1 : IntsF w b1 n1) (hn1 : n1 ≤ maxLen) (hm : MaxOk w mm) (ht : Tabs w) :
  Calls Tryz.prog 5 #[.slice b0 n0 c0, .slice b1 n1 c1] w fun e w' => e = .returned (.bool true) ∧ Below w.heap.size w w' := by
 have HI := Box.mk (And.intro hi hn)
 have HI1 := Box.mk (And.intro hi1 hn1)
 have HM := Box.mk (And.intro hm ht)
 clear hi hn hi1 hn1 hm ht
 go_enter Tryz.func5, Tryz.ntmps5
 go_wp2_with fail
 refine (lawReq_any b1 n1 c1 w HI1.out.1 HI1.out.2).mono ?_
 rintro e w1 ⟨m, t, z, sF, x0, cF, fr, sB, l1, cB, rfl, _, _, _, _, _, _, _, hB, hl1, hb1⟩
 have HB1 := Box.mk hb1
 have HY1 := Box.mk hB
 clear hb1 hB HI1
 obtain ⟨W2, hW2⟩ : ∃ W2, W2 = w1.alloc (.cells #[.string m, .string t, .int .i64 z, .slice sF x0.length cF, .bool fr, .slice sB l1.length cB] 31) := ⟨_, rfl⟩
 have HR2 := Box.mk (show W2.heap[w1.heap.size]? = some (.cells #[.string m, .string t, .int .i64 z, .slice sF x0.length cF, .bool fr, .slice sB l1.length cB] 31 (0, 0)) by rw [hW2]; exact heap_alloc_new _ _)
 have HB2 := Box.mk (show Below w1.heap.size w1 W2 by rw [hW2]; exact below_oneF _ _)
 have HW2 := Box.mk hW2
 clear hW2
 go_upto_region 2 with fail
 rw [← HW2.out]
 clear HW2
 generalize hg2 : w1.heap.size = g2 at *
 have HG2 := Box.mk hg2
 clear hg2
 go_wp2_with fail
 refine (made_any b0 n0 c0 W2 (HI.out.1.keep (below_trans HB1.out (by rw [HG2.out]; exact HB2.out))) HI.out.2).mono ?_
 rintro e w3 ⟨v3, y, rfl, ho3, hyl, hys, hb3⟩
 obtain ⟨ya, yc, rfl⟩ := sliceS ho3
 have hgW : g2 < W2.heap.size := (Array.getElem?_eq_some_iff.1 HR2.out).1
 have hrow := (hb3.block g2 hgW).trans HR2.out
 have hf3 := frozen_of_row w3 g2 3 _ _ hrow
 have hc3 : w3.cell? ⟨g2, 3, none⟩ = some (.slice sF x0.length cF) := by rw [cell_of_row _ _ _ _ _ _ hrow]; rfl
 obtain ⟨W4, hW4⟩ : ∃ W4, W4 = w3.setCell ⟨g2, 3, none⟩ (.slice ya y.length yc) := ⟨_, rfl⟩
 have HR4 := Box.mk (show W4.heap[g2]? = some (.cells #[.string m, .string t, .int .i64 z, .slice ya y.length yc, .bool fr, .slice sB l1.length cB] 31 (0, 0)) by rw [hW4]; exact heap_setCell_same w3 g2 3 _ 31 _ hrow)
 have HF4 := Box.mk (show FldsIn W4 ya y by
  have h1 : OwnF W2.heap.size W4 (.slice ya y.length yc) y := by rw [hW4]; exact ho3.grown grownBy_setCell (fun k hk e => by have := (ho3.lt hk).1; have := Option.some.inj e; omega)
  exact h1.in)
 have HB4 := Box.mk (show Below w1.heap.size w1 W4 by
  rw [HG2.out, hW4]; exact (HB2.out.trans (hb3.mono (by omega))).setCell (Nat.le_refl g2) _)
 have HYS := Box.mk (And.intro hys hyl)
 have HW4 := Box.mk hW4
 clear ho3 hyl hys hb3 hrow hW4 HB2 HR2 HI
 go_upto_region 3 with fail
 rw [← HW4.out]
 clear HW4 hf3 hc3
 have HM4 := Box.mk (And.intro (HM.out.1.keep (below_trans HB1.out HB4.out)) (tabs_below HM.out.2 (below_trans HB1.out HB4.out)))
 have HY4 := Box.mk (HY1.out.keep HB4.out)
 have HBB := Box.mk (below_trans HB1.out HB4.out)
 clear HY1 HB1 HB4 HM
 have r4 := fun i u (h : (#[.string m, .string t, .int .i64 z, .slice ya y.length yc, .bool fr, .slice sB l1.length cB] : Array Value)[i]? = some u) => (show W4.cell? ⟨g2, i, none⟩ = some u by rw [cell_of_row _ _ _ _ _ _ HR4.out]; exact h)
 have r40 := r4 0 _ rfl
 have r41 := r4 1 _ rfl
 have r42 := r4 2 _ rfl
 have r43 := r4 3 _ rfl
 have r44 := r4 4 _ rfl
 have r45 := r4 5 _ rfl
 clear r4
 go_wp2_with (refine wpList_load_row rfl 31 _ rfl g2 rfl 31 #[.string m, .string t, .int .i64 z, .slice ya y.length yc, .bool fr, .slice sB l1.length cB] (0, 0) _ HR4.out Tryz.underlying31 rfl sizeR ?_)
 have HSH := Box.mk (fwdL_short (fr := fr) (k := l1.length) (peer := ⟨#[57]⟩) HYS.out.1 (by have := HYS.out.2; omega) (by decide) (by omega))
 have HLN := Box.mk (fwdL_len (l := y) fr (l1.length : Int) ⟨#[57]⟩)
 have HVH := Box.mk (fwd_host y fr (l1.length : Int) ⟨#[57]⟩)
 have HVC := Box.mk (fwd_cook y fr (l1.length : Int) ⟨#[57]⟩)
 have HVT := Box.mk (fwd_te y fr (l1.length : Int) ⟨#[57]⟩)
 obtain ⟨VV, hVV⟩ := fwd_via y fr (l1.length : Int) ⟨#[57]⟩
 have HVV := Box.mk hVV
 have HFR := Box.mk (fwd_frame y fr l1.length ⟨#[57]⟩ (by omega))
 refine (hForward_any m t ⟨#[57]⟩ z y ya yc fr l1 sB cB W4 mm HF4.out HYS.out.1 (by have := HYS.out.2; omega) (by decide) HM4.out.1 HM4.out.2 HY4.out (by omega)).mono ?_
 generalize fwdL y fr (l1.length : Int) ⟨#[57]⟩ = F at *
 rintro e w5 ⟨v5, fb, fd, rfl, ho5, _, hb5⟩
 obtain ⟨fa, fc, rfl⟩ := sliceS ho5
 have HF5 := Box.mk ho5.in
 have HB5 := Box.mk hb5
 clear ho5 hb5 hVV r40 r41 r42 r43 r44 r45
 obtain ⟨W6, hW6⟩ : ∃ W6, W6 = w5.alloc (.cells #[.string m, .string t, .int .i64 1, .slice fa F.length fc, .bool fr, .slice fb l1.length fd] 31) := ⟨_, rfl⟩
 have HR6 := Box.mk (show W6.heap[w5.heap.size]? = some (.cells #[.string m, .string t, .int .i64 1, .slice fa F.length fc, .bool fr, .slice fb l1.length fd] 31 (0, 0)) by rw [hW6]; exact heap_alloc_new _ _)
 have HB6 := Box.mk (show Below w5.heap.size w5 W6 by rw [hW6]; exact below_oneF _ _)
 have HW6 := Box.mk hW6
 clear hW6
 go_upto_region 4 with fail
 rw [← HW6.out]
 clear HW6
 have HB46 := Box.mk (below_trans HB5.out HB6.out)
 have HF6 := Box.mk (And.intro (HF5.out.keep HB6.out) (HF4.out.keep HB46.out))
 generalize hg6 : w5.heap.size = g6 at *
 have HR6y := Box.mk ((HB46.out.block g2 (Array.getElem?_eq_some_iff.1 HR4.out).1).trans HR4.out)
 clear hg6 HF5 HB5 HB6 HR4 HF4 HY4
 go_wp2_with (refine wpList_load_row rfl 31 _ rfl g6 rfl 31 #[.string m, .string t, .int .i64 1, .slice fa F.length fc, .bool fr, .slice fb l1.length fd] (0, 0) _ HR6.out Tryz.underlying31 rfl sizeR ?_)
 refine (projOfReq_any m t 1 F fa fc fr fb l1.length fd mm W6 HF6.out.1 HSH.out (by have := HLN.out; have := HYS.out.2; omega) (by rw [HVT.out]; decide) (HM4.out.1.keep HB46.out)).mono ?_
 rintro e w7 ⟨he, hb7⟩
 rw [HFR.out] at he
 have HB7 := Box.mk hb7
 clear hb7
 cases fr with
 | true =>
  have he : e = .returned (.tuple #[.agg #[.int .i64 2, .int .i64 l1.length], .int .i64 0]) := he
  subst he
  have hbf := below_oneF w7 (.cells #[.int .i64 2, .int .i64 l1.length] 40)
  have hb68 := below_trans HB7.out hbf
  have HM8 := Box.mk (And.intro (HM4.out.1.keep (below_trans HB46.out hb68)) (tabs_below HM4.out.2 (below_trans HB46.out hb68)))
  have HF8 := Box.mk (And.intro (HF6.out.1.keep hb68) (HF6.out.2.keep hb68))
  have hx8 := (hb68.block g6 (Array.getElem?_eq_some_iff.1 HR6.out).1).trans HR6.out
  have hx9 := (hb68.block g2 (Array.getElem?_eq_some_iff.1 HR6y.out).1).trans HR6y.out
  have hc4 : (w7.alloc (.cells #[.int .i64 2, .int .i64 l1.length] 40)).cell? ⟨g2, 4, none⟩ = some (.bool true) := by rw [cell_of_row _ _ _ _ _ _ hx9]; rfl
  have hc5 : (w7.alloc (.cells #[.int .i64 2, .int .i64 l1.length] 40)).cell? ⟨g2, 5, none⟩ = some (.slice sB l1.length cB) := by rw [cell_of_row _ _ _ _ _ _ hx9]; rfl
  have hef := fun W => eq_frame 2 l1.length W
  have HBW := Box.mk (below_trans HBB.out (below_trans HB46.out hb68))
  have HXX := Box.mk (And.intro hx8 hx9)
  clear hx8 hx9 hbf hb68 HB7 HF6 HR6 HR6y HM4 HB46 HBB
  go_upto_region 9 with fail
  clear hc4 hc5 hef
  generalize w7.alloc (.cells #[.int .i64 2, .int .i64 l1.length] 40) = W8 at *
  have HX8 := Box.mk (fun (w' : World) (hb : Below W8.heap.size W8 w') => (hb.block g6 (Array.getElem?_eq_some_iff.1 HXX.out.1).1).trans HXX.out.1)
  have HX9 := Box.mk (fun (w' : World) (hb : Below W8.heap.size W8 w') => (hb.block g2 (Array.getElem?_eq_some_iff.1 HXX.out.2).1).trans HXX.out.2)
  clear HXX
  rename_i K hK
  refine wp_region_local (S := [.val (.pointer (some ⟨g6, 3, none⟩)), .val (.slice fa F.length fc), .strs (valuesL y hostLo), .val (.pointer (some ⟨g2, 3, none⟩)), .val (.slice ya y.length yc), .strs (valuesL y hostLo), .val (.bool true), .val (.bool true), .val (.pointer (some ⟨g6, 3, none⟩)), .val (.slice fa F.length fc), .strs (valuesL y cookN), .val (.pointer (some ⟨g2, 3, none⟩)), .val (.slice ya y.length yc), .strs (valuesL y cookN), .val (.bool true), .val (.bool true), .val (.bool true), .val (.pointer (some ⟨g6, 3, none⟩)), .val (.slice fa F.length fc), .strs [VV], .val (.int .i64 1), .val (.bool true), .val (.bool true), .val (.bool true), .val (.bool true), .val (.bool true), .val (.bool true)])
   (by kernel_rfl) (by kernel_rfl) (by kernel_rfl) ?_ ?_
  · refine ⟨?_, ?_, ?_, ?_, ?_, ?_, ?_, ?_, ?_, ?_, ?_, ?_, ?_, ?_, ?_, ?_, ?_, ?_, ?_, ?_, ?_, ?_, ?_, ?_, ?_, ?_, ?_, trivial⟩ <;> intro a1 w9 hb hf hd
    · exact ⟨wanted_none rfl, loc_fieldR rfl (hf.base 6 rfl) (by decide) rfl⟩
    · exact ⟨wanted_none rfl, loc_cell rfl (hd 0 rfl) (by rw [cell_of_row _ _ _ _ _ _ (HX8.out _ hb)]; rfl) (agg_fields _) rfl⟩
    · refine ⟨wanted_none rfl, loc_call rfl (by kernel_rfl) ?_⟩
      show Calls _ _ #[a1.eval (.tmp 46), .string hostLo] w9 _
      rw [show a1.eval (.tmp 46) = _ from hd 1 rfl]
      refine (refValues_any F hostLo fa fc w9 (HF8.out.1.keep hb) HSH.out (by decide) (by have := HLN.out; have := HYS.out.2; omega)).mono ?_
      rw [HVH.out]
      rintro e w' ⟨sa, sc, rfl, h1, h2⟩
      exact ⟨_, rfl, h2, sa, sc, rfl, h1⟩
    · exact ⟨wanted_none rfl, loc_fieldR rfl (hf.base 5 rfl) (by decide) rfl⟩
    · exact ⟨wanted_none rfl, loc_cell rfl (hd 3 rfl) (by rw [cell_of_row _ _ _ _ _ _ (HX9.out _ hb)]; rfl) (agg_fields _) rfl⟩
    · refine ⟨wanted_none rfl, loc_call rfl (by kernel_rfl) ?_⟩
      show Calls _ _ #[a1.eval (.tmp 49), .string hostLo] w9 _
      rw [show a1.eval (.tmp 49) = _ from hd 4 rfl]
      refine (refValues_any y hostLo ya yc w9 (HF8.out.2.keep hb) HYS.out.1.short (by decide) (by have := HYS.out.2; omega)).mono ?_
      rintro e w' ⟨sa, sc, rfl, h1, h2⟩
      exact ⟨_, rfl, h2, sa, sc, rfl, h1⟩
    · refine ⟨wanted_none rfl, loc_call rfl (by kernel_rfl) ?_⟩
      show Calls _ _ #[a1.eval (.tmp 47), a1.eval (.tmp 50)] w9 _
      obtain ⟨p1, p2, e1, h1⟩ := hd 2 rfl
      obtain ⟨q1, q2, e2, h2⟩ := hd 5 rfl
      rw [show a1.eval (.tmp 47) = _ from e1, show a1.eval (.tmp 50) = _ from e2]
      refine (sameT_true (valuesL y hostLo) p1 q1 p2 q2 w9 h1 h2 (by have := valuesL_len y hostLo; have := HYS.out.2; omega)).mono ?_
      rintro e w' ⟨rfl, hb'⟩
      exact ⟨_, rfl, hb', rfl⟩
    · exact ⟨wanted_none rfl, loc_move rfl (hd 6 rfl)⟩
    · exact ⟨wanted_true rfl rfl (hd 7 rfl), loc_fieldR rfl (hf.base 6 rfl) (by decide) rfl⟩
    · exact ⟨wanted_true rfl rfl (hd 7 rfl), loc_cell rfl (hd 8 rfl) (by rw [cell_of_row _ _ _ _ _ _ (HX8.out _ hb)]; rfl) (agg_fields _) rfl⟩
    · refine ⟨wanted_true rfl rfl (hd 7 rfl), loc_call rfl (by kernel_rfl) ?_⟩
      show Calls _ _ #[a1.eval (.tmp 54), .string cookN] w9 _
      rw [show a1.eval (.tmp 54) = _ from hd 9 rfl]
      refine (refValues_any F cookN fa fc w9 (HF8.out.1.keep hb) HSH.out (by decide) (by have := HLN.out; have := HYS.out.2; omega)).mono ?_
      rw [HVC.out]
      rintro e w' ⟨sa, sc, rfl, h1, h2⟩
      exact ⟨_, rfl, h2, sa, sc, rfl, h1⟩
    · exact ⟨wanted_true rfl rfl (hd 7 rfl), loc_fieldR rfl (hf.base 5 rfl) (by decide) rfl⟩
    · exact ⟨wanted_true rfl rfl (hd 7 rfl), loc_cell rfl (hd 11 rfl) (by rw [cell_of_row _ _ _ _ _ _ (HX9.out _ hb)]; rfl) (agg_fields _) rfl⟩
    · refine ⟨wanted_true rfl rfl (hd 7 rfl), loc_call rfl (by kernel_rfl) ?_⟩
      show Calls _ _ #[a1.eval (.tmp 57), .string cookN] w9 _
      rw [show a1.eval (.tmp 57) = _ from hd 12 rfl]
      refine (refValues_any y cookN ya yc w9 (HF8.out.2.keep hb) HYS.out.1.short (by decide) (by have := HYS.out.2; omega)).mono ?_
      rintro e w' ⟨sa, sc, rfl, h1, h2⟩
      exact ⟨_, rfl, h2, sa, sc, rfl, h1⟩
    · refine ⟨wanted_true rfl rfl (hd 7 rfl), loc_call rfl (by kernel_rfl) ?_⟩
      show Calls _ _ #[a1.eval (.tmp 55), a1.eval (.tmp 58)] w9 _
      obtain ⟨p1, p2, e1, h1⟩ := hd 10 rfl
      obtain ⟨q1, q2, e2, h2⟩ := hd 13 rfl
      rw [show a1.eval (.tmp 55) = _ from e1, show a1.eval (.tmp 58) = _ from e2]
      refine (sameT_true (valuesL y cookN) p1 q1 p2 q2 w9 h1 h2 (by have := valuesL_len y cookN; have := HYS.out.2; omega)).mono ?_
      rintro e w' ⟨rfl, hb'⟩
      exact ⟨_, rfl, hb', rfl⟩
    · exact ⟨wanted_none rfl, loc_pick rfl (hd 7 rfl) (hd 14 rfl)⟩
    · exact ⟨wanted_none rfl, loc_move rfl (hd 15 rfl)⟩
    · exact ⟨wanted_true rfl rfl (hd 16 rfl), loc_fieldR rfl (hf.base 6 rfl) (by decide) rfl⟩
    · exact ⟨wanted_true rfl rfl (hd 16 rfl), loc_cell rfl (hd 17 rfl) (by rw [cell_of_row _ _ _ _ _ _ (HX8.out _ hb)]; rfl) (agg_fields _) rfl⟩
    · refine ⟨wanted_true rfl rfl (hd 16 rfl), loc_call rfl (by kernel_rfl) ?_⟩
      show Calls _ _ #[a1.eval (.tmp 63), .string viaN] w9 _
      rw [show a1.eval (.tmp 63) = _ from hd 18 rfl]
      refine (refValues_any F viaN fa fc w9 (HF8.out.1.keep hb) HSH.out (by decide) (by have := HLN.out; have := HYS.out.2; omega)).mono ?_
      rw [HVV.out]
      rintro e w' ⟨sa, sc, rfl, h1, h2⟩
      exact ⟨_, rfl, h2, sa, sc, rfl, h1⟩
    · obtain ⟨p1, p2, e1, h1⟩ := hd 19 rfl
      exact ⟨wanted_true rfl rfl (hd 16 rfl), loc_lenS rfl e1 rfl⟩
    · exact ⟨wanted_true rfl rfl (hd 16 rfl), loc_eql_int rfl (hd 20 rfl) rfl rfl⟩
    · exact ⟨wanted_none rfl, loc_pick rfl (hd 16 rfl) (hd 21 rfl)⟩
    · exact ⟨wanted_none rfl, loc_move rfl (hd 22 rfl)⟩
    · refine ⟨wanted_true rfl rfl (hd 23 rfl), loc_call rfl (by kernel_rfl) ?_⟩
      refine (awakeHop_any w9 mm (HM8.out.1.keep hb) (tabs_below HM8.out.2 hb)).mono ?_
      rintro e w' ⟨rfl, hb'⟩
      exact ⟨_, rfl, hb', rfl⟩
    · exact ⟨wanted_none rfl, loc_pick rfl (hd 23 rfl) (hd 24 rfl)⟩
    · exact ⟨wanted_none rfl, loc_assign rfl (hd 25 rfl)⟩
  · intro a1 w9 hb hf hh
    refine hK a1 w9 ?_
    go_wp2_with fail
    exact local_ret rfl hf.defers (show a1.eval (.tmp 4) = .bool true from hh 26 (by decide)) ⟨rfl, below_trans HBW.out hb⟩
 | false =>
  have he : e = .returned (.tuple #[.agg #[.int .i64 1, .int .i64 0], .int .i64 0]) := he
  subst he
  have hbf := below_oneF w7 (.cells #[.int .i64 1, .int .i64 0] 40)
  have hb68 := below_trans HB7.out hbf
  have HM8 := Box.mk (And.intro (HM4.out.1.keep (below_trans HB46.out hb68)) (tabs_below HM4.out.2 (below_trans HB46.out hb68)))
  have HF8 := Box.mk (And.intro (HF6.out.1.keep hb68) (HF6.out.2.keep hb68))
  have hx8 := (hb68.block g6 (Array.getElem?_eq_some_iff.1 HR6.out).1).trans HR6.out
  have hx9 := (hb68.block g2 (Array.getElem?_eq_some_iff.1 HR6y.out).1).trans HR6y.out
  have hc4 : (w7.alloc (.cells #[.int .i64 1, .int .i64 0] 40)).cell? ⟨g2, 4, none⟩ = some (.bool false) := by rw [cell_of_row _ _ _ _ _ _ hx9]; rfl
  have hc5 : (w7.alloc (.cells #[.int .i64 1, .int .i64 0] 40)).cell? ⟨g2, 5, none⟩ = some (.slice sB l1.length cB) := by rw [cell_of_row _ _ _ _ _ _ hx9]; rfl
  have hef := fun W => eq_frame 1 0 W
  have HBW := Box.mk (below_trans HBB.out (below_trans HB46.out hb68))
  have HXX := Box.mk (And.intro hx8 hx9)
  clear hx8 hx9 hbf hb68 HB7 HF6 HR6 HR6y HM4 HB46 HBB
  go_upto_region 9 with fail
  clear hc4 hc5 hef
  generalize w7.alloc (.cells #[.int .i64 1, .int .i64 0] 40) = W8 at *
  have HX8 := Box.mk (fun (w' : World) (hb : Below W8.heap.size W8 w') => (hb.block g6 (Array.getElem?_eq_some_iff.1 HXX.out.1).1).trans HXX.out.1)
  have HX9 := Box.mk (fun (w' : World) (hb : Below W8.heap.size W8 w') => (hb.block g2 (Array.getElem?_eq_some_iff.1 HXX.out.2).1).trans HXX.out.2)
  clear HXX
  rename_i K hK
  refine wp_region_local (S := [.val (.pointer (some ⟨g6, 3, none⟩)), .val (.slice fa F.length fc), .strs (valuesL y hostLo), .val (.pointer (some ⟨g2, 3, none⟩)), .val (.slice ya y.length yc), .strs (valuesL y hostLo), .val (.bool true), .val (.bool true), .val (.pointer (some ⟨g6, 3, none⟩)), .val (.slice fa F.length fc), .strs (valuesL y cookN), .val (.pointer (some ⟨g2, 3, none⟩)), .val (.slice ya y.length yc), .strs (valuesL y cookN), .val (.bool true), .val (.bool true), .val (.bool true), .val (.pointer (some ⟨g6, 3, none⟩)), .val (.slice fa F.length fc), .strs [VV], .val (.int .i64 1), .val (.bool true), .val (.bool true), .val (.bool true), .val (.bool true), .val (.bool true), .val (.bool true)])
   (by kernel_rfl) (by kernel_rfl) (by kernel_rfl) ?_ ?_
  · refine ⟨?_, ?_, ?_, ?_, ?_, ?_, ?_, ?_, ?_, ?_, ?_, ?_, ?_, ?_, ?_, ?_, ?_, ?_, ?_, ?_, ?_, ?_, ?_, ?_, ?_, ?_, ?_, trivial⟩ <;> intro a1 w9 hb hf hd
    · exact ⟨wanted_none rfl, loc_fieldR rfl (hf.base 6 rfl) (by decide) rfl⟩
    · exact ⟨wanted_none rfl, loc_cell rfl (hd 0 rfl) (by rw [cell_of_row _ _ _ _ _ _ (HX8.out _ hb)]; rfl) (agg_fields _) rfl⟩
    · refine ⟨wanted_none rfl, loc_call rfl (by kernel_rfl) ?_⟩
      show Calls _ _ #[a1.eval (.tmp 46), .string hostLo] w9 _
      rw [show a1.eval (.tmp 46) = _ from hd 1 rfl]
      refine (refValues_any F hostLo fa fc w9 (HF8.out.1.keep hb) HSH.out (by decide) (by have := HLN.out; have := HYS.out.2; omega)).mono ?_
      rw [HVH.out]
      rintro e w' ⟨sa, sc, rfl, h1, h2⟩
      exact ⟨_, rfl, h2, sa, sc, rfl, h1⟩
    · exact ⟨wanted_none rfl, loc_fieldR rfl (hf.base 5 rfl) (by decide) rfl⟩
    · exact ⟨wanted_none rfl, loc_cell rfl (hd 3 rfl) (by rw [cell_of_row _ _ _ _ _ _ (HX9.out _ hb)]; rfl) (agg_fields _) rfl⟩
    · refine ⟨wanted_none rfl, loc_call rfl (by kernel_rfl) ?_⟩
      show Calls _ _ #[a1.eval (.tmp 49), .string hostLo] w9 _
      rw [show a1.eval (.tmp 49) = _ from hd 4 rfl]
      refine (refValues_any y hostLo ya yc w9 (HF8.out.2.keep hb) HYS.out.1.short (by decide) (by have := HYS.out.2; omega)).mono ?_
      rintro e w' ⟨sa, sc, rfl, h1, h2⟩
      exact ⟨_, rfl, h2, sa, sc, rfl, h1⟩
    · refine ⟨wanted_none rfl, loc_call rfl (by kernel_rfl) ?_⟩
      show Calls _ _ #[a1.eval (.tmp 47), a1.eval (.tmp 50)] w9 _
      obtain ⟨p1, p2, e1, h1⟩ := hd 2 rfl
      obtain ⟨q1, q2, e2, h2⟩ := hd 5 rfl
      rw [show a1.eval (.tmp 47) = _ from e1, show a1.eval (.tmp 50) = _ from e2]
      refine (sameT_true (valuesL y hostLo) p1 q1 p2 q2 w9 h1 h2 (by have := valuesL_len y hostLo; have := HYS.out.2; omega)).mono ?_
      rintro e w' ⟨rfl, hb'⟩
      exact ⟨_, rfl, hb', rfl⟩
    · exact ⟨wanted_none rfl, loc_move rfl (hd 6 rfl)⟩
    · exact ⟨wanted_true rfl rfl (hd 7 rfl), loc_fieldR rfl (hf.base 6 rfl) (by decide) rfl⟩
    · exact ⟨wanted_true rfl rfl (hd 7 rfl), loc_cell rfl (hd 8 rfl) (by rw [cell_of_row _ _ _ _ _ _ (HX8.out _ hb)]; rfl) (agg_fields _) rfl⟩
    · refine ⟨wanted_true rfl rfl (hd 7 rfl), loc_call rfl (by kernel_rfl) ?_⟩
      show Calls _ _ #[a1.eval (.tmp 54), .string cookN] w9 _
      rw [show a1.eval (.tmp 54) = _ from hd 9 rfl]
      refine (refValues_any F cookN fa fc w9 (HF8.out.1.keep hb) HSH.out (by decide) (by have := HLN.out; have := HYS.out.2; omega)).mono ?_
      rw [HVC.out]
      rintro e w' ⟨sa, sc, rfl, h1, h2⟩
      exact ⟨_, rfl, h2, sa, sc, rfl, h1⟩
    · exact ⟨wanted_true rfl rfl (hd 7 rfl), loc_fieldR rfl (hf.base 5 rfl) (by decide) rfl⟩
    · exact ⟨wanted_true rfl rfl (hd 7 rfl), loc_cell rfl (hd 11 rfl) (by rw [cell_of_row _ _ _ _ _ _ (HX9.out _ hb)]; rfl) (agg_fields _) rfl⟩
    · refine ⟨wanted_true rfl rfl (hd 7 rfl), loc_call rfl (by kernel_rfl) ?_⟩
      show Calls _ _ #[a1.eval (.tmp 57), .string cookN] w9 _
      rw [show a1.eval (.tmp 57) = _ from hd 12 rfl]
      refine (refValues_any y cookN ya yc w9 (HF8.out.2.keep hb) HYS.out.1.short (by decide) (by have := HYS.out.2; omega)).mono ?_
      rintro e w' ⟨sa, sc, rfl, h1, h2⟩
      exact ⟨_, rfl, h2, sa, sc, rfl, h1⟩
    · refine ⟨wanted_true rfl rfl (hd 7 rfl), loc_call rfl (by kernel_rfl) ?_⟩
      show Calls _ _ #[a1.eval (.tmp 55), a1.eval (.tmp 58)] w9 _
      obtain ⟨p1, p2, e1, h1⟩ := hd 10 rfl
      obtain ⟨q1, q2, e2, h2⟩ := hd 13 rfl
      rw [show a1.eval (.tmp 55) = _ from e1, show a1.eval (.tmp 58) = _ from e2]
      refine (sameT_true (valuesL y cookN) p1 q1 p2 q2 w9 h1 h2 (by have := valuesL_len y cookN; have := HYS.out.2; omega)).mono ?_
      rintro e w' ⟨rfl, hb'⟩
      exact ⟨_, rfl, hb', rfl⟩
    · exact ⟨wanted_none rfl, loc_pick rfl (hd 7 rfl) (hd 14 rfl)⟩
    · exact ⟨wanted_none rfl, loc_move rfl (hd 15 rfl)⟩
    · exact ⟨wanted_true rfl rfl (hd 16 rfl), loc_fieldR rfl (hf.base 6 rfl) (by decide) rfl⟩
    · exact ⟨wanted_true rfl rfl (hd 16 rfl), loc_cell rfl (hd 17 rfl) (by rw [cell_of_row _ _ _ _ _ _ (HX8.out _ hb)]; rfl) (agg_fields _) rfl⟩
    · refine ⟨wanted_true rfl rfl (hd 16 rfl), loc_call rfl (by kernel_rfl) ?_⟩
      show Calls _ _ #[a1.eval (.tmp 63), .string viaN] w9 _
      rw [show a1.eval (.tmp 63) = _ from hd 18 rfl]
      refine (refValues_any F viaN fa fc w9 (HF8.out.1.keep hb) HSH.out (by decide) (by have := HLN.out; have := HYS.out.2; omega)).mono ?_
      rw [HVV.out]
      rintro e w' ⟨sa, sc, rfl, h1, h2⟩
      exact ⟨_, rfl, h2, sa, sc, rfl, h1⟩
    · obtain ⟨p1, p2, e1, h1⟩ := hd 19 rfl
      exact ⟨wanted_true rfl rfl (hd 16 rfl), loc_lenS rfl e1 rfl⟩
    · exact ⟨wanted_true rfl rfl (hd 16 rfl), loc_eql_int rfl (hd 20 rfl) rfl rfl⟩
    · exact ⟨wanted_none rfl, loc_pick rfl (hd 16 rfl) (hd 21 rfl)⟩
    · exact ⟨wanted_none rfl, loc_move rfl (hd 22 rfl)⟩
    · refine ⟨wanted_true rfl rfl (hd 23 rfl), loc_call rfl (by kernel_rfl) ?_⟩
      refine (awakeHop_any w9 mm (HM8.out.1.keep hb) (tabs_below HM8.out.2 hb)).mono ?_
      rintro e w' ⟨rfl, hb'⟩
      exact ⟨_, rfl, hb', rfl⟩
    · exact ⟨wanted_none rfl, loc_pick rfl (hd 23 rfl) (hd 24 rfl)⟩
    · exact ⟨wanted_none rfl, loc_assign rfl (hd 25 rfl)⟩
  · intro a1 w9 hb hf hh
    refine hK a1 w9 ?_
    go_wp2_with fail
    exact local_ret rfl hf.defers (show a1.eval (.tmp 4) = .bool true from hh 26 (by decide)) ⟨rfl, below_trans HBW.out hb⟩
end Go.Proofs.YtfghgenboahkkaaGreatDoor
