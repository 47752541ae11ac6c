/- The law's awake. The law HopEndToEnd. Opening a slice of numbers; the tables out of the listed variables. -/
import Derived.Test.YtfghgenboahkkaaDoorPq2
namespace Go.Proofs.YtfghgenboahkkaaDoor
open Go.RowKit
def awA : List Fld := [(⟨#[67, 111, 110, 110, 101, 99, 116, 105, 111, 110]⟩, ⟨#[99, 108, 111, 115, 101, 44, 32, 88, 45, 65]⟩), (⟨#[88, 45, 65]⟩, ⟨#[49]⟩), (⟨#[88, 45, 66]⟩, ⟨#[50]⟩)]
def awHb : List Fld := [(⟨#[88, 45, 66]⟩, ⟨#[50]⟩)]
def awC : List Fld := [(xffP, ⟨#[49]⟩)]
def awD : List Fld := [(xffP, ⟨#[49, 44, 32, 55]⟩), (viaP, selfP)]
theorem aw_strip : stripL awA = awHb := by decide +kernel
theorem aw_fwd : fwdL awC false 0 ⟨#[55]⟩ = awD := by decide +kernel
theorem aw_smallA : SmallF awA := by
 have h : awA.all (fun f => decide (f.1.size ≤ 1048576) && decide (f.2.size ≤ 1048576)) = true := by decide +kernel
 intro f hf
 have h1 := List.all_eq_true.1 h f hf
 rw [Bool.and_eq_true] at h1
 exact ⟨of_decide_eq_true h1.1, of_decide_eq_true h1.2⟩
theorem aw_smallC : SmallF awC := by
 have h : awC.all (fun f => decide (f.1.size ≤ 1048576) && decide (f.2.size ≤ 1048576)) = true := by decide +kernel
 intro f hf
 have h1 := List.all_eq_true.1 h f hf
 rw [Bool.and_eq_true] at h1
 exact ⟨of_decide_eq_true h1.1, of_decide_eq_true h1.2⟩
theorem fldsIn_new (w : World) (l : List Fld) (cs : Array Value) (h : cs = (cellsF l).toArray) : FldsIn (w.alloc (.cells cs 31)) (some ⟨w.heap.size, 0, none⟩) l := by
 refine FldsIn.of_cells fun j u hj => ?_
 rw [Addr.add_lit, Nat.zero_add, new_cellF, h]
 simpa using hj
theorem OwnF.lit {B : Nat} {w : World} {v : Value} {l : List Fld} (h : OwnF B w v l) (hne : l ≠ []) : ∃ g cap, v = .slice (some ⟨g, 0, none⟩) l.length cap ∧ g < w.heap.size ∧ ∀ j u, (cellsF l)[j]? = some u → w.cell? ⟨g, j, none⟩ = some u := by
 obtain ⟨a, c, hv, hs, _⟩ := h.shape
 rcases h.2 with ⟨_, h2⟩ | ⟨g, cap, cur, hv', _, hc, _⟩
 · exact absurd (List.eq_nil_of_length_eq_zero h2) hne
 · rw [hv] at hv'
   cases hv'
   refine ⟨g, c, hv, (Array.getElem?_eq_some_iff.1 hc).1, fun j u hj => ?_⟩
   have := hs.1.cells j u hj
   rwa [Addr.add_lit, Nat.zero_add] at this
set_option maxRecDepth 100000 in
set_option maxHeartbeats 4000000 in
theorem awakeHop_any (w : World) (mm : Int) (hm : MaxOk w mm) (ht : Tabs w) : Calls Tryd.prog 9 #[] w fun e w' => e = .returned (.bool true) ∧ Below w.heap.size w w' := by
 obtain ⟨W1, hW1⟩ : ∃ W1, W1 = w.alloc (.cells (cellsF awA).toArray 31) := ⟨_, rfl⟩
 have HB1 := Box.mk (show Below w.heap.size w W1 by rw [hW1]; exact below_oneF w _)
 have HF1 := Box.mk (show FldsIn W1 (some ⟨w.heap.size, 0, none⟩) awA by rw [hW1]; exact fldsIn_new w awA _ rfl)
 have HM := Box.mk (And.intro (hm.keep HB1.out) (tabs_below ht HB1.out))
 clear hm ht
 go_enter Tryd.func9, Tryd.ntmps9
 go_wp2_with fail
 change Calls _ _ _ (w.alloc (.cells (cellsF awA).toArray 31)) _
 rw [← hW1]
 clear hW1
 refine (hStrip_any awA _ 3 W1 mm HF1.out aw_smallA.short (by decide) HM.out.1 (by decide +kernel)).mono ?_
 rintro e w2 ⟨v2, rfl, hv2⟩
 rw [aw_strip] at hv2
 obtain ⟨g2, c2, hve, hg2, hs2⟩ := hv2.own.lit (by decide)
 have hve : v2 = .slice (some ⟨g2, 0, none⟩) 1 c2 := hve
 subst hve
 have HB2 := Box.mk (below_trans HB1.out hv2.2)
 have HM2 := Box.mk (And.intro (HM.out.1.keep hv2.2) (tabs_below HM.out.2 hv2.2))
 have HC2 := Box.mk (show w2.cell? ⟨g2, 0, none⟩ = some (.string ⟨#[88, 45, 66]⟩) from hs2 0 _ rfl)
 clear hv2 hs2 HF1 HB1 HM hg2
 go_wp2_with fail
 obtain ⟨W3, hW3⟩ : ∃ W3, W3 = w2.alloc (.cells #[.string ⟨#[88, 45, 70, 111, 114, 119, 97, 114, 100, 101, 100, 45, 70, 111, 114]⟩, .string ⟨#[49]⟩] 31) := ⟨_, rfl⟩
 have hb3 : Below w2.heap.size w2 W3 := by rw [hW3]; exact below_oneF w2 _
 have HF3 := Box.mk (show FldsIn W3 (some ⟨w2.heap.size, 0, none⟩) awC by rw [hW3]; exact fldsIn_new w2 awC _ rfl)
 have HM3 := Box.mk (And.intro (HM2.out.1.keep hb3) (tabs_below HM2.out.2 hb3))
 have HB3 := Box.mk (below_trans HB2.out hb3)
 have HC3 := Box.mk (below_cell hb3 HC2.out)
 rw [← hW3]
 clear hW3 hb3 HM2 HC2 HB2
 refine (hForward_any ⟨#[71, 69, 84]⟩ ⟨#[47]⟩ ⟨#[55]⟩ 0 awC _ 1 false [] none 0 W3 mm HF3.out aw_smallC (by decide) (by decide) HM3.out.1 HM3.out.2 (.inl ⟨rfl, rfl, rfl⟩) (by decide)).mono ?_
 rintro e w4 ⟨v4, b4, c4, rfl, ho4, _, hb4⟩
 have ho4 : OwnF W3.heap.size w4 v4 awD := by rw [← aw_fwd]; exact ho4
 obtain ⟨g4, c5, hve, hg4, hs4⟩ := ho4.lit (by decide)
 have hve : v4 = .slice (some ⟨g4, 0, none⟩) 2 c5 := hve
 subst hve
 have HB4 := Box.mk (below_trans HB3.out hb4)
 have hbx := below_oneF w4 (.cells #[.string ⟨#[71, 69, 84]⟩, .string ⟨#[47]⟩, .int .i64 1, .slice (some ⟨g4, 0, none⟩) 2 c5, .bool false, .slice b4 0 c4] 34)
 have hx0 := below_cell hbx (below_cell hb4 HC3.out)
 have hx1 := below_cell hbx (show w4.cell? ⟨g4, 0, none⟩ = some (.string ⟨#[88, 45, 70, 111, 114, 119, 97, 114, 100, 101, 100, 45, 70, 111, 114]⟩) from hs4 0 _ rfl)
 have hx2 := below_cell hbx (show w4.cell? ⟨g4, 1, none⟩ = some (.string ⟨#[49, 44, 32, 55]⟩) from hs4 1 _ rfl)
 have hx3 := below_cell hbx (show w4.cell? ⟨g4, 2, none⟩ = some (.string ⟨#[86, 105, 97]⟩) from hs4 2 _ rfl)
 have hx4 := below_cell hbx (show w4.cell? ⟨g4, 3, none⟩ = some (.string ⟨#[49, 46, 49, 32, 99, 97, 110, 97, 114, 121]⟩) from hs4 3 _ rfl)
 have HB5 := Box.mk (below_trans HB4.out hbx)
 clear ho4 hb4 hs4 hg4 HC3 HB3 HB4 HF3 HM3 hbx
 go_wp2_with fail
 go_ret
 exact ⟨rfl, HB5.out⟩
def namesE : List ByteArray := [⟨#[88, 45, 65]⟩, ⟨#[120, 45, 97]⟩, ⟨#[65, 99, 99, 101, 112, 116]⟩, ⟨#[68, 97, 116, 101]⟩, ⟨#[69, 84, 97, 103]⟩, ⟨#[67, 111, 111, 107, 105, 101]⟩]
def valsE : List ByteArray := [⟨#[]⟩, ⟨#[49]⟩, ⟨#[97, 44, 32, 98]⟩]
def FldE (f : Fld) : Prop := f.1 ∈ namesE ∧ f.2 ∈ valsE
theorem namesE_ok : (namesE.all fun s => !inFoldL nineN s && !foldS s cnN && !foldS s xffP && !foldS s viaP && decide (s.size ≤ 1000)) = true := by decide +kernel
theorem valsE_ok : (valsE.all fun s => decide (s.size ≤ 1000)) = true := by decide +kernel
theorem ext_new (l : List Fld) (n last : ByteArray) (h : ∀ f ∈ l, foldS f.1 n = false) : extL l n last = l ++ [(n, last)] := by
 have h1 : withoutL l [n] = l := by
  unfold withoutL
  rw [List.filter_eq_self]
  intro f hf
  rw [inFoldL_one, foldS_cm, h f hf]; rfl
 have h2 : valuesL l n = [] := by
  unfold valuesL
  rw [List.map_eq_nil_iff, List.filter_eq_nil_iff]
  intro f hf e
  rw [h f hf] at e; cases e
 unfold extL
 rw [h1, h2]
 show l ++ [(n, joinS [last])] = _
 rw [joinS_one]
theorem FldE.ok {f : Fld} (h : FldE f) : inFoldL nineN f.1 = false ∧ foldS f.1 cnN = false ∧ foldS f.1 xffP = false ∧ foldS f.1 viaP = false ∧ f.1.size ≤ 1000 ∧ f.2.size ≤ 1000 := by
 have h1 := List.all_eq_true.1 namesE_ok f.1 h.1
 have h2 := List.all_eq_true.1 valsE_ok f.2 h.2
 simp only [Bool.and_eq_true, Bool.not_eq_true', decide_eq_true_eq] at h1 h2
 exact ⟨h1.1.1.1.1, h1.1.1.1.2, h1.1.1.2, h1.1.2, h1.2, h2⟩
theorem strip_e {x : List Fld} (h : ∀ f ∈ x, FldE f) : stripL x = x := by
 have h2 : valuesL x cnN = [] := by
  unfold valuesL
  rw [List.map_eq_nil_iff, List.filter_eq_nil_iff]
  intro f hf e
  rw [(h f hf).ok.2.1] at e; cases e
 have e : stripNs x = nineN := by unfold stripNs; rw [h2]; rfl
 unfold stripL withoutL
 rw [e, List.filter_eq_self]
 intro f hf
 rw [(h f hf).ok.1]; rfl
theorem fwd_e {x : List Fld} (h : ∀ f ∈ x, FldE f) (k : Int) : fwdL x false k ⟨#[49]⟩ = x ++ [(xffP, ⟨#[49]⟩), (viaP, selfP)] := by
 unfold fwdL
 rw [strip_e h, ext_new x xffP _ (fun f hf => (h f hf).ok.2.2.1)]
 unfold viaL
 rw [ext_new _ viaP _ (fun f hf => by
  rcases List.mem_append.1 hf with hf | hf
  · exact (h f hf).ok.2.2.2.1
  · obtain rfl := List.mem_singleton.1 hf; exact xff_via)]
 simp
theorem bwd_e {x : List Fld} (h : ∀ f ∈ x, FldE f) (k : Int) : viaL (stripL x) ++ [lenF k] = x ++ [(viaP, selfP), lenF k] := by
 rw [strip_e h]
 unfold viaL
 rw [ext_new x viaP _ (fun f hf => (h f hf).ok.2.2.2.1)]
 simp
theorem small_e {x : List Fld} (h : ∀ f ∈ x, FldE f) : SmallF x := fun f hf => by
 obtain ⟨_, _, _, _, h1, h2⟩ := (h f hf).ok
 exact ⟨by omega, by omega⟩
theorem own_in {B : Nat} {w : World} {a : Option Addr} {n c : Nat} {l : List Fld} (h : OwnF B w (.slice a n c) l) : FldsIn w a l ∧ l.length ≤ c := by
 obtain ⟨a2, c2, hv, h1, h2⟩ := h.shape
 injection hv with e1 e2 e3
 subst e1 e3
 exact ⟨h1.1, h2⟩
theorem own_max {B : Nat} {w : World} {a : Option Addr} {n c : Nat} {l : List Fld} (h : OwnF B w (.slice a n c) l) : c ≤ 9223372036854775807 := by
 rcases h.2 with ⟨h1, _⟩ | ⟨g, cap, cur, h1, _, _, _, h4, _⟩
 · cases h1; exact Nat.zero_le _
 · cases h1
   unfold maxLen at h4
   omega
set_option maxRecDepth 100000 in
set_option maxHeartbeats 4000000 in
theorem hopEndToEnd_any (a : Option Addr) (n c : Nat) (w : World) (mm : Int) (hi : IntsF w a n) (hn : n ≤ maxLen) (hm : MaxOk w mm) (ht : Tabs w) :
  Calls Tryd.prog 3 #[.slice a n c] w fun e w' => e = .returned (.bool true) ∧ Below w.heap.size w w' := by
 have HLOW := Box.mk (show ∀ y, a = some y → 0 < n → y.block < w.heap.size from fun y e h0 => by
  obtain ⟨x, z, e1, h1, _⟩ := hi 0 h0
  rw [e] at e1
  obtain rfl := Option.some.inj e1
  have := lt_cell h1
  rwa [add_blockF] at this)
 have HSB := Box.mk (src_box (c := c) hi hn)
 have HBB := Box.mk (below_oneF w (.cells #[.slice a n c, .int .i64 0] 25))
 have HWS := Box.mk (show (w.alloc (.cells #[.slice a n c, .int .i64 0] 25)).heap.size = w.heap.size + 1 by rw [World.size_alloc])
 have HM := Box.mk (And.intro hm ht)
 clear hi hn hm ht
 go_enter Tryd.func3, Tryd.ntmps3
 go_wp2_with fail
 generalize hWW : w.alloc (.cells #[.slice a n c, .int .i64 0] 25) = W at *
 clear hWW
 refine (next_any w.heap.size 6 a n c W HSB.out (by decide) (by decide)).mono ?_
 rintro e w1 ⟨k, hk, rfl, hsrc, hg1⟩
 have HS1 := Box.mk hsrc
 have HG1 := Box.mk hg1
 clear hsrc hg1 HSB
 generalize hg : w.heap.size = g at *
 have HG := Box.mk hg
 clear hg
 go_wp2_with fail
 go_loopw [4, 5] (fun v iv wr => ∃ j : Nat, j ≤ 5 ∧ iv = .int .i64 j ∧ ∃ l : List Fld, l.length + j ≤ 5 ∧ Box (OwnF (g + 1) wr v l ∧ (∀ f ∈ l, FldE f) ∧ Src wr g a n c ∧ W.grownBy wr (some g))) (fun _ iv _ => (intOf iv).toNat)
 case atStart => exact ⟨k, by omega, rfl, [], by simp; omega, ⟨OwnF.start _ _, by simp, HS1.out, HG1.out⟩⟩
 case round =>
  clear HS1 HG1
  obtain ⟨j, hj, rfl, l, hl, HR⟩ := hrel
  by_cases hpos : 0 < j
  · have HS := Box.mk HR.out.2.2.1
    have HGr := Box.mk HR.out.2.2.2
    have HO := Box.mk HR.out.1
    have HA := Box.mk HR.out.2.1
    have hlr := HR.out.2.2.1.lt
    clear HR
    go_wp2_with fail
    obtain ⟨W2, hW2⟩ : ∃ W2, W2 = wr.alloc (.cells (namesE.map Value.string).toArray 9) := ⟨_, rfl⟩
    have HLW2 := Box.mk (show StrsIn W2 (some ⟨wr.heap.size, 0, none⟩) namesE by rw [hW2]; exact strsIn_newF wr namesE 9)
    have hbW2 : Below wr.heap.size wr W2 := by rw [hW2]; exact below_oneF wr _
    have hltW2 := HS.out.lt
    change Calls _ _ _ (wr.alloc (.cells (namesE.map Value.string).toArray 9)) _
    rw [← hW2]
    clear hW2
    refine (of_n g wr.heap.size 6 namesE 6 a n c W2 (HS.out.keep hbW2) HLW2.out (by omega) rfl (by decide) (by decide)).mono ?_
    rintro e w3 ⟨s, hs, rfl, hsrc, hgn⟩
    have HSw3 := Box.mk hsrc
    have HMs := Box.mk hs
    have HGw3 := Box.mk (grownBy_trans HGr.out (grownBy_trans (grownBy_below hbW2) hgn))
    have HOw3 := Box.mk ((HO.out.keep hbW2).grown hgn (fun q hq e => by have := (HO.out.lt hq).1; have := Option.some.inj e; omega))
    clear hsrc hgn hs HLW2 hbW2 hltW2
    go_wp2_with fail
    obtain ⟨W4, hW4⟩ : ∃ W4, W4 = w3.alloc (.cells (valsE.map Value.string).toArray 9) := ⟨_, rfl⟩
    have HLW4 := Box.mk (show StrsIn W4 (some ⟨w3.heap.size, 0, none⟩) valsE by rw [hW4]; exact strsIn_newF w3 valsE 9)
    have hbW4 : Below w3.heap.size w3 W4 := by rw [hW4]; exact below_oneF w3 _
    have hltW4 := HSw3.out.lt
    change Calls _ _ _ (w3.alloc (.cells (valsE.map Value.string).toArray 9)) _
    rw [← hW4]
    clear hW4
    refine (of_n g w3.heap.size 3 valsE 3 a n c W4 (HSw3.out.keep hbW4) HLW4.out (by omega) rfl (by decide) (by decide)).mono ?_
    rintro e w5 ⟨t, ht, rfl, hsrc, hgn⟩
    have HSw5 := Box.mk hsrc
    have HMt := Box.mk ht
    have HGw5 := Box.mk (grownBy_trans HGw3.out (grownBy_trans (grownBy_below hbW4) hgn))
    have HOw5 := Box.mk ((HOw3.out.keep hbW4).grown hgn (fun q hq e => by have := (HOw3.out.lt hq).1; have := Option.some.inj e; omega))
    clear hsrc hgn ht HLW4 hbW4 hltW4
    have HALL := Box.mk (show ∀ y ∈ l ++ [((s, t) : Fld)], FldE y from fun y hy => by
     rcases List.mem_append.1 hy with h1 | h1
     · exact HA.out y h1
     · obtain rfl := List.mem_singleton.1 h1; exact ⟨HMs.out, HMt.out⟩)
    have hsz := HGw5.out.size
    have hws := HWS.out
    clear HS HGr HO HA HSw3 HGw3 HOw3 HMs HMt
    go_wp2_with (at_builtin; refine wpList_append_ownf _ rfl _ _ rfl rfl (HOw5.out.keep ((Below.refl _ _).alloc (Nat.le_refl _) _)) rfl (y := ((s, t) : Fld)) (by simp) (by simp) (by omega) (by simp; omega) ?c3)
    case c3 =>
     intro v' w6 hown hgrow
     have HO6 := Box.mk hown
     have hgrow2 : w5.grownBy w6 u4.ownBlock := ⟨hgrow.os, hgrow.tape, hgrow.output, Nat.le_trans (by simp) hgrow.size, fun k hk hne => by
      rw [hgrow.block k (by simp; omega) hne]
      exact (below_oneF w5 _).block k hk⟩
     have HS6 := Box.mk (HSw5.out.grown hgrow2 (fun e => by have := (HOw5.out.lt e.symm).1; omega) (fun x e h0 e2 => by have := (HOw5.out.lt e2.symm).1; have := HLOW.out x e h0; omega))
     have HG6 := Box.mk (grownBy_new HGw5.out hgrow2 (fun i e => by have := (HOw5.out.lt e).1; omega))
     clear hown hgrow hgrow2 HOw5 HSw5 HGw5 hws
     go_wp2_with fail
     go_roundw
     case rel => exact ⟨j - 1, by omega, by go_num, l ++ [(s, t)], by simp; omega, ⟨HO6.out, HALL.out, HS6.out, HG6.out⟩⟩
     case measure => simp [intOf]; omega
  · obtain rfl : j = 0 := by omega
    obtain ⟨xa, xc, hve, hxf, _⟩ := HR.out.1.shape
    subst hve
    have HX := Box.mk (And.intro hxf.1 (And.intro HR.out.2.1 (small_e HR.out.2.1)))
    have HBr := Box.mk (show Below w.heap.size w wr from (show Below w.heap.size w W by rw [HG.out]; exact HBB.out).grown HR.out.2.2.2 (by have := HWS.out; have := HG.out; omega) (fun q e => by have := Option.some.inj e; have := HG.out; omega))
    have HMr := Box.mk (And.intro (HM.out.1.keep HBr.out) (tabs_below HM.out.2 HBr.out))
    have hx5 : l.length ≤ 5 := by omega
    clear HR HM HBB HWS HLOW hxf
    go_wp2_with fail
    refine (hForward_any ⟨#[71, 69, 84]⟩ ⟨#[47]⟩ ⟨#[49]⟩ 1 l xa xc false [] none 0 wr mm HX.out.1 HX.out.2.2 (by omega) (by decide) HMr.out.1 HMr.out.2 (.inl ⟨rfl, rfl, rfl⟩) (by decide)).mono ?_
    rintro e w2 ⟨v2, b2, c2, rfl, ho2, _, hb2⟩
    rw [fwd_e HX.out.2.1] at ho2
    obtain ⟨F, hF⟩ : ∃ F, F = l ++ [(xffP, ⟨#[49]⟩), (viaP, selfP)] := ⟨_, rfl⟩
    rw [← hF] at ho2
    have hFl : F.length = l.length + 2 := by rw [hF, List.length_append]; rfl
    have hFt : F.take l.length = l := by rw [hF]; exact List.take_left' rfl
    obtain ⟨fa, fc, hve, hfi, hfc⟩ := ho2.shape
    subst hve
    have hfm := own_max ho2
    have HFT := Box.mk (And.intro hFt (And.intro hfi.1 hFl))
    clear ho2 hFt hfi hF
    obtain ⟨N, hN⟩ : ∃ N, N = F.length := ⟨_, rfl⟩
    rw [← hN] at hfc hFl ⊢
    have HNE := Box.mk hN
    have hne1 : ((N : Int) != (l.length : Int) + 2) = false := by rw [hFl]; simp
    have hNl : l.length ≤ fc := by omega
    have HB2 := Box.mk hb2
    have HFL := Box.mk hFl
    clear hb2 hN hFl hfc
    obtain ⟨W3, hW3⟩ : ∃ W3, W3 = w2.alloc (.cells #[.string ⟨#[71, 69, 84]⟩, .string ⟨#[47]⟩, .int .i64 1, .slice fa N fc, .bool false, .slice b2 0 c2] 34) := ⟨_, rfl⟩
    have hb3 : Below w2.heap.size w2 W3 := by rw [hW3]; exact below_oneF _ _
    have HR3 := Box.mk (show W3.heap[w2.heap.size]? = some (.cells #[.string ⟨#[71, 69, 84]⟩, .string ⟨#[47]⟩, .int .i64 1, .slice fa N fc, .bool false, .slice b2 0 c2] 34 (0, 0)) by rw [hW3]; exact heap_alloc_new _ _)
    have HB3 := Box.mk (below_trans HB2.out hb3)
    have HF3 := Box.mk (HFT.out.2.1.keep hb3)
    have HW3 := Box.mk hW3
    clear hb3 hW3
    go_wp2_with fail
    rw [← HW3.out]
    clear HW3
    generalize hg2 : w2.heap.size = g2 at *
    clear hg2
    refine (hBackward_get ⟨#[]⟩ 1 3 l xa xc W3 mm (HX.out.1.keep HB3.out) HX.out.2.2 (by omega) (HMr.out.1.keep HB3.out) (tabs_below HMr.out.2 HB3.out) (by decide)).mono ?_
    rintro e w4 ⟨v4, b4, c4, rfl, ho4, hb4⟩
    have ho4 : OwnF W3.heap.size w4 v4 (l ++ [(viaP, selfP), lenF 3]) := by rw [← bwd_e HX.out.2.1]; exact ho4
    obtain ⟨F4, hF4⟩ : ∃ F4, F4 = l ++ [(viaP, selfP), lenF 3] := ⟨_, rfl⟩
    rw [← hF4] at ho4
    have hFl4 : F4.length = l.length + 2 := by rw [hF4, List.length_append]; rfl
    have hFt4 : F4.take l.length = l := by rw [hF4]; exact List.take_left' rfl
    have hFc : (cellsF F4)[(l.length + 1) * 2]? = some (.string (lenF 3).1) ∧ (cellsF F4)[(l.length + 1) * 2 + 1]? = some (.string (lenF 3).2) := by
     have h1 := cellsF_get F4 (l.length + 1) (by omega)
     have h2 : F4[l.length + 1]'(by omega) = lenF 3 := by
      have : F4[l.length + 1]? = some (lenF 3) := by
       rw [hF4, List.getElem?_append_right (by omega), show l.length + 1 - l.length = 1 by omega]; rfl
      exact (List.getElem?_eq_some_iff.1 this).2
     rw [h2] at h1; exact h1
    obtain ⟨g4, fc4, hve, hg4, hcs4⟩ := ho4.lit (by rw [hF4]; simp)
    subst hve
    have hNF : F4.length = N := by rw [hFl4, HFL.out]
    rw [hNF] at ho4 ⊢
    have hfc4 := (own_in ho4).2
    have hfm4 := own_max ho4
    have hNl4 : l.length ≤ fc4 := by have := HFL.out; omega
    have HF4 := Box.mk (show FldsIn w4 (some ⟨g4, 0, none⟩) l by
     have h1 := (own_in ho4).1.take l.length
     rwa [hFt4] at h1)
    have hb5 := below_oneF w4 (.cells #[.int .i64 200, .string ⟨#[]⟩, .int .i64 1, .slice (some ⟨g4, 0, none⟩) N fc4, .slice b4 0 c4] 37)
    have hb35 := below_trans hb4 hb5
    have HR5 := Box.mk ((hb35.block g2 (Array.getElem?_eq_some_iff.1 HR3.out).1).trans HR3.out)
    have hq3 : (w4.alloc (.cells #[.int .i64 200, .string ⟨#[]⟩, .int .i64 1, .slice (some ⟨g4, 0, none⟩) N fc4, .slice b4 0 c4] 37)).cell? ⟨g2, 3, none⟩ = some (.slice fa N fc) := by rw [cell_of_row _ _ _ _ _ _ HR5.out]; rfl
    have hx1 : (w4.alloc (.cells #[.int .i64 200, .string ⟨#[]⟩, .int .i64 1, .slice (some ⟨g4, 0, none⟩) N fc4, .slice b4 0 c4] 37)).cell? ⟨g4, (l.length + 1) * 2, none⟩ = some (.string ⟨#[67, 111, 110, 116, 101, 110, 116, 45, 76, 101, 110, 103, 116, 104]⟩) := below_cell hb5 (hcs4 _ _ hFc.1)
    have hx2 : (w4.alloc (.cells #[.int .i64 200, .string ⟨#[]⟩, .int .i64 1, .slice (some ⟨g4, 0, none⟩) N fc4, .slice b4 0 c4] 37)).cell? ⟨g4, (l.length + 1) * 2 + 1, none⟩ = some (.string ⟨#[51]⟩) := below_cell hb5 (hcs4 _ _ hFc.2)
    have HX5 := Box.mk (And.intro (HX.out.1.keep (below_trans HB3.out hb35)) (And.intro (HF3.out.keep hb35) (HF4.out.keep hb5)))
    have HB5 := Box.mk (below_trans (below_trans HBr.out HB3.out) hb35)
    have HM5 := Box.mk (And.intro (HMr.out.1.keep (below_trans HB3.out hb35)) (tabs_below HMr.out.2 (below_trans HB3.out hb35)))
    have hidx : l.length + 1 < N := by have := HFL.out; omega
    clear hb4 hb5 hb35 ho4 hcs4 hFc hFt4 hFl4 hF4 hNF HF4 HF3 HR3 HB3 HB2 hfc4 HMr hg4
    go_wp2_with fail
    have hrow5 : (w4.alloc (.cells #[.int .i64 200, .string ⟨#[]⟩, .int .i64 1, .slice (some ⟨g4, 0, none⟩) N fc4, .slice b4 0 c4] 37)).heap[w4.heap.size]? = some (.cells #[.int .i64 200, .string ⟨#[]⟩, .int .i64 1, .slice (some ⟨g4, 0, none⟩) N fc4, .slice b4 0 c4] 37 (0, 0)) := heap_alloc_new _ _
    generalize (w4.alloc (.cells #[.int .i64 200, .string ⟨#[]⟩, .int .i64 1, .slice (some ⟨g4, 0, none⟩) N fc4, .slice b4 0 c4] 37)) = W5 at *
    generalize w4.heap.size = g5 at *
    refine (same_true l fa xa fc xc W5 (by have h1 := HX5.out.2.1.take l.length; rwa [HFT.out.1] at h1) HX5.out.1 (by omega)).mono ?_
    rintro e w6 ⟨rfl, hb6⟩
    have hz3 : w6.cell? ⟨g5, 3, none⟩ = some (.slice (some ⟨g4, 0, none⟩) N fc4) := below_cell hb6 (by rw [cell_of_row _ _ _ _ _ _ hrow5]; rfl)
    have hy1 := below_cell hb6 hx1
    have hy2 := below_cell hb6 hx2
    have HX6 := Box.mk (And.intro (HX5.out.1.keep hb6) (HX5.out.2.2.keep hb6))
    have HB6 := Box.mk (below_trans HB5.out hb6)
    have HM6 := Box.mk (And.intro (HM5.out.1.keep hb6) (tabs_below HM5.out.2 hb6))
    clear hb6 HX5 HB5 HM5 hx1 hx2 hrow5 HR5 hq3
    go_wp2_with fail
    refine (same_true l (some ⟨g4, 0, none⟩) xa fc4 xc w6 HX6.out.2 HX6.out.1 (by omega)).mono ?_
    rintro e w7 ⟨rfl, hb7⟩
    have hu3 := below_cell hb7 hz3
    have hu1 := below_cell hb7 hy1
    have hu2 := below_cell hb7 hy2
    have HB7 := Box.mk (below_trans HB6.out hb7)
    have HM7 := Box.mk (And.intro (HM6.out.1.keep hb7) (tabs_below HM6.out.2 hb7))
    clear hb7 HX6 HB6 HM6 hy1 hy2 hz3
    go_wp2_with fail
    refine (awakeHop_any w7 mm HM7.out.1 HM7.out.2).mono ?_
    rintro e w8 ⟨rfl, hb8⟩
    have HB8 := Box.mk (below_trans HB7.out hb8)
    clear hb8 HM7
    go_wp2_with fail
    go_ret
    exact ⟨rfl, HB8.out⟩
end Go.Proofs.YtfghgenboahkkaaDoor
namespace Go.Proofs.YtfghgenboahkkaaDoor
open Go.ChangeShapes Go.WideShapes Go.ChangeAt Go.RowKit
def dB64 : List Int := [0, 1, 56, 2, 57, 49, 28, 3, 61, 58, 42, 50, 38, 29, 17, 4, 62, 47, 59, 36, 45, 43, 51, 22, 53, 39, 33, 30, 24, 18, 12, 5, 63, 55, 48, 27, 60, 41, 37, 16, 46, 35, 44, 21, 52, 32, 23, 11, 54, 26, 40, 15, 34, 20, 31, 10, 25, 14, 19, 9, 13, 8, 7, 6]
theorem tabs_of_laid {W : World} {l : List (String × DataW Unit)} (h : laidMetH Tryd.prog l W)
  (e1 : l.filter (fun x => x.1 == "internal/strconv.uint64pow10") = [("internal/strconv.uint64pow10", Lib.tabData .u64 Lib.pow10Tab)])
  (e2 : l.filter (fun x => x.1 == "math/bits.deBruijn64tab") = [("math/bits.deBruijn64tab", Lib.tabData .u8 dB64)]) : Tabs W := by
 have h1 := h.filter (fun x => x.1 == "internal/strconv.uint64pow10")
 have h2 := h.filter (fun x => x.1 == "math/bits.deBruijn64tab")
 rw [e1] at h1
 rw [e2] at h2
 rw [MakeChecks.laidMetH_plain _ _ _ (by kernel_rfl)] at h1 h2
 have t1 := Lib.tabIs_of_head (g := 1) (t := 107) (e := 91) (n := 20) (by kernel_rfl) (by kernel_rfl) (by kernel_rfl) (by kernel_rfl) (by kernel_rfl) (by kernel_rfl) h1
 have t2 := Lib.tabIs_of_head (g := 3) (t := 123) (e := 5) (n := 64) (by kernel_rfl) (by kernel_rfl) (by kernel_rfl) (by kernel_rfl) (by kernel_rfl) (by kernel_rfl) h2
 refine ⟨t1, t2.cell (by kernel_rfl) 15 (by decide), lt_cell (t1.cell (by kernel_rfl) 0 (by decide))⟩
end Go.Proofs.YtfghgenboahkkaaDoor
