/- The law's awake; safe. The law FieldParse. The fields that the laws make. The law CookieID. -/
import Derived.Test.YthgiplnidnkajaaDoorPr1
namespace Go.Proofs.YthgiplnidnkajaaDoor
open Go.RowKit
theorem AccP.lit {w0 w : World} {v : Value} {l : List Fld} (h : AccP w0 w v l) (hne : l ≠ []) : ∃ g cap, v = .slice (some ⟨g, 0, none⟩) l.length cap ∧ g < w.heap.size ∧ ∀ j u, (cellsF l)[j]? = some u → w.cell? ⟨g, j, none⟩ = some u := by
 obtain ⟨a, c, hv, hs⟩ := h.shape
 rcases h.1.2 with ⟨_, h2⟩ | ⟨g, cap, cur, hv', _, hc, _⟩
 · exact absurd (List.eq_nil_of_length_eq_zero h2) hne
 · rw [hv] at hv'
   cases hv'
   refine ⟨g, c, hv, (Array.getElem?_eq_some_iff.1 hc).1, fun j u hj => ?_⟩
   have := hs.cells j u hj
   rwa [Addr.add_lit, Nat.zero_add] at this
def awCk : List Fld := [(ckL, ⟨#[97, 61, 49, 59, 32, 98, 59, 32, 99, 61, 120, 61, 121]⟩)]
def awPs : List Fld := [(⟨#[97]⟩, ⟨#[49]⟩), (⟨#[99]⟩, ⟨#[120, 61, 121]⟩)]
def awI1 : ByteArray := ⟨#[48, 49, 50, 51, 52, 53, 54, 55, 56, 57, 97, 98, 99, 100, 101, 102]⟩
def awI2 : ByteArray := ⟨#[48, 49, 50, 51, 52, 53, 54, 55, 56, 57, 97, 98, 99, 100, 101, 70]⟩
theorem awCk_ps : pairsL (valuesL awCk ckL) = awPs := by decide +kernel
theorem awCk_total : total (valuesL awCk ckL) ≤ 4000000000 := by decide +kernel
theorem awI1_yes : idS awI1 = true := by decide +kernel
theorem awI2_no : idS awI2 = false := by decide +kernel
theorem awCk_short : ShortF awCk := by
 have h : awCk.all (fun f => decide (f.1.size ≤ maxLen) && decide (f.2.size ≤ maxLen)) = true := by decide +kernel
 intro f hf
 have h1 := List.all_eq_true.1 h f hf
 rw [Bool.and_eq_true] at h1
 exact ⟨of_decide_eq_true h1.1, of_decide_eq_true h1.2⟩
theorem ckID_eq {s : ByteArray} {r : Bool} (w : World) (hs : s.size ≤ maxLen) (h : idS s = r) :
  Calls Tryd.prog 15 #[.string s] w fun e w' => e = .returned (.bool r) ∧ w = w' := by
 subst h; exact ckID_any s w hs
theorem refID_eq {s : ByteArray} {r : Bool} (w : World) (hs : s.size ≤ maxLen) (h : idS s = r) :
  Calls Tryd.prog 16 #[.string s] w fun e w' => e = .returned (.bool r) ∧ w = w' := by
 subst h; exact refID_any s w hs
set_option maxRecDepth 100000 in
set_option maxHeartbeats 4000000 in
theorem ckAwake_any (w : World) (m : Int) (hm : w.cell? ⟨0, 0, none⟩ = some (.int .i64 m)) : Calls Tryd.prog 8 #[] w fun e w' => e = .returned (.bool true) ∧ Below w.heap.size w w' := by
 obtain ⟨W1, hW1⟩ : ∃ W1, W1 = w.alloc (.cells (cellsF awCk).toArray 37) := ⟨_, rfl⟩
 have HB1 := Box.mk (show Below w.heap.size w W1 by rw [hW1]; exact below_oneF w _)
 have HF1 := Box.mk (show FldsIn W1 (some ⟨w.heap.size, 0, none⟩) awCk by rw [hW1]; exact fldsIn_new w awCk _ rfl)
 have HM := Box.mk (below_cell HB1.out hm)
 clear hm
 go_enter Tryd.func8, Tryd.ntmps8
 go_wp2_with fail
 change Calls _ _ _ (w.alloc (.cells (cellsF awCk).toArray 37)) _
 rw [← hW1]
 clear hW1
 refine (ckPairs_any awCk _ 1 W1 m HF1.out awCk_short (by decide) HM.out awCk_total).mono ?_
 rintro e w2 ⟨v2, rfl, hv2⟩
 rw [awCk_ps] at hv2
 obtain ⟨g2, c2, hve, hg2, hs2⟩ := hv2.lit (by decide)
 have hve : v2 = .slice (some ⟨g2, 0, none⟩) 2 c2 := hve
 subst hve
 have HB2 := Box.mk (below_trans HB1.out hv2.2)
 have hx0 := show w2.cell? ⟨g2, 0, none⟩ = some (.string ⟨#[97]⟩) from hs2 0 _ rfl
 have hx1 := show w2.cell? ⟨g2, 1, none⟩ = some (.string ⟨#[49]⟩) from hs2 1 _ rfl
 have hx2 := show w2.cell? ⟨g2, 2, none⟩ = some (.string ⟨#[99]⟩) from hs2 2 _ rfl
 have hx3 := show w2.cell? ⟨g2, 3, none⟩ = some (.string ⟨#[120, 61, 121]⟩) from hs2 3 _ rfl
 clear hv2 hs2 HF1 HB1 HM hg2
 go_wp2_with fail
 refine (ckID_eq _ (by decide) awI1_yes).mono ?_
 rintro e w3 ⟨rfl, rfl⟩
 go_wp2_with fail
 refine (ckID_eq _ (by decide) awI2_no).mono ?_
 rintro e w3 ⟨rfl, rfl⟩
 go_wp2_with fail
 go_ret
 exact ⟨rfl, HB2.out⟩
theorem IsBytes.takeF {w : World} {a : Option Addr} {l : List UInt8} {c : Nat} (h : IsBytes w a l c) (n : Nat) : IsBytes w a (l.take n) c := by
 rcases h with ⟨h1, h2, h3⟩ | ⟨x, h1, h2, h3, h4⟩
 · exact .inl ⟨h1, by rw [h2]; exact List.take_nil, h3⟩
 · exact .inr ⟨x, h1, by rw [List.length_take]; omega, h3, fun j hj => by rw [List.getElem_take]; exact h4 j (by rw [List.length_take] at hj; omega)⟩
theorem shortF_any (l : List UInt8) (a : Option Addr) (cap n : Nat) (w : World) (h : IsBytes w a l cap) (hn : n ≤ 1000) :
  Calls Tryd.prog 14 #[.slice a l.length cap, .int .i64 n] w fun e w' => ∃ cap', e = .returned (.slice a (l.take n).length cap') ∧ IsBytes w a (l.take n) cap' ∧ w = w' := by
 have H0 := Box.mk h
 clear h
 by_cases hlt : n < l.length
 · have HB := Box.mk (H0.out.takeF n)
   have hle : l.length ≤ cap := by
    rcases H0.out with ⟨h1, h2, _⟩ | ⟨x, h1, h2, _⟩
    · rw [h2] at hlt; exact absurd hlt (by simp)
    · exact h2
   have hl : (l.take n).length = n := by rw [List.length_take]; omega
   rw [hl]
   go_enter Tryd.func14, Tryd.ntmps14
   go_wp2
   go_ret
   exact ⟨_, rfl, HB.out, rfl⟩
 · rw [List.take_of_length_le (by omega)]
   go_enter Tryd.func14, Tryd.ntmps14
   go_wp2
   go_ret
   exact ⟨_, rfl, H0.out, rfl⟩
section
variable (s : ByteArray) (lb : List UInt8) (ab : Option Addr) (cb : Nat) (b : Option Addr) (n c : Nat) (p : Int) (ch : UInt8) (wild : Int) (w : World)
end
end Go.Proofs.YthgiplnidnkajaaDoor
namespace Go.Proofs.YthgiplnidnkajaaDoor
open Go.RowKit
theorem below_box14 {g : Nat} {w W w' : World} (hg : w.heap.size = g) (h : Below g w W) (k : W.grownBy w' (some g)) : Below w.heap.size w w' := by
 subst hg; exact below_box h k
def ckX : List UInt8 := [48, 48, 102, 49, 101, 50, 100, 51, 99, 52, 98, 53, 97, 54, 57, 55]
section
variable {Q : Exit → Act → World → Prop} {act : Act} {w : World} {o : Oper} {s : Spec}
theorem loc_eqlCk {x y : Operand} {t : TypeId} (ho : o.op = .binOp .eql 4 x y t) {b : Bool} (hx : act.eval x = .bool b) (hy : act.eval y = .bool b) (hs : s.p (.bool true) w) :
  o.wp Tryd.prog act w (fun a' w' => ∃ v, a' = act.put o.dst v ∧ Below w.heap.size w w' ∧ s.p v w') Q :=
 loc_run (v := .bool true) (by
  unfold execOp
  simp only [ho, hx, hy]
  have he : (Op.equalIn Op.maxDepth 4 (.bool b) (.bool b)).run Tryd.prog w = .ok true w := by
   rw [show Op.maxDepth = 9999 + 1 from rfl]
   unfold Op.equalIn
   rw [Sem.run_bind, run_underlying Tryd.underlying4]
   cases b <;> rfl
  simp [eqGuard, binOp, Op.equal, he]) (Below.refl _ _) hs
theorem eq_fieldCk (a b : ByteArray) (w : World) : (Op.equalIn Op.maxDepth 37 (.agg #[.string a, .string b]) (.agg #[.string a, .string b])).run Tryd.prog w = .ok true w := by
 rw [show Op.maxDepth = 9999 + 1 from rfl, run_equalIn_struct w 9999 _ _ _ (by kernel_rfl) (by kernel_rfl)]
 go_simp
theorem loc_eqlFCk {x y : Operand} {t : TypeId} (ho : o.op = .binOp .eql 37 x y t) {a b : ByteArray} (hx : act.eval x = .agg #[.string a, .string b]) (hy : act.eval y = .agg #[.string a, .string b]) (hs : s.p (.bool true) w) :
  o.wp Tryd.prog act w (fun a' w' => ∃ v, a' = act.put o.dst v ∧ Below w.heap.size w w' ∧ s.p v w') Q :=
 loc_run (v := .bool true) (by
  unfold execOp
  simp only [ho, hx, hy]
  have he := eq_fieldCk a b w
  simp [eqGuard, binOp, Op.equal, he]) (Below.refl _ _) hs
end
theorem ckID_v (s : ByteArray) (r : Bool) (v : Value) (w : World) (hv : v = .string s) (hs : s.size ≤ maxLen) (h : idS s = r) :
  Calls Tryd.prog 15 #[v] w fun e w' => ∃ v', e = .returned v' ∧ Below w.heap.size w w' ∧ v' = .bool r := by
 subst hv
 refine (ckID_eq w hs h).mono ?_
 rintro e w' ⟨rfl, rfl⟩
 exact ⟨_, rfl, Below.refl _ _, rfl⟩
theorem refID_v (s : ByteArray) (r : Bool) (v : Value) (w : World) (hv : v = .string s) (hs : s.size ≤ maxLen) (h : idS s = r) :
  Calls Tryd.prog 16 #[v] w fun e w' => ∃ v', e = .returned v' ∧ Below w.heap.size w w' ∧ v' = .bool r := by
 subst hv
 refine (refID_eq w hs h).mono ?_
 rintro e w' ⟨rfl, rfl⟩
 exact ⟨_, rfl, Below.refl _ _, rfl⟩
theorem issue_v (n i r : ByteArray) (v u : Value) (w : World) (hv : v = .string n) (hu : u = .string i) (hn : n.size ≤ 1000000000000000) (hi : i.size ≤ 1000000000000000) (hr : r = issueS n i) :
  Calls Tryd.prog 17 #[v, u] w fun e w' => ∃ v', e = .returned v' ∧ Below w.heap.size w w' ∧ v' = .agg #[.string setCk, .string r] := by
 subst hv hu hr
 refine (issue_any n i w hn hi).mono ?_
 rintro e w' ⟨rfl, hb⟩
 exact ⟨_, rfl, hb, rfl⟩
theorem refIssue_v (n i r : ByteArray) (v u : Value) (w : World) (hv : v = .string n) (hu : u = .string i) (hn : n.size ≤ 1000000000000000) (hi : i.size ≤ 1000000000000000) (hr : r = issueS n i) :
  Calls Tryd.prog 18 #[v, u] w fun e w' => ∃ v', e = .returned v' ∧ Below w.heap.size w w' ∧ v' = .agg #[.string setCk, .string r] := by
 subst hv hu hr
 refine (refIssue_any n i w hn hi).mono ?_
 rintro e w' ⟨rfl, hb⟩
 exact ⟨_, rfl, hb, rfl⟩
theorem ckAwake_v (w : World) (m : Int) (hm : w.cell? ⟨0, 0, none⟩ = some (.int .i64 m)) : Calls Tryd.prog 8 #[] w fun e w' => ∃ v', e = .returned v' ∧ Below w.heap.size w w' ∧ v' = .bool true := by
 refine (ckAwake_any w m hm).mono ?_
 rintro e w' ⟨rfl, hb⟩
 exact ⟨_, rfl, hb, rfl⟩
theorem heap_setCk {w : World} {g k : Nat} {cs : Array Value} {t : TypeId} {fr : Nat × Nat} (v : Value) (h : w.heap[g]? = some (.cells cs t fr)) : (w.setCell ⟨g, k, none⟩ v).heap[g]? = some (.cells (cs.setIfInBounds k v) t fr) := by
 simp [World.setCell, Array.getElem?_modify, h]
theorem isBytes_set {w : World} {g k : Nat} {t : TypeId} {fr : Nat × Nat} (l : List UInt8) (c : UInt8) (h : w.heap[g]? = some (.cells (bytesV l).toArray t fr)) (hm : l.length ≤ maxLen) :
  IsBytes (w.setCell ⟨g, k, none⟩ (.int .u8 (c.toNat : Int))) (some ⟨g, 0, none⟩) (l.set k c) l.length := by
 have h2 := heap_setCk (k := k) (.int .u8 (c.toNat : Int)) h
 refine .inr ⟨_, rfl, by rw [List.length_set]; exact Nat.le_refl _, hm, fun j hj => ?_⟩
 have hj' : j < l.length := by rwa [List.length_set] at hj
 rw [Addr.add_lit, Nat.zero_add, cell_of_row _ _ _ _ _ _ h2]
 have hl := bytesV_len l
 by_cases e : k = j
 · subst e
   simp [hj', hl]
 · simp [e, hj', bytesV]
set_option maxRecDepth 100000 in
set_option maxHeartbeats 4000000 in
theorem cookieID_any (s : ByteArray) (bl : List UInt8) (ba : Option Addr) (bc : Nat) (z : Int) (c : UInt8) (w : World) (m : Int) (hs : s.size ≤ 1000000000000000) (hb : IsBytes w ba bl bc) (hm : w.cell? ⟨0, 0, none⟩ = some (.int .i64 m)) :
  Calls Tryd.prog 4 #[.string s, .slice ba bl.length bc, .int .i64 z, .int .u8 (c.toNat : Int)] w fun e w' => e = .returned (.bool true) ∧ Below w.heap.size w w' := by
 obtain ⟨k, hk, hwk⟩ := withI_range z 16 (by decide) (by decide)
 obtain ⟨W0, hW0⟩ : ∃ W0, W0 = w.alloc (.cells (bytesV ckX).toArray 5 (16, 17)) := ⟨_, rfl⟩
 have HB0 := Box.mk (show Below w.heap.size w W0 by rw [hW0]; exact below_oneF w _)
 have HR0 := Box.mk (show W0.heap[w.heap.size]? = some (.cells (bytesV ckX).toArray 5 (16, 17)) by rw [hW0]; exact heap_alloc_new _ _)
 have HI := Box.mk (And.intro hb hm)
 have HWK := Box.mk hwk
 clear hb hm hwk
 go_enter Tryd.func4, Tryd.ntmps4
 have kc := fun (w : World) (C : Array Value) (n c : Nat) => Lib.run_convert_bytes_const (P := Tryd.prog) w 33 5 C n c Tryd.underlying33 Tryd.underlying5
 go_upto_region 2 with fail
 clear kc
 change Code.wp _ _ _ _ (w.alloc (.cells (bytesV ckX).toArray 5 (16, 17)))
 rw [← hW0]
 clear hW0
 have hglt : w.heap.size < W0.heap.size := (Array.getElem?_eq_some_iff.1 HR0.out).1
 generalize hg : w.heap.size = g at *
 have HG := Box.mk hg
 clear hg
 have hfz : W0.frozen? ⟨g, k, none⟩ = false := by
  simp only [World.frozen?, HR0.out]
  rw [Bool.and_eq_false_iff]; left; simpa using hk
 obtain ⟨x0, hx0⟩ : ∃ x, W0.cell? ⟨g, k, none⟩ = some (.int .u8 x) := by
  rw [cell_of_row _ _ _ _ _ _ HR0.out]
  exact ⟨_, by simp [bytesV, show k < ckX.length from hk]; rfl⟩
 go_wp2_with fail
 refine (withinF z 16 _ (by decide) (by decide)).mono ?_
 rintro e w1 ⟨he, rfl⟩
 rw [HWK.out] at he
 subst he
 go_upto_region 3 with fail
 obtain ⟨W1, hW1⟩ : ∃ W1, W1 = w1.setCell ⟨g, k, none⟩ (.int .u8 (c.toNat : Int)) := ⟨_, rfl⟩
 obtain ⟨X, hX⟩ : ∃ X, X = ckX.set k c := ⟨_, rfl⟩
 have HX := Box.mk (show IsBytes W1 (some ⟨g, 0, none⟩) X 16 by rw [hW1, hX]; exact isBytes_set ckX c HR0.out (by decide))
 have HXL := Box.mk (show X.length = 16 by rw [hX, List.length_set]; rfl)
 have HB1 := Box.mk (show Below w.heap.size w W1 by
  rw [hW1]
  exact below_box14 HG.out HB0.out ⟨rfl, rfl, rfl, by simp [World.setCell], fun q _ hne => heap_setCell_other _ ⟨g, k, none⟩ q _ (fun e => hne (by rw [e]))⟩)
 rw [← hW1]
 have HI1 := Box.mk (And.intro (HI.out.1.keep HB1.out) (below_cell HB1.out HI.out.2))
 clear hW1 hX HB0 HR0 hfz hx0 HI
 go_wp2_with fail
 refine (shortF_any bl ba bc 20 W1 HI1.out.1 (by decide)).mono ?_
 rintro e w2 ⟨c2, rfl, hbt, rfl⟩
 have hcv := conv_bytes hbt
 have htl : (bl.take 20).length ≤ 20 := List.length_take_le _ _
 generalize bl.take 20 = tl at *
 go_upto_region 4 with fail
 clear hcv hbt
 obtain ⟨tS, htS⟩ : ∃ tS : ByteArray, tS = ⟨tl.toArray⟩ := ⟨_, rfl⟩
 have htz : tS.size ≤ 1000000000000000 := by rw [htS]; show tl.toArray.size ≤ _; simp; omega
 rw [← htS]
 clear htS
 obtain ⟨XS, hXS⟩ : ∃ XS : ByteArray, XS = ⟨X.toArray⟩ := ⟨_, rfl⟩
 have hxz : XS.size = 16 := by rw [hXS]; show X.toArray.size = _; simp [HXL.out]
 have HXS := Box.mk hXS
 obtain ⟨r1, hr1⟩ : ∃ r, idS s = r := ⟨_, rfl⟩
 obtain ⟨r2, hr2⟩ : ∃ r, idS XS = r := ⟨_, rfl⟩
 obtain ⟨r3, hr3⟩ : ∃ r, idS tS = r := ⟨_, rfl⟩
 have HR1 := Box.mk hr1
 have HR2 := Box.mk hr2
 have HR3 := Box.mk hr3
 obtain ⟨R, hR⟩ : ∃ R, R = issueS s tS := ⟨_, rfl⟩
 have HRR := Box.mk hR
 have HZ := Box.mk (show s.size ≤ maxLen ∧ XS.size ≤ maxLen ∧ tS.size ≤ maxLen from ⟨by unfold maxLen; omega, by unfold maxLen; omega, by unfold maxLen; omega⟩)
 have HM := Box.mk HI1.out.2
 have HXV := Box.mk (show Value.slice (some ⟨g, 0, none⟩) 16 16 = Value.slice (some ⟨g, 0, none⟩) X.length 16 by rw [HXL.out])
 clear hXS hxz hr1 hr2 hr3 hR
 rename_i K hK
 refine wp_region_local (S := [.val (.string s), .val (.bool r1), .val (.string s), .val (.bool r1), .val (.bool true), .val (.bool true), .bytes X, .val (.string XS), .val (.bool r2), .bytes X, .val (.string XS), .val (.bool r2), .val (.bool true), .val (.bool true), .val (.bool true), .val (.string tS), .val (.bool r3), .val (.string tS), .val (.bool r3), .val (.bool true), .val (.bool true), .val (.bool true), .val (.string s), .val (.string tS), .val (.agg #[.string setCk, .string R]), .val (.string s), .val (.string tS), .val (.agg #[.string setCk, .string R]), .val (.bool true), .val (.bool true), .val (.bool true), .val (.bool true), .val (.bool true), .val (.bool true)])
  (by kernel_rfl) (by kernel_rfl) (by kernel_rfl) ?_ ?_
 · refine ⟨?_, ?_, ?_, ?_, ?_, ?_, ?_, ?_, ?_, ?_, ?_, ?_, ?_, ?_, ?_, ?_, ?_, ?_, ?_, ?_, ?_, ?_, ?_, ?_, ?_, ?_, ?_, ?_, ?_, ?_, ?_, ?_, ?_, ?_, trivial⟩ <;> intro a w hb hf hd
   · exact ⟨wanted_none rfl, loc_move rfl (hf.base 0 rfl)⟩
   · exact ⟨wanted_none rfl, loc_call rfl (by kernel_rfl) (ckID_v s r1 _ w (hd 0 rfl) HZ.out.1 HR1.out)⟩
   · exact ⟨wanted_none rfl, loc_move rfl (hf.base 0 rfl)⟩
   · exact ⟨wanted_none rfl, loc_call rfl (by kernel_rfl) (refID_v s r1 _ w (hd 2 rfl) HZ.out.1 HR1.out)⟩
   · exact ⟨wanted_none rfl, loc_eqlCk rfl (hd 1 rfl) (hd 3 rfl) rfl⟩
   · exact ⟨wanted_none rfl, loc_move rfl (hd 4 rfl)⟩
   · exact ⟨wanted_true rfl rfl (hd 5 rfl), loc_move rfl ⟨_, _, (hf.base 9 rfl).trans HXV.out, HX.out.keep hb⟩⟩
   · exact ⟨wanted_true rfl rfl (hd 5 rfl), loc_string rfl (hd 6 rfl) (by rw [HXS.out]; rfl)⟩
   · exact ⟨wanted_true rfl rfl (hd 5 rfl), loc_call rfl (by kernel_rfl) (ckID_v XS r2 _ w (hd 7 rfl) HZ.out.2.1 HR2.out)⟩
   · exact ⟨wanted_true rfl rfl (hd 5 rfl), loc_move rfl ⟨_, _, (hf.base 9 rfl).trans HXV.out, HX.out.keep hb⟩⟩
   · exact ⟨wanted_true rfl rfl (hd 5 rfl), loc_string rfl (hd 9 rfl) (by rw [HXS.out]; rfl)⟩
   · exact ⟨wanted_true rfl rfl (hd 5 rfl), loc_call rfl (by kernel_rfl) (refID_v XS r2 _ w (hd 10 rfl) HZ.out.2.1 HR2.out)⟩
   · exact ⟨wanted_true rfl rfl (hd 5 rfl), loc_eqlCk rfl (hd 8 rfl) (hd 11 rfl) rfl⟩
   · exact ⟨wanted_none rfl, loc_pick rfl (hd 5 rfl) (hd 12 rfl)⟩
   · exact ⟨wanted_none rfl, loc_move rfl (hd 13 rfl)⟩
   · exact ⟨wanted_true rfl rfl (hd 14 rfl), loc_move rfl (hf.base 10 rfl)⟩
   · exact ⟨wanted_true rfl rfl (hd 14 rfl), loc_call rfl (by kernel_rfl) (ckID_v tS r3 _ w (hd 15 rfl) HZ.out.2.2 HR3.out)⟩
   · exact ⟨wanted_true rfl rfl (hd 14 rfl), loc_move rfl (hf.base 10 rfl)⟩
   · exact ⟨wanted_true rfl rfl (hd 14 rfl), loc_call rfl (by kernel_rfl) (refID_v tS r3 _ w (hd 17 rfl) HZ.out.2.2 HR3.out)⟩
   · exact ⟨wanted_true rfl rfl (hd 14 rfl), loc_eqlCk rfl (hd 16 rfl) (hd 18 rfl) rfl⟩
   · exact ⟨wanted_none rfl, loc_pick rfl (hd 14 rfl) (hd 19 rfl)⟩
   · exact ⟨wanted_none rfl, loc_move rfl (hd 20 rfl)⟩
   · exact ⟨wanted_true rfl rfl (hd 21 rfl), loc_move rfl (hf.base 0 rfl)⟩
   · exact ⟨wanted_true rfl rfl (hd 21 rfl), loc_move rfl (hf.base 10 rfl)⟩
   · exact ⟨wanted_true rfl rfl (hd 21 rfl), loc_call rfl (by kernel_rfl) (issue_v s tS R _ _ w (hd 22 rfl) (hd 23 rfl) hs htz HRR.out)⟩
   · exact ⟨wanted_true rfl rfl (hd 21 rfl), loc_move rfl (hf.base 0 rfl)⟩
   · exact ⟨wanted_true rfl rfl (hd 21 rfl), loc_move rfl (hf.base 10 rfl)⟩
   · exact ⟨wanted_true rfl rfl (hd 21 rfl), loc_call rfl (by kernel_rfl) (refIssue_v s tS R _ _ w (hd 25 rfl) (hd 26 rfl) hs htz HRR.out)⟩
   · exact ⟨wanted_true rfl rfl (hd 21 rfl), loc_eqlFCk rfl (hd 24 rfl) (hd 27 rfl) rfl⟩
   · exact ⟨wanted_none rfl, loc_pick rfl (hd 21 rfl) (hd 28 rfl)⟩
   · exact ⟨wanted_none rfl, loc_move rfl (hd 29 rfl)⟩
   · exact ⟨wanted_true rfl rfl (hd 30 rfl), loc_call rfl (by kernel_rfl) (ckAwake_v w m (below_cell hb HM.out))⟩
   · exact ⟨wanted_none rfl, loc_pick rfl (hd 30 rfl) (hd 31 rfl)⟩
   · exact ⟨wanted_none rfl, loc_assign rfl (hd 32 rfl)⟩
 · intro a w' hb hf hh
   refine hK a w' ?_
   go_wp2_with fail
   exact local_ret rfl hf.defers (show a.eval (.tmp 8) = .bool true from hh 33 (by decide)) ⟨rfl, below_trans HB1.out hb⟩
end Go.Proofs.YthgiplnidnkajaaDoor
