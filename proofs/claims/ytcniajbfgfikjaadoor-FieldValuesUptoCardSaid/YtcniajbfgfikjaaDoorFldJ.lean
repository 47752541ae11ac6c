/- Parse of package field: the index of a colon, strings.Cut. -/
import Derived.Test.YtcniajbfgfikjaaDoorFldI
import Derived.Test.YtcniajbfgfikjaaDoorLocT
import Derived.Laws.CopyOwn
import Derived.OwnWalk
namespace Go.Proofs.YtcniajbfgfikjaaDoor
open Go.RowKit

def colonI (s : ByteArray) : Int := Lib.indexByte s.data.toList 58
theorem colonI_one (s : ByteArray) (h : (⟨#[58]⟩ : ByteArray) = s) : colonI s = 0 := by subst h; rfl

set_option maxRecDepth 100000 in
set_option maxHeartbeats 2000000 in
theorem idxLite_any (s c : ByteArray) (w : World) (hz : c.size = 1) (h0 : ∀ h, c[0]'h = (58 : UInt8)) (hc : c = ⟨#[58]⟩) :
    Calls Tryd.prog 73 #[.string s, .string c] w fun e w' => e = .returned (.int .i64 (colonI s)) ∧ w = w' := by
  by_cases he : c = s
  · have HE := Box.mk (colonI_one s (by rw [← hc]; exact he))
    have h1 : (c.toList == s.toList) = true := by rw [toList_eq]; simp [he]
    clear he hc
    go_enter Tryd.func73, Tryd.ntmps73
    go_wp2_with fail
    go_ret
    exact ⟨ret_int HE.out.symm, rfl⟩
  · have h1 : (c.toList == s.toList) = false := by rw [toList_eq]; simp [he]
    clear he hc
    go_enter Tryd.func73, Tryd.ntmps73
    go_wp2_with fail
    refine (indexByteLite_any s 58 _).mono ?_
    rintro e w1 ⟨rfl, rfl⟩
    go_wp2_with fail
    go_ret
    exact ⟨rfl, rfl⟩

theorem colonI_ge (s : ByteArray) : -1 ≤ colonI s := Lib.indexByte_ge _ _
theorem colonI_lt (s : ByteArray) {k : Nat} (h : colonI s = k) : k < s.size := by
  have := (Lib.indexByte_some h).1
  have := (List.getElem?_eq_some_iff.1 this).1
  simpa using this

set_option maxRecDepth 100000 in
set_option maxHeartbeats 2000000 in
theorem liteCut_yes (s c : ByteArray) (k : Nat) (w : World) (hs : s.size ≤ maxLen) (hz : c.size = 1) (h0 : ∀ h, c[0]'h = (58 : UInt8)) (hc : c = ⟨#[58]⟩) (hk : colonI s = k) :
    Calls Tryd.prog 66 #[.string s, .string c] w fun e w' => e = .returned (.tuple #[.string (s.extract 0 k), .string (s.extract (k + 1) s.size), .bool true]) ∧ Below w.heap.size w w' := by
  have hlt := colonI_lt s hk
  unfold maxLen at hs
  have HK := Box.mk hk
  have H0 := Box.mk (And.intro h0 hc)
  clear hk h0 hc
  go_enter Tryd.func66, Tryd.ntmps66
  go_wp2_with fail
  refine (idxLite_any s c _ hz H0.out.1 H0.out.2).mono ?_
  rintro e w1 ⟨he, rfl⟩
  rw [HK.out] at he
  subst he
  go_wp2_with fail
  go_quiet (fail)
  go_wp2
  go_ret3
  exact ⟨rfl, below_drewN (Below.refl _ _) _⟩

set_option maxRecDepth 100000 in
set_option maxHeartbeats 2000000 in
theorem liteCut_no (s c : ByteArray) (w : World) (hz : c.size = 1) (h0 : ∀ h, c[0]'h = (58 : UInt8)) (hc : c = ⟨#[58]⟩) (hk : colonI s = -1) :
    Calls Tryd.prog 66 #[.string s, .string c] w fun e w' => e = .returned (.tuple #[.string s, .string ⟨#[]⟩, .bool false]) ∧ Below w.heap.size w w' := by
  have HK := Box.mk hk
  have H0 := Box.mk (And.intro h0 hc)
  clear hk h0 hc
  go_enter Tryd.func66, Tryd.ntmps66
  go_wp2_with fail
  refine (idxLite_any s c _ hz H0.out.1 H0.out.2).mono ?_
  rintro e w1 ⟨he, rfl⟩
  rw [HK.out] at he
  subst he
  go_wp2_with fail
  go_ret3
  exact ⟨rfl, Below.refl _ _⟩

set_option maxHeartbeats 2000000 in
theorem cut_yes (s : ByteArray) (k : Nat) (w : World) (hs : s.size ≤ maxLen) (hk : colonI s = k) :
    Calls Tryd.prog 51 #[.string s, .string ⟨#[58]⟩] w fun e w' => e = .returned (.tuple #[.string (s.extract 0 k), .string (s.extract (k + 1) s.size), .bool true]) ∧ Below w.heap.size w w' := by
  have HK := Box.mk hk
  clear hk
  go_enter Tryd.func51, Tryd.ntmps51
  go_wp2_with fail
  refine (liteCut_yes s _ k _ hs rfl (fun _ => rfl) rfl HK.out).mono ?_
  rintro e w1 ⟨rfl, hb⟩
  have HB := Box.mk hb
  clear hb
  go_wp2_with fail
  go_ret3
  exact ⟨rfl, HB.out⟩
set_option maxHeartbeats 2000000 in
theorem cut_no (s : ByteArray) (w : World) (hk : colonI s = -1) :
    Calls Tryd.prog 51 #[.string s, .string ⟨#[58]⟩] w fun e w' => e = .returned (.tuple #[.string s, .string ⟨#[]⟩, .bool false]) ∧ Below w.heap.size w w' := by
  have HK := Box.mk hk
  clear hk
  go_enter Tryd.func51, Tryd.ntmps51
  go_wp2_with fail
  refine (liteCut_no s _ _ rfl (fun _ => rfl) rfl HK.out).mono ?_
  rintro e w1 ⟨rfl, hb⟩
  have HB := Box.mk hb
  clear hb
  go_wp2_with fail
  go_ret3
  exact ⟨rfl, HB.out⟩

/-- What Parse returns. -/
def parseF (s : ByteArray) : Option Fld :=
  if 0 ≤ colonI s then
    (if fldB (s.extract 0 (colonI s).toNat) (trimBA (s.extract ((colonI s).toNat + 1) s.size)) then some (s.extract 0 (colonI s).toNat, trimBA (s.extract ((colonI s).toNat + 1) s.size)) else none)
  else none
def parseV : Option Fld → Value
  | some f => .tuple #[.agg #[.string f.1, .string f.2], .int .i64 0]
  | none => .tuple #[.agg #[.string ⟨#[]⟩, .string ⟨#[]⟩], .int .i64 2]
theorem parseF_no {s : ByteArray} (h : colonI s = -1) : parseF s = none := by unfold parseF; rw [h]; rfl
theorem parseF_at {s : ByteArray} {k : Nat} (h : colonI s = k) : parseF s = if fldB (s.extract 0 k) (trimBA (s.extract (k + 1) s.size)) then some (s.extract 0 k, trimBA (s.extract (k + 1) s.size)) else none := by
  unfold parseF; rw [h]; simp
theorem extract_le (s : ByteArray) (i j : Nat) : (s.extract i j).size ≤ s.size := by
  rw [ByteArray.size_extract]; omega

theorem results_row_tmpF {P : Program} {fn : Func} {q p : Tmp} {ty : TypeId} (h : fn.results = #[.cell p ty, .tmp q]) (tmps : Array Value) (w : World) (g : Nat) (t : TypeId) (cs : Array Value) (fr : Nat × Nat) (d : TypeDesc)
    (hp : tmps.getD p undef = .pointer (some ⟨g, 0, none⟩)) (hg : w.heap[g]? = some (.cells cs t fr))
    (hu : P.underlying ty = some d) (hd : (match d with | .struct _ | .array _ _ => true | _ => false) = true) (hi : (P.info? ty).map (·.size) = some cs.size) :
    (results fn tmps).run P w = .ok (.tuple #[.agg cs, tmps.getD q undef]) w := by
  have hp' : tmps[p]?.getD undef = .pointer (some ⟨g, 0, none⟩) := by simpa using hp
  simp [results, h, hp', asAddr, run_loadVar_row w g t ty cs fr d hg hu hd hi]
theorem sizeF : (Tryd.prog.info? 28).map (·.size) = some 2 := by kernel_rfl
theorem oneF (a b : ByteArray) : (#[Value.string a, .string b] : Array Value).all (·.oneCell') = true := by simp [Value.oneCell']
/-- A field's variable. -/
def FVar (w : World) (g : Nat) (n v : ByteArray) : Prop := w.heap[g]? = some (.cells #[.string n, .string v] 28 (0, 0))
theorem FVar.keep {w w' : World} {g : Nat} {n v : ByteArray} (h : FVar w g n v) (hb : Below w.heap.size w w') : FVar w' g n v := by
  unfold FVar at *
  rw [hb.block g (Array.getElem?_eq_some_iff.1 h).1]; exact h
theorem FVar.new (w : World) (n v : ByteArray) : FVar (w.alloc (.cells #[.string n, .string v] 28)) w.heap.size n v := heap_alloc_new _ _
theorem FVar.c0 {w : World} {g : Nat} {n v : ByteArray} (h : FVar w g n v) : w.cell? ⟨g, 0, none⟩ = some (.string n) := by rw [cell_of_row _ _ _ _ _ _ h]; rfl
theorem FVar.c1 {w : World} {g : Nat} {n v : ByteArray} (h : FVar w g n v) : w.cell? ⟨g, 1, none⟩ = some (.string v) := by rw [cell_of_row _ _ _ _ _ _ h]; rfl
theorem FVar.run {w : World} {g : Nat} {n v : ByteArray} (h : FVar w g n v) : (Instr.loadAt 28 (.pointer (some ⟨g, 0, none⟩))).run Tryd.prog w = .ok (.agg #[.string n, .string v]) w :=
  run_loadF w _ _ _ h.c0 h.c1
theorem FVar.lt {w : World} {g : Nat} {n v : ByteArray} (h : FVar w g n v) : g < w.heap.size := (Array.getElem?_eq_some_iff.1 h).1

set_option maxRecDepth 100000 in
set_option maxHeartbeats 2000000 in
theorem fParse_any (s : ByteArray) (w : World) (hs : s.size ≤ maxLen) :
    Calls Tryd.prog 30 #[.string s] w fun e w' => e = .returned (parseV (parseF s)) ∧ Below w.heap.size w w' := by
  have hge := colonI_ge s
  by_cases hc : colonI s = -1
  · have HP := Box.mk (parseF_no hc)
    have HC := Box.mk hc
    clear hc hge
    go_enter Tryd.func30, Tryd.ntmps30
    go_wp2_with fail
    refine (cut_no s _ HC.out).mono ?_
    rintro e w1 ⟨rfl, hb1⟩
    have HB1 := Box.mk (below_trans (below_oneF w (.cells #[.string ⟨#[]⟩, .string ⟨#[]⟩] 28)) hb1)
    have HR1 := Box.mk ((FVar.new w ⟨#[]⟩ ⟨#[]⟩).keep hb1)
    clear hb1
    go_wp2_with fail
    refine (trim_any _ _ (by decide)).mono ?_
    rintro e w2 ⟨rfl, hb2⟩
    have hb3 := below_trans hb2 (below_oneF w2 (.cells #[.string s, .string (trimBA ⟨#[]⟩)] 59))
    have HB2 := Box.mk (below_trans HB1.out hb3)
    have HR2 := Box.mk (HR1.out.keep hb3)
    clear hb2 hb3 HB1 HR1
    go_wp2_with (refine wpList_store_row rfl 28 _ _ rfl w.heap.size #[.string ⟨#[]⟩, .string ⟨#[]⟩] rfl rfl 28 _ HR2.out sizeF rfl (oneF _ _) ?_)
    (try simp only [Exit.inBlock, Exit.then])
    refine bodyPost_ret (results_row_tmpF rfl _ _ w.heap.size _ _ _ _ rfl (setRow_heap _ _ _ _ _ _ HR2.out) Tryd.underlying28 rfl sizeF) rfl ?_
    exact ⟨by rw [HP.out]; rfl, below_setRow HB2.out (Nat.le_refl _) _⟩
  · obtain ⟨k, hk⟩ : ∃ k : Nat, colonI s = k := ⟨(colonI s).toNat, by omega⟩
    have HC := Box.mk hk
    have HP0 := Box.mk (parseF_at hk)
    have HZ := Box.mk (And.intro (Nat.le_trans (extract_le s 0 k) hs) (Nat.le_trans (extract_le s (k + 1) s.size) hs))
    clear hc hge hk
    go_enter Tryd.func30, Tryd.ntmps30
    go_wp2_with fail
    refine (cut_yes s k _ hs HC.out).mono ?_
    rintro e w1 ⟨rfl, hb1⟩
    have HB1 := Box.mk (below_trans (below_oneF w (.cells #[.string ⟨#[]⟩, .string ⟨#[]⟩] 28)) hb1)
    have HR1 := Box.mk ((FVar.new w ⟨#[]⟩ ⟨#[]⟩).keep hb1)
    clear hb1
    generalize s.extract 0 k = n at *
    generalize s.extract (k + 1) s.size = v0 at *
    go_wp2_with fail
    refine (trim_any v0 _ HZ.out.2).mono ?_
    rintro e w2 ⟨rfl, hb2⟩
    have hvz := Box.mk (Nat.le_trans (trimBA_size v0) HZ.out.2)
    generalize trimBA v0 = v at *
    have hb3 := below_trans hb2 (below_oneF w2 (.cells #[.string n, .string v] 59))
    have HB2 := Box.mk (below_trans HB1.out hb3)
    have HR2 := Box.mk (HR1.out.keep hb3)
    clear hb2 hb3 HB1 HR1
    by_cases hv : fldB n v = true
    · have HP := Box.mk (show parseF s = some (n, v) by rw [HP0.out, if_pos hv])
      have HV := Box.mk hv
      clear hv HP0
      go_wp2_with fail
      refine (hdrValid_any n v _ HZ.out.1 hvz.out).mono ?_
      rintro e w3 ⟨he, hb3⟩
      rw [HV.out] at he
      subst he
      have HB3 := Box.mk (below_trans HB2.out hb3)
      have HR3 := Box.mk (HR2.out.keep hb3)
      have hc0 : w3.cell? ⟨w2.heap.size, 0, none⟩ = some (.string n) := below_cell hb3 (by rw [new_cellF]; rfl)
      have hc1 : w3.cell? ⟨w2.heap.size, 1, none⟩ = some (.string v) := below_cell hb3 (by rw [new_cellF]; rfl)
      clear hb3 HB2 HR2
      go_wp2_with (refine wpList_store_row rfl 28 _ _ rfl w.heap.size #[.string n, .string v] rfl rfl 28 _ HR3.out sizeF rfl (oneF _ _) ?_)
      (try simp only [Exit.inBlock, Exit.then])
      refine bodyPost_ret (results_row_tmpF rfl _ _ w.heap.size _ _ _ _ rfl (setRow_heap _ _ _ _ _ _ HR3.out) Tryd.underlying28 rfl sizeF) rfl ?_
      exact ⟨by rw [HP.out]; rfl, below_setRow HB3.out (Nat.le_refl _) _⟩
    · have HP := Box.mk (show parseF s = none by rw [HP0.out, if_neg hv])
      have HV := Box.mk (show fldB n v = false by simpa using hv)
      clear hv HP0
      go_wp2_with fail
      refine (hdrValid_any n v _ HZ.out.1 hvz.out).mono ?_
      rintro e w3 ⟨he, hb3⟩
      rw [HV.out] at he
      subst he
      have HB3 := Box.mk (below_trans HB2.out hb3)
      have HR3 := Box.mk (HR2.out.keep hb3)
      clear hb3 HB2 HR2
      go_wp2_with (refine wpList_store_row rfl 28 _ _ rfl w.heap.size #[.string ⟨#[]⟩, .string ⟨#[]⟩] rfl rfl 28 _ HR3.out sizeF rfl (oneF _ _) ?_)
      (try simp only [Exit.inBlock, Exit.then])
      refine bodyPost_ret (results_row_tmpF rfl _ _ w.heap.size _ _ _ _ rfl (setRow_heap _ _ _ _ _ _ HR3.out) Tryd.underlying28 rfl sizeF) rfl ?_
      exact ⟨by rw [HP.out]; rfl, below_setRow HB3.out (Nat.le_refl _) _⟩
end Go.Proofs.YtcniajbfgfikjaaDoor
