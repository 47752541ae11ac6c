/- Format, by the library's Builder and in the reference. -/
import Derived.Test.YtcniajbfgfikjaaDoorFldH
import Derived.Test.YtcniajbfgfikjaaDoorDigT
import Derived.Lib.AppendStr
namespace Go.Proofs.YtcniajbfgfikjaaDoor
open Go.RowKit

theorem strCells_bytes (s : ByteArray) : Lib.strCells s = bytesV s.data.toList := by
  unfold Lib.strCells bytesV; rfl
set_option maxHeartbeats 1000000 in
theorem writeString_any (w0 w : World) (b : Nat) (l : List UInt8) (s : ByteArray) (h : Bld w0 w b l) (hl : l.length + s.size ≤ 140737488355328) :
    Calls Tryd.prog 46 #[.pointer (some ⟨b, 0, none⟩), .string s] w fun e w' => e = .returned (.tuple #[.int .i64 s.size, .nilIface]) ∧ Bld w0 w' b (l ++ s.data.toList) := by
  have H0 := Box.mk h
  clear h
  obtain ⟨i0, hi, hz0, hz1, hz2⟩ := info_parts Tryd.info5
  have HI := Box.mk (And.intro hi (And.intro hz0 (And.intro hz1 hz2)))
  clear hi hz0 hz1 hz2
  go_enter Tryd.func46, Tryd.ntmps46
  go_wp2_with fail
  refine (copyCheck_any w0 w b l H0.out).mono ?_
  rintro e w1 ⟨rfl, ⟨hb0, v, hbk, hown, hne⟩, hB⟩
  have hc1 : w1.cell? ⟨b, 1, none⟩ = some v := by rw [cell_of_row _ _ _ _ _ _ hbk]; rfl
  have hsz : b < w1.heap.size := (Array.getElem?_eq_some_iff.1 hbk).1
  have HOWN := Box.mk hown
  have HK := Box.mk (And.intro hb0 (And.intro hbk (And.intro hne hsz)))
  have HB := Box.mk hB
  have hbl := bytesV_len l
  clear hb0 hbk hown hne hB hsz
  go_wp2_with (at_builtin; refine Lib.wpList_append_own_string _ rfl _ _ 43 9 rfl w0.heap.size 5 i0 Tryd.underlying43 Tryd.underlying9 HI.out.1 HI.out.2.1 HI.out.2.2.1 HI.out.2.2.2 _ _ _ rfl HOWN.out s rfl ?c3 ?c4 ?c5 ?c1)
  case c3 => unfold maxLen; omega
  case c4 => omega
  case c5 => have := HB.out.size; omega
  case c1 =>
    intro v2 w2 hown2 hgrow _
    have hown3 : w2.ownsRow w0.heap.size 5 1 v2 (bytesV (l ++ s.data.toList)).length (bytesV (l ++ s.data.toList)) := by
      have e1 : bytesV (l ++ s.data.toList) = bytesV l ++ Lib.strCells s := by rw [strCells_bytes]; unfold bytesV; rw [List.map_append]
      have e2 : (bytesV l ++ Lib.strCells s).length = (bytesV l).length + s.size := by rw [List.length_append, Lib.strCells_length]
      rw [e1, e2, hbl]; exact hown2
    have HOWN3 := Box.mk hown3
    obtain ⟨a2, n2, cp2, rfl⟩ : ∃ a2 n2 cp2, v2 = .slice a2 n2 cp2 := by
      rcases hown2.2 with ⟨hv, _⟩ | ⟨g, cap, cur, hv, _⟩
      · exact ⟨_, _, _, hv⟩
      · exact ⟨_, _, _, hv⟩
    have hbk2 := (hgrow.block b HK.out.2.2.2 (fun e => HK.out.2.2.1 e.symm)).trans HK.out.2.1
    have hc2 : w2.cell? ⟨b, 1, none⟩ = some v := by rw [cell_of_row _ _ _ _ _ _ hbk2]; rfl
    have hf2 := frozen_of_row w2 b 1 _ _ hbk2
    have HP := Box.mk (Lib.BuilderAt.put HK.out.1 hbk2 (v' := .slice a2 n2 cp2) HOWN3.out (by decide))
    have HB2 := Box.mk ((HB.out.grown hgrow HB.out.size fun k hk => (World.ownsRow.lt HOWN.out k hk).1).setCell (p := ⟨b, 1, none⟩) HK.out.1 (.slice a2 n2 cp2))
    clear hown2 hown3 hgrow hbk2 HK HB HOWN HOWN3
    go_wp2_with fail
    go_ret2
    exact ⟨rfl, .inr HP.out, HB2.out⟩

theorem bld_newF (w : World) : Bld w (w.alloc (.cells #[.pointer none, .slice none 0 0] 73)) w.heap.size [] :=
  ⟨.inl ⟨Nat.le_refl _, .slice none 0 0, heap_alloc_new _ _, World.ownsRow_nil _ _ _ _, by simp [Value.ownBlock]⟩, (Below.refl _ _).alloc (Nat.le_refl _) _⟩
/-- The builder where the call goes on in a world that has more in it. -/
theorem Bld.keep {w0 w w' : World} {b : Nat} {l : List UInt8} (h : Bld w0 w b l) (hb : Below w.heap.size w w') : Bld w0 w' b l := by
  obtain ⟨h1, h2⟩ := h
  refine ⟨?_, h2.trans (hb.mono h2.size)⟩
  rcases h1 with ⟨hb0, v, hbk, hown, hne⟩ | ⟨hb0, v, hbk, hown, hne⟩
  · have hlt : b < w.heap.size := (Array.getElem?_eq_some_iff.1 hbk).1
    exact .inl ⟨hb0, v, by rw [hb.block b hlt]; exact hbk, ownsRow_keep hown hb, hne⟩
  · have hlt : b < w.heap.size := (Array.getElem?_eq_some_iff.1 hbk).1
    exact .inr ⟨hb0, v, by rw [hb.block b hlt]; exact hbk, ownsRow_keep hown hb, hne⟩

theorem new_cellF2 (w : World) (o : Obj) (cs : Array Value) (t : TypeId) (j : Nat) : ((w.alloc o).alloc (.cells cs t (0, 0))).cell? ⟨w.heap.size + 1, j, none⟩ = cs[j]? := by
  have h := new_cellF (w.alloc o) cs t j
  rw [show (w.alloc o).heap.size = w.heap.size + 1 by simp] at h
  exact h
/-- The lines of fields. -/
def lineB (f : Fld) : List UInt8 := f.1.data.toList ++ [58, 32] ++ f.2.data.toList ++ [13, 10]
def linesB (l : List Fld) : List UInt8 := l.flatMap lineB
def allB (l : List Fld) : Bool := l.all fun f => fldB f.1 f.2
def fmtS (l : List Fld) : ByteArray := if allB l then ⟨(linesB l).toArray⟩ else ⟨#[]⟩
theorem lineB_eq (f : Fld) : (f.1 ++ ⟨#[58, 32]⟩ ++ f.2 ++ ⟨#[13, 10]⟩ : ByteArray).data.toList = lineB f := by
  unfold lineB
  simp only [ByteArray.data_append, Array.toList_append]
theorem linesB_step (l : List Fld) (k : Nat) (h : k < l.length) : linesB (l.take (k + 1)) = linesB (l.take k) ++ lineB l[k] := by
  unfold linesB
  rw [List.take_succ_eq_append_getElem h, List.flatMap_append]; simp
theorem lineB_len (f : Fld) : (lineB f).length = f.1.size + f.2.size + 4 := by
  unfold lineB
  simp only [List.length_append, List.length_cons, List.length_nil, Array.length_toList]
  generalize e1 : f.1.data.size = n1
  generalize e2 : f.2.data.size = n2
  have g1 : f.1.size = n1 := e1
  have g2 : f.2.size = n2 := e2
  rw [g1, g2]; omega
/-- Strings that are small enough to be joined. -/
def SmallF (l : List Fld) : Prop := ∀ f ∈ l, f.1.size ≤ 1048576 ∧ f.2.size ≤ 1048576
theorem linesB_len (l : List Fld) (h : SmallF l) (k : Nat) : (linesB (l.take k)).length ≤ k * 2097156 := by
  induction k with
  | zero => simp [linesB]
  | succ k ih =>
    by_cases hk : k < l.length
    · rw [linesB_step l k hk, List.length_append, lineB_len]
      have := h _ (List.getElem_mem hk)
      omega
    · rw [List.take_of_length_le (by omega)]
      rw [List.take_of_length_le (by omega)] at ih
      exact Nat.le_trans ih (Nat.mul_le_mul_right _ (Nat.le_succ k))
theorem fmtS_no {l : List Fld} {k : Nat} (hk : k < l.length) (h : fldB l[k].1 l[k].2 = false) : fmtS l = ⟨#[]⟩ := by
  unfold fmtS
  rw [if_neg]
  intro ha
  have := List.all_eq_true.1 ha _ (List.getElem_mem hk)
  rw [h] at this; cases this
theorem fmtS_yes {l : List Fld} {k : Nat} (hk : k ≤ l.length) (hk2 : ¬ k < l.length) (h : ∀ f ∈ l.take k, fldB f.1 f.2 = true) : fmtS l = ⟨(linesB l).toArray⟩ := by
  unfold fmtS
  rw [List.take_of_length_le (by omega)] at h
  have : allB l = true := List.all_eq_true.2 h
  rw [if_pos this]
theorem all_stepF {l : List Fld} {k : Nat} (hk : k < l.length) (h : ∀ f ∈ l.take k, fldB f.1 f.2 = true) (hf : fldB l[k].1 l[k].2 = true) : ∀ f ∈ l.take (k + 1), fldB f.1 f.2 = true := by
  rw [List.take_succ_eq_append_getElem hk]
  intro y hy
  rcases List.mem_append.1 hy with h1 | h1
  · exact h y h1
  · simp at h1; rw [h1]; exact hf
theorem le_maxLen {n : Nat} (h : n ≤ 1048576) : n ≤ maxLen := by unfold maxLen; omega

set_option maxRecDepth 100000 in
set_option maxHeartbeats 2000000 in
theorem fFormat_any (l : List Fld) (a : Option Addr) (cap : Nat) (w : World) (h : FldsIn w a l) (hz : SmallF l) (hl : l.length ≤ 1000000) :
    Calls Tryd.prog 25 #[.slice a l.length cap] w fun e w' => e = .returned (.string (fmtS l)) ∧ Below w.heap.size w w' := by
  have H0 := Box.mk h
  have HZ := Box.mk hz
  clear h hz
  go_enter Tryd.func25, Tryd.ntmps25
  go_wp2_with fail
  obtain ⟨W, hW⟩ : ∃ W, W = w.alloc (.cells #[.pointer none, .slice none 0 0] 73) := ⟨_, rfl⟩
  have HB0 := Box.mk (bld_newF w)
  rw [← hW] at HB0 ⊢
  clear hW
  generalize hb : w.heap.size = b at *
  have HBS := Box.mk hb
  clear hb
  go_loopw [9] (fun iv wr => ∃ k : Nat, k ≤ l.length ∧ iv = .int .i64 k ∧ Box (Bld w wr b (linesB (l.take k)) ∧ ∀ f ∈ l.take k, fldB f.1 f.2 = true)) (fun iv _ => l.length - (intOf iv).toNat)
  case atStart => exact ⟨0, Nat.zero_le _, rfl, ⟨HB0.out, by simp⟩⟩
  case round =>
    clear HB0
    obtain ⟨k, hk, rfl, HM⟩ := hrel
    by_cases hlt : k < l.length
    · obtain ⟨x, rfl, hx1, hx2⟩ := (H0.out.keep HM.out.1.2) k hlt
      have hx2 := cell_next hx2
      have HSZ := Box.mk (HZ.out _ (List.getElem_mem hlt))
      have hLB := linesB_len l HZ.out k
      have HST := Box.mk (linesB_step l k hlt)
      by_cases hv : fldB l[k].1 l[k].2 = true
      · have HALL := Box.mk (all_stepF hlt HM.out.2 hv)
        have HV := Box.mk hv
        clear hv
        generalize l[k] = f at *
        have HLL := Box.mk (lineB_len f)
        go_wp2_with fail
        refine (hdrValid_any f.1 f.2 _ (le_maxLen HSZ.out.1) (le_maxLen HSZ.out.2)).mono ?_
        rintro e w1 ⟨he, hb1⟩
        rw [HV.out] at he
        subst he
        have HB1 := Box.mk (below_trans (below_oneF wr (.cells #[.string f.1, .string f.2] 28)) (below_trans (below_oneF _ (.cells #[.string f.1, .string f.2] 59)) hb1))
        have hc1 : w1.cell? ⟨wr.heap.size + 1, 0, none⟩ = some (.string f.1) := below_cell hb1 (by rw [new_cellF2]; rfl)
        have hc2 : w1.cell? ⟨wr.heap.size + 1, 1, none⟩ = some (.string f.2) := below_cell hb1 (by rw [new_cellF2]; rfl)
        have HM1 := Box.mk (HM.out.1.keep HB1.out)
        clear hb1 hx1 hx2
        go_wp2_with fail
        refine (hdrLine_any f.1 f.2 _ (by have := HSZ.out.1; omega) (by have := HSZ.out.2; omega)).mono ?_
        rintro e w2 ⟨rfl, hb2⟩
        have HM2 := Box.mk (HM1.out.keep hb2)
        have HLE := Box.mk (lineB_eq f)
        have HS := Box.mk (show (f.1 ++ ⟨#[58, 32]⟩ ++ f.2 ++ ⟨#[13, 10]⟩ : ByteArray).size = f.1.size + f.2.size + 4 by
          rw [← HLL.out, ← HLE.out, Array.length_toList]; rfl)
        clear hb2 hc1 hc2 HM1
        generalize (f.1 ++ ⟨#[58, 32]⟩ ++ f.2 ++ ⟨#[13, 10]⟩ : ByteArray) = L at *
        go_wp2_with fail
        refine (writeString_any w w2 b _ L HM2.out (by have := HS.out; have := HSZ.out; omega)).mono ?_
        rintro e w3 ⟨rfl, h3⟩
        have HM3 := Box.mk (show Bld w w3 b (linesB (l.take (k + 1))) ∧ ∀ f ∈ l.take (k + 1), fldB f.1 f.2 = true from ⟨by rw [HST.out, ← HLE.out]; exact h3, HALL.out⟩)
        clear h3 HM2 HLE HST HALL
        go_wp2_with fail
        go_roundw
        case rel => exact ⟨k + 1, by omega, by go_num, HM3⟩
        case measure => simp [intOf]; omega
      · have HV := Box.mk (show fldB l[k].1 l[k].2 = false by simpa using hv)
        have HE := Box.mk (fmtS_no hlt HV.out)
        clear hv
        generalize l[k] = f at *
        go_wp2_with fail
        refine (hdrValid_any f.1 f.2 _ (le_maxLen HSZ.out.1) (le_maxLen HSZ.out.2)).mono ?_
        rintro e w1 ⟨he, hb1⟩
        rw [HV.out] at he
        subst he
        have HB1 := Box.mk (HM.out.1.2.trans ((below_trans (below_oneF wr (.cells #[.string f.1, .string f.2] 28)) (below_trans (below_oneF _ (.cells #[.string f.1, .string f.2] 59)) hb1)).mono HM.out.1.2.size))
        clear hb1
        go_wp2_with fail
        go_ret
        exact ⟨ret_str HE.out.symm, HB1.out⟩
    · have HE := Box.mk (fmtS_yes hk hlt HM.out.2)
      have HM1 := Box.mk (show Bld w wr b (linesB l) by have := HM.out.1; rw [List.take_of_length_le (by omega)] at this; exact this)
      clear HM
      go_wp2_with fail
      refine (bld_string w wr b _ HM1.out).mono ?_
      rintro e w2 ⟨rfl, hb⟩
      have HB := Box.mk hb
      clear hb
      go_wp2_with fail
      go_ret
      exact ⟨ret_str HE.out.symm, HB.out⟩

theorem ba_app_list (a b : ByteArray) : (a ++ b).data.toList = a.data.toList ++ b.data.toList := by rw [ByteArray.data_append]; simp

set_option maxRecDepth 100000 in
set_option maxHeartbeats 2000000 in
theorem refFormat_any (l : List Fld) (a : Option Addr) (cap : Nat) (w : World) (h : FldsIn w a l) (hz : SmallF l) (hl : l.length ≤ 1000000) :
    Calls Tryd.prog 26 #[.slice a l.length cap] w fun e w' => e = .returned (.string (fmtS l)) ∧ Below w.heap.size w w' := by
  have H0 := Box.mk h
  have HZ := Box.mk hz
  clear h hz
  go_enter Tryd.func26, Tryd.ntmps26
  go_wp2_with fail
  go_loopw [3, 4] (fun v iv wr => ∃ k : Nat, k ≤ l.length ∧ iv = .int .i64 k ∧ ∃ s : ByteArray, v = .string s ∧ s.size ≤ k * 2097156 ∧ Box (s.data.toList = linesB (l.take k) ∧ Below w.heap.size w wr ∧ ∀ f ∈ l.take k, fldB f.1 f.2 = true)) (fun _ iv _ => l.length - (intOf iv).toNat)
  case atStart => exact ⟨0, Nat.zero_le _, rfl, ⟨#[]⟩, rfl, Nat.zero_le _, ⟨by simp [linesB], Below.refl _ _, by simp⟩⟩
  case round =>
    obtain ⟨k, hk, rfl, s, rfl, hs, HM⟩ := hrel
    by_cases hlt : k < l.length
    · obtain ⟨x, rfl, hx1, hx2⟩ := (H0.out.keep HM.out.2.1) k hlt
      have HX := Box.mk (And.intro hx1 hx2)
      have hx2 := cell_next hx2
      have HSZ := Box.mk (HZ.out _ (List.getElem_mem hlt))
      have HST := Box.mk (linesB_step l k hlt)
      by_cases hv : fldB l[k].1 l[k].2 = true
      · have HALL := Box.mk (all_stepF hlt HM.out.2.2 hv)
        have HV := Box.mk hv
        clear hv
        generalize l[k] = f at *
        have HLE := Box.mk (lineB_eq f)
        go_wp2_with fail
        refine (refFieldValid_any f.1 f.2 _ (le_maxLen HSZ.out.1) (le_maxLen HSZ.out.2)).mono ?_
        rintro e w1 ⟨he, hb1⟩
        rw [HV.out] at he
        subst he
        have hc1 := below_cell hb1 HX.out.1
        have hc2 := cell_next (below_cell hb1 HX.out.2)
        have HB1 := Box.mk (below_trans HM.out.2.1 hb1)
        have z1 := HSZ.out.1
        have z2 := HSZ.out.2
        have g1 : (s ++ f.1).size = s.size + f.1.size := by rw [ByteArray.size_append]
        have g2 : (s ++ f.1 ++ ⟨#[58, 32]⟩).size = s.size + f.1.size + 2 := by rw [ByteArray.size_append, g1]; rfl
        have g3 : (s ++ f.1 ++ ⟨#[58, 32]⟩ ++ f.2).size = s.size + f.1.size + 2 + f.2.size := by rw [ByteArray.size_append, g2]
        have G4 := Box.mk (show (s ++ f.1 ++ ⟨#[58, 32]⟩ ++ f.2 ++ ⟨#[13, 10]⟩).size = s.size + f.1.size + 2 + f.2.size + 2 by rw [ByteArray.size_append, g3]; rfl)
        have HNEW := Box.mk (show (s ++ f.1 ++ ⟨#[58, 32]⟩ ++ f.2 ++ ⟨#[13, 10]⟩).data.toList = linesB (l.take (k + 1)) by
          rw [HST.out, ← HLE.out, ← HM.out.1]
          simp only [ba_app_list, List.append_assoc])
        clear hb1 hx1 hx2
        go_wp2_with fail
        go_quiet (fail)
        go_wp2
        go_roundw
        case rel => exact ⟨k + 1, by omega, by go_num, _, rfl, by rw [G4.out]; omega, ⟨HNEW.out, below_drewN HB1.out _, HALL.out⟩⟩
        case measure => simp [intOf]; omega
      · have HV := Box.mk (show fldB l[k].1 l[k].2 = false by simpa using hv)
        have HE := Box.mk (fmtS_no hlt HV.out)
        clear hv
        generalize l[k] = f at *
        go_wp2_with fail
        refine (refFieldValid_any f.1 f.2 _ (le_maxLen HSZ.out.1) (le_maxLen HSZ.out.2)).mono ?_
        rintro e w1 ⟨he, hb1⟩
        rw [HV.out] at he
        subst he
        have HB1 := Box.mk (below_trans HM.out.2.1 hb1)
        clear hb1
        go_wp2_with fail
        go_ret
        exact ⟨ret_str HE.out.symm, HB1.out⟩
    · have HE := Box.mk (fmtS_yes hk hlt HM.out.2.2)
      have HS := Box.mk (show s = ⟨(linesB l).toArray⟩ from ba_ext (by have := HM.out.1; rw [List.take_of_length_le (by omega)] at this; rw [this]))
      go_wp2_with fail
      go_ret
      exact ⟨ret_str (by rw [HE.out, HS.out]), HM.out.2.1⟩
end Go.Proofs.YtcniajbfgfikjaaDoor
