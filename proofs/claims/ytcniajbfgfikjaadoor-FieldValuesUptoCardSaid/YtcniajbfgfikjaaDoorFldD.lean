/- Values, Has and Without, in the reference. -/
import Derived.Test.YtcniajbfgfikjaaDoorFldC
namespace Go.Proofs.YtcniajbfgfikjaaDoor
open Go.RowKit

def valuesL (l : List Fld) (n : ByteArray) : List ByteArray := (l.filter fun f => foldS f.1 n).map (·.2)
theorem valuesL_yes (l : List Fld) (n : ByteArray) (k : Nat) (h : k < l.length) (hf : foldS l[k].1 n = true) : valuesL (l.take (k + 1)) n = valuesL (l.take k) n ++ [l[k].2] := by
  unfold valuesL
  rw [List.take_succ_eq_append_getElem h, List.filter_append, List.map_append]; simp [hf]
theorem valuesL_no (l : List Fld) (n : ByteArray) (k : Nat) (h : k < l.length) (hf : foldS l[k].1 n = false) : valuesL (l.take (k + 1)) n = valuesL (l.take k) n := by
  unfold valuesL
  rw [List.take_succ_eq_append_getElem h, List.filter_append, List.map_append]; simp [hf]
theorem valuesL_len (l : List Fld) (n : ByteArray) : (valuesL l n).length ≤ l.length := by
  unfold valuesL; rw [List.length_map]; exact List.length_filter_le _ _
set_option maxRecDepth 100000 in
set_option maxHeartbeats 1000000 in
theorem refValues_any (l : List Fld) (n : ByteArray) (a : Option Addr) (cap : Nat) (w : World) (h : FldsIn w a l) (hz : ShortF l) (hn : n.size ≤ maxLen) (hl : l.length ≤ 1000000) :
    Calls Tryd.prog 14 #[.slice a l.length cap, .string n] w (RetStrs w (valuesL l n)) := by
  have H0 := Box.mk h
  have HZ := Box.mk hz
  clear h hz
  go_enter Tryd.func14, Tryd.ntmps14
  go_wp2_with fail
  go_loopw [5, 6] (fun v iv wr => ∃ k : Nat, k ≤ l.length ∧ iv = .int .i64 k ∧ Box (Acc w wr v (valuesL (l.take k) n))) (fun _ iv _ => l.length - (intOf iv).toNat)
  case atStart => exact ⟨0, Nat.zero_le _, rfl, ⟨Acc.start w⟩⟩
  case round =>
    obtain ⟨k, hk, rfl, HM⟩ := hrel
    by_cases hlt : k < l.length
    · obtain ⟨x, rfl, hx1, hx2⟩ := (H0.out.keep HM.out.2) k hlt
      have HSZ := Box.mk (HZ.out _ (List.getElem_mem hlt))
      have hVL := valuesL_len (l.take k) n
      have hVL2 : (l.take k).length ≤ k := List.length_take_le _ _
      by_cases hf : foldS l[k].1 n = true
      · have HT := Box.mk (valuesL_yes l n k hlt hf)
        have HC2 := Box.mk hx2
        generalize l[k] = f at *
        go_wp2_with fail
        refine (refFold_any f.1 n _ HSZ.out.1 hn).mono ?_
        rintro e w1 ⟨rfl, hb1⟩
        have hc2 := cell_next (below_cell hb1 HC2.out)
        have HM1 := Box.mk (HM.out.keep hb1)
        clear hb1 hx2
        go_wp2_with (at_builtin; refine wpList_append_acc _ rfl _ _ rfl rfl (HM1.out.keep ((Below.refl _ _).alloc (Nat.le_refl _) _)) rfl (y := f.2) ?c1 ?c2 ?c3)
        case c1 => simp
        case c2 => omega
        case c3 =>
          intro g cap' w' hacc _
          have HACC := Box.mk (show Acc w w' (.slice (some ⟨g, 0, none⟩) ((valuesL (l.take k) n).length + 1) cap') (valuesL (l.take (k + 1)) n) by rw [HT.out]; exact hacc)
          clear hacc HM1 HT
          go_wp2_with fail
          go_roundw
          case rel => exact ⟨k + 1, by omega, by go_num, HACC⟩
          case measure => simp [intOf]; omega
      · have hf' : foldS l[k].1 n = false := by simpa using hf
        have HT := Box.mk (valuesL_no l n k hlt hf')
        clear hf
        generalize l[k] = f at *
        go_wp2_with fail
        refine (refFold_any f.1 n _ HSZ.out.1 hn).mono ?_
        rintro e w1 ⟨rfl, hb1⟩
        have HM1 := Box.mk (show Acc w w1 _ (valuesL (l.take (k + 1)) n) by rw [HT.out]; exact HM.out.keep hb1)
        clear hb1
        go_wp2_with fail
        go_roundw
        case rel => exact ⟨k + 1, by omega, by go_num, HM1⟩
        case measure => simp [intOf]; omega
    · have HE := Box.mk (show Acc w wr _ (valuesL l n) by have := HM.out; rw [List.take_of_length_le (by omega)] at this; exact this)
      go_wp2_with fail
      obtain ⟨a', cap', rfl, hs⟩ := HE.out.shape
      go_ret
      exact ⟨a', cap', rfl, hs, HE.out.2⟩

theorem valuesL_any (l : List Fld) (n : ByteArray) : (decide (0 < (valuesL l n).length)) = l.any fun f => foldS f.1 n := by
  unfold valuesL
  rw [List.length_map, Bool.eq_iff_iff, decide_eq_true_eq, List.any_eq_true]
  constructor
  · intro h
    have h' : 0 < (l.filter fun f => foldS f.1 n).length := by omega
    obtain ⟨f, hf⟩ := List.exists_mem_of_length_pos h'
    rw [List.mem_filter] at hf
    exact ⟨f, hf.1, hf.2⟩
  · rintro ⟨f, h1, h2⟩
    have : f ∈ l.filter fun f => foldS f.1 n := List.mem_filter.2 ⟨h1, h2⟩
    have := List.length_pos_of_mem this
    omega
def hasL (l : List Fld) (n : ByteArray) : Bool := l.any fun f => foldS f.1 n

set_option maxHeartbeats 1000000 in
theorem refHas_any (l : List Fld) (n : ByteArray) (a : Option Addr) (cap : Nat) (w : World) (h : FldsIn w a l) (hz : ShortF l) (hn : n.size ≤ maxLen) (hl : l.length ≤ 1000000) :
    Calls Tryd.prog 16 #[.slice a l.length cap, .string n] w fun e w' => e = .returned (.bool (hasL l n)) ∧ Below w.heap.size w w' := by
  have H0 := Box.mk h
  clear h
  have HV := Box.mk (valuesL_any l n)
  go_enter Tryd.func16, Tryd.ntmps16
  go_wp2_with fail
  refine (refValues_any l n a cap _ H0.out hz hn hl).mono ?_
  rintro e w1 ⟨a', cap', rfl, hs, hb⟩
  have hVL := valuesL_len l n
  clear hs
  go_wp2_with fail
  go_ret
  exact ⟨ret_bool HV.out, hb⟩

def inFoldL (l : List ByteArray) (s : ByteArray) : Bool := l.any fun x => foldS x s
theorem inFoldL_no {l : List ByteArray} {s : ByteArray} {k : Nat} (h1 : k ≤ l.length) (h2 : ¬ k < l.length) (h : ∀ x ∈ l.take k, foldS x s = false) : inFoldL l s = false := by
  unfold inFoldL
  rw [List.take_of_length_le (by omega)] at h
  rw [List.any_eq_false]
  intro x hx
  rw [h x hx]; simp
set_option maxRecDepth 100000 in
set_option maxHeartbeats 1000000 in
theorem inFold_any (l : List ByteArray) (s : ByteArray) (a : Option Addr) (cap : Nat) (w : World) (h : StrsIn w a l) (hz : ∀ x ∈ l, x.size ≤ maxLen) (hs : s.size ≤ maxLen) (hl : l.length ≤ 1000000) :
    Calls Tryd.prog 45 #[.slice a l.length cap, .string s] w fun e w' => e = .returned (.bool (inFoldL l s)) ∧ Below w.heap.size w w' := by
  have H0 := Box.mk h
  have HZ := Box.mk hz
  clear h hz
  go_enter Tryd.func45, Tryd.ntmps45
  go_wp2_with fail
  go_loopw [5] (fun iv wr => ∃ k : Nat, k ≤ l.length ∧ iv = .int .i64 k ∧ Box (Below w.heap.size w wr ∧ ∀ x ∈ l.take k, foldS x s = false)) (fun iv _ => l.length - (intOf iv).toNat)
  case atStart => exact ⟨0, Nat.zero_le _, rfl, ⟨Below.refl _ _, by simp⟩⟩
  case round =>
    obtain ⟨k, hk, rfl, HM⟩ := hrel
    by_cases hlt : k < l.length
    · obtain ⟨x, rfl, hx⟩ := (H0.out.keep HM.out.1) k hlt
      have HSZ := Box.mk (HZ.out _ (List.getElem_mem hlt))
      by_cases hf : foldS l[k] s = true
      · have HT := Box.mk (show inFoldL l s = true by unfold inFoldL; exact List.any_eq_true.2 ⟨_, List.getElem_mem hlt, hf⟩)
        generalize l[k] = f at *
        go_wp2_with fail
        refine (refFold_any f s _ HSZ.out hs).mono ?_
        rintro e w1 ⟨rfl, hb1⟩
        have HB1 := Box.mk (below_trans HM.out.1 hb1)
        clear hb1
        go_wp2_with fail
        go_ret
        exact ⟨ret_bool HT.out.symm, HB1.out⟩
      · have hf' : foldS l[k] s = false := by simpa using hf
        have HT := Box.mk (show ∀ x ∈ l.take (k + 1), foldS x s = false by
          rw [List.take_succ_eq_append_getElem hlt]
          intro x hx
          rcases List.mem_append.1 hx with h | h
          · exact HM.out.2 x h
          · simp at h; rw [h]; exact hf')
        clear hf
        generalize l[k] = f at *
        go_wp2_with fail
        refine (refFold_any f s _ HSZ.out hs).mono ?_
        rintro e w1 ⟨rfl, hb1⟩
        have HM1 := Box.mk (And.intro (below_trans HM.out.1 hb1) HT.out)
        clear hb1 HT
        go_wp2_with fail
        go_roundw
        case rel => exact ⟨k + 1, by omega, by go_num, HM1⟩
        case measure => simp [intOf]; omega
    · have HE := Box.mk (inFoldL_no hk hlt HM.out.2)
      go_wp2_with fail
      go_ret
      exact ⟨ret_bool HE.out.symm, HM.out.1⟩

def withoutL (l : List Fld) (ns : List ByteArray) : List Fld := l.filter fun f => !inFoldL ns f.1
theorem withoutL_yes (l : List Fld) (ns : List ByteArray) (k : Nat) (h : k < l.length) (hf : inFoldL ns l[k].1 = false) : withoutL (l.take (k + 1)) ns = withoutL (l.take k) ns ++ [l[k]] := by
  unfold withoutL
  rw [List.take_succ_eq_append_getElem h, List.filter_append]; simp [hf]
theorem withoutL_no (l : List Fld) (ns : List ByteArray) (k : Nat) (h : k < l.length) (hf : inFoldL ns l[k].1 = true) : withoutL (l.take (k + 1)) ns = withoutL (l.take k) ns := by
  unfold withoutL
  rw [List.take_succ_eq_append_getElem h, List.filter_append]; simp [hf]
theorem withoutL_len (l : List Fld) (ns : List ByteArray) : (withoutL l ns).length ≤ l.length := by
  unfold withoutL; exact List.length_filter_le _ _
theorem withoutL_short {l : List Fld} (h : ShortF l) (ns : List ByteArray) : ShortF (withoutL l ns) := fun f hf => h f (List.mem_filter.1 hf).1
/-- The call returns a slice of the fields l; what was there is as it was. -/
def RetFlds (w : World) (l : List Fld) (e : Ending) (w' : World) : Prop :=
  ∃ a cap, e = .returned (.slice a l.length cap) ∧ FldsIn w' a l ∧ Below w.heap.size w w'

set_option maxRecDepth 100000 in
set_option maxHeartbeats 1000000 in
theorem refWithout_any (l : List Fld) (ns : List ByteArray) (a b : Option Addr) (cap cb : Nat) (w : World) (h : FldsIn w a l) (hz : ShortF l) (hn : StrsIn w b ns) (hnz : ∀ x ∈ ns, x.size ≤ maxLen) (hl : l.length ≤ 1000000) (hnl : ns.length ≤ 1000000) :
    Calls Tryd.prog 23 #[.slice a l.length cap, .slice b ns.length cb] w (RetFlds w (withoutL l ns)) := by
  have H0 := Box.mk h
  have HZ := Box.mk hz
  have HN := Box.mk hn
  have HNZ := Box.mk hnz
  clear h hz hn hnz
  go_enter Tryd.func23, Tryd.ntmps23
  go_wp2_with fail
  go_loopw [5, 6] (fun v iv wr => ∃ k : Nat, k ≤ l.length ∧ iv = .int .i64 k ∧ Box (AccF w wr v (withoutL (l.take k) ns))) (fun _ iv _ => l.length - (intOf iv).toNat)
  case atStart => exact ⟨0, Nat.zero_le _, rfl, ⟨AccF.start w⟩⟩
  case round =>
    obtain ⟨k, hk, rfl, HM⟩ := hrel
    by_cases hlt : k < l.length
    · obtain ⟨x, rfl, hx1, hx2⟩ := (H0.out.keep HM.out.2) k hlt
      have HSZ := Box.mk (HZ.out _ (List.getElem_mem hlt))
      have hVL := withoutL_len (l.take k) ns
      have hVL2 : (l.take k).length ≤ k := List.length_take_le _ _
      have HN1 := Box.mk (HN.out.keep HM.out.2)
      by_cases hf : inFoldL ns l[k].1 = true
      · have HT := Box.mk (withoutL_no l ns k hlt hf)
        clear hx2
        generalize l[k] = f at *
        go_wp2_with fail
        refine (inFold_any ns f.1 b cb _ HN1.out HNZ.out HSZ.out.1 hnl).mono ?_
        rintro e w1 ⟨rfl, hb1⟩
        have HM1 := Box.mk (show AccF w w1 _ (withoutL (l.take (k + 1)) ns) by rw [HT.out]; exact HM.out.keep hb1)
        clear hb1
        go_wp2_with fail
        go_roundw
        case rel => exact ⟨k + 1, by omega, by go_num, HM1⟩
        case measure => simp [intOf]; omega
      · have hf' : inFoldL ns l[k].1 = false := by simpa using hf
        have HT := Box.mk (withoutL_yes l ns k hlt hf')
        have HC1 := Box.mk hx1
        have HC2 := Box.mk hx2
        clear hf hx2
        generalize l[k] = f at *
        go_wp2_with fail
        refine (inFold_any ns f.1 b cb _ HN1.out HNZ.out HSZ.out.1 hnl).mono ?_
        rintro e w1 ⟨rfl, hb1⟩
        have hc1 := below_cell hb1 HC1.out
        have hc2 := cell_next (below_cell hb1 HC2.out)
        clear hx1
        have HM1 := Box.mk (HM.out.keep hb1)
        clear hb1
        go_wp2_with (at_builtin; refine wpList_append_accf _ rfl _ _ rfl rfl (HM1.out.keep ((Below.refl _ _).alloc (Nat.le_refl _) _)) rfl (y := f) ?c1 ?c2 ?c3 ?c4)
        case c1 => simp
        case c2 => simp
        case c3 => omega
        case c4 =>
          intro g cap' w' hacc
          have HACC := Box.mk (show AccF w w' (.slice (some ⟨g, 0, none⟩) ((withoutL (l.take k) ns).length + 1) cap') (withoutL (l.take (k + 1)) ns) by rw [HT.out]; exact hacc)
          clear hacc HM1 HT
          go_wp2_with fail
          go_roundw
          case rel => exact ⟨k + 1, by omega, by go_num, HACC⟩
          case measure => simp [intOf]; omega
    · have HE := Box.mk (show AccF w wr _ (withoutL l ns) by have := HM.out; rw [List.take_of_length_le (by omega)] at this; exact this)
      go_wp2_with fail
      obtain ⟨a', cap', rfl, hs⟩ := HE.out.shape
      go_ret
      exact ⟨a', cap', rfl, hs, HE.out.2⟩
end Go.Proofs.YtcniajbfgfikjaaDoor
