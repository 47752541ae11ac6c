/- The contract of the law AsciiList. -/
import Derived.Test.YtkdlednogenagaaDoorAsciiF
import Derived.Deep.RegionHeld3
namespace Go.Proofs.YtkdlednogenagaaDoor
open Go.RowKit

theorem below_trans_r {w w1 w2 : World} (k : Below w1.heap.size w1 w2) (h : Below w.heap.size w w1) : Below w.heap.size w w2 := below_trans h k
theorem sameS_self (x : List ByteArray) : sameS x x = true := by unfold sameS; simp
theorem total2 (a b : ByteArray) (h : a.size + b.size ≤ 4000) : total [a, b] ≤ 4000000000 := by simp only [total]; omega
theorem total1 (a : ByteArray) (h : a.size ≤ 5000) : total [a] ≤ 4000000000 := by simp only [total]; omega
theorem splitL_total (c : UInt8) : ∀ l : List UInt8, ((splitL c l).map (fun p => p.length + 1)).sum = l.length + 1
  | [] => rfl
  | b :: t => by
    have ih := splitL_total c t
    rw [splitL]; split
    · simp; omega
    · cases h : splitL c t with
      | nil => exact absurd h (splitL_ne c t)
      | cons q r => rw [h] at ih; simp [front] at ih ⊢; omega
theorem total_map (L : List (List UInt8)) : total (L.map ofL) = (L.map (fun p => p.length + 1)).sum := by
  induction L with
  | nil => rfl
  | cons a t ih =>
    have e : (ofL a).size = a.length := by show (ofL a).data.size = _; simp [ofL]
    simp only [List.map_cons, total, List.sum_cons, ih, e]
theorem total_elemsOf (l : List ByteArray) : total (elemsOf l) ≤ total l := by
  unfold elemsOf
  induction l with
  | nil => exact Nat.le_refl _
  | cons a t ih =>
    have h := trimBA_size a
    simp only [List.map_cons, List.filter_cons]
    split <;> simp only [total] <;> omega
theorem total_append (a b : List ByteArray) : total (a ++ b) = total a + total b := by
  induction a with
  | nil => simp [total]
  | cons x t ih => simp only [List.cons_append, total, ih]; omega
theorem total_elemL (a : ByteArray) : total (elemL a) ≤ a.size + 1 := by
  have h1 := total_elemsOf (splitS 44 a)
  have h2 : total (splitS 44 a) = a.size + 1 := by
    unfold splitS; rw [total_map, splitL_total]; simp
  unfold elemL; omega
theorem total_listL : ∀ l : List ByteArray, total (listL l) ≤ total l
  | [] => Nat.le_refl _
  | a :: t => by
    have h1 := total_listL t
    have h2 := total_elemL a
    have e : listL (a :: t) = elemL a ++ listL t := by unfold listL; rw [List.flatMap_cons]
    rw [e, total_append]; simp only [total]; omega

section
variable (w : World) (m : Int)

set_option maxHeartbeats 1600000 in
theorem asciiListLong_any (a b : ByteArray) (ha : a.size ≤ 140737488351232) (hb : b.size ≤ 140737488351232) (hlong : ¬ a.size + b.size ≤ 4000) (hm : w.cell? ⟨0, 0, none⟩ = some (.int .i64 m)) :
    Calls Tryd.prog 7 #[.string a, .string b] w fun e w' => e = .returned (.bool true) ∧ Below w.heap.size w w' := by
  have HM := Lib.hid hm
  clear hm
  go_enter Tryd.func7, Tryd.ntmps7
  go_wp2_with fail
  refine (awake_any _ m HM.out).mono ?_
  rintro e w7 ⟨rfl, hb7⟩
  go_wp2_with fail
  go_ret
  exact ⟨rfl, hb7⟩

set_option maxHeartbeats 1600000 in
theorem asciiList_any (a b : ByteArray) (hshort : a.size + b.size ≤ 4000) (hm : w.cell? ⟨0, 0, none⟩ = some (.int .i64 m)) :
    Calls Tryd.prog 7 #[.string a, .string b] w fun e w' => e = .returned (.bool true) ∧ Below w.heap.size w w' := by
  have HM := Lib.hid hm
  clear hm
  have hab1 : (a ++ ⟨#[44]⟩).size = a.size + 1 := by rw [app_size]; rfl
  have HAB : Hid ((a ++ ⟨#[44]⟩ ++ b).size ≤ 5000) := Lib.hid (by rw [app_size, hab1]; omega)
  have HJ : Hid (listL [a ++ ⟨#[44]⟩ ++ b] = listL [a, b]) := Lib.hid (list_joined a b _ (by rw [app_list, app_list]; show a.data.toList ++ [44] ++ b.data.toList = _; simp))
  go_enter Tryd.func7, Tryd.ntmps7
  go_wp2_with fail
  refine (list_any [a, b] _ _ _ m (strsNew w [a, b]) (below_cell (below_alloc _ _) HM.out) (total2 a b hshort)).mono ?_
  rintro e w1 ⟨l1, c1, rfl, hs1, hb1⟩
  have HB1 := Lib.hid (below_trans (below_alloc _ _) hb1)
  have HS1 := Lib.hid hs1
  clear hs1 hb1
  have hll : (listL [a, b]).length ≤ 4002 := by have h1 := listL_length [a, b]; simp only [total] at h1; omega
  have HLT : Hid (total (listL [a, b]) ≤ 4000000000) := Lib.hid (Nat.le_trans (total_listL _) (total2 a b hshort))
  go_wp2_with fail
  refine (refList_any [a, b] _ _ _ (strsNew w1 [a, b]) (total2 a b hshort)).mono ?_
  rintro e w2 ⟨l2, c2, rfl, hs2, hb2⟩
  have HB2 := Lib.hid (below_trans (below_alloc _ _) hb2)
  have HS2 := Lib.hid hs2
  clear hs2 hb2
  go_wp2_with fail
  refine (same_any _ _ _ _ _ _ _ (HS1.out.keep HB2.out) HS2.out (by omega) (by omega)).mono ?_
  rintro e w3 ⟨he, hb3⟩
  rw [sameS_self] at he
  subst he
  have HB3 := Lib.hid (below_trans HB2.out hb3)
  clear hb3 HB2 HS2
  go_wp2_with fail
  refine (list_any [a ++ ⟨#[44]⟩ ++ b] _ _ _ m (strsNew w3 [a ++ ⟨#[44]⟩ ++ b]) (below_cell (below_alloc _ _) (below_cell HB3.out (below_cell HB1.out HM.out))) (total1 _ HAB.out)).mono ?_
  rintro e w4 ⟨l4, c4, he, hs4, hb4⟩
  rw [HJ.out] at he hs4
  subst he
  have HB4 := Lib.hid (below_trans HB3.out (below_trans (below_alloc _ _) hb4))
  have HS4 := Lib.hid hs4
  clear hs4 hb4 HB3
  go_wp2_with fail
  refine (same_any _ _ _ _ _ _ _ (HS1.out.keep HB4.out) HS4.out (by omega) (by omega)).mono ?_
  rintro e w5 ⟨he, hb5⟩
  rw [sameS_self] at he
  subst he
  have HB5 := Lib.hid (below_trans HB4.out hb5)
  clear hb5 HB4 HS4
  go_wp2_with fail
  refine (list_any [] none 0 _ m (StrsAt.nil _ _) (below_cell HB5.out (below_cell HB1.out HM.out)) (by decide)).mono ?_
  rintro e w6 ⟨l6, c6, rfl, hs6, hb6⟩
  have HB6 := Lib.hid (below_trans HB5.out hb6)
  clear hs6 hb6 HB5
  have hz0 : (listL []).length = 0 := rfl
  generalize hL : listL [a, b] = L at *
  have HL := Lib.hid hL
  clear hL
  go_wp2_with fail
  go_loopw [6] (fun i wr => ∃ k : Nat, k ≤ L.length ∧ i = .int .i64 k ∧ Hid (Below w1.heap.size w1 wr)) (fun i _ => L.length - (intOf i).toNat)
  case atStart => exact ⟨0, Nat.zero_le _, rfl, HB6⟩
  case round =>
    obtain ⟨k, hk, rfl, HB⟩ := hrel
    by_cases hlt : k < L.length
    · obtain ⟨bb, off, rfl, cc⟩ := HS1.out.keep HB.out k hlt
      obtain ⟨n1, n2, n3⟩ := elem_ok (show L[k] ∈ listL [a, b] by rw [HL.out]; simp)
      have ne : L[k].toList.isEmpty = false := by rw [ByteArray.toList_eq]; exact n1
      have N2 := Lib.hid n2
      have hsz : Hid (L[k].size ≤ maxLen) := Lib.hid (by have := total_at hlt HLT.out; unfold maxLen; omega)
      clear n1 n2 n3
      go_wp2_with fail
      have hB := HB.out
      have ht0 : (trimBA L[k]).toList = L[k].toList := by rw [N2.out]
      go_region_held3 (fun w' => w'.cell? ⟨bb, off + k, none⟩ = some (.string L[k]) ∧ Below w1.heap.size w1 w')
        (first
          | exact ⟨cc, hB⟩
          | exact ⟨cc, hB.drew⟩
          | (go_split_ands
             exact ⟨by assumption, by assumption⟩)
          | (go_split_ands
             exact ⟨below_cell (by assumption) (by assumption), below_trans_r (by assumption) (by assumption)⟩))
        (first | (go_at_call 17; refine (trim_any _ _ hsz.out).mono ?_; rintro e w9 ⟨rfl, hbt⟩))
      rename_i hheld
      have HB9 := Lib.hid hheld.2
      clear hheld hbt hB
      go_wp2_with fail
      go_roundw
      case rel => exact ⟨k + 1, by omega, by go_num, HB9⟩
      case measure => simp [intOf]; omega
    · go_wp2_with fail
      refine (list_any L _ _ _ m (HS1.out.keep HB.out) (below_cell HB.out (below_cell HB1.out HM.out)) HLT.out).mono ?_
      rintro e w8 ⟨l8, c8, he, hs8, hb8⟩
      rw [show listL L = L by rw [← HL.out]; exact list_twice _] at he hs8
      subst he
      have HB8 := Lib.hid (below_trans HB.out hb8)
      have HS8 := Lib.hid hs8
      clear hs8 hb8
      go_wp2_with fail
      refine (same_any _ _ _ _ _ _ _ HS8.out (HS1.out.keep HB8.out) (by omega) (by omega)).mono ?_
      rintro e w9 ⟨he, hb9⟩
      rw [sameS_self] at he
      subst he
      have HB9 := Lib.hid (below_trans HB8.out hb9)
      clear hb9
      go_wp2_with fail
      refine (awake_any _ m (below_cell HB9.out (below_cell HB1.out HM.out))).mono ?_
      rintro e w10 ⟨rfl, hb10⟩
      go_wp2_with fail
      go_ret
      exact ⟨rfl, below_trans HB1.out (below_trans HB9.out hb10)⟩
end
end Go.Proofs.YtkdlednogenagaaDoor
