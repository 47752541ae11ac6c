/- The contracts of awake and of the laws of layer 1. -/
import Derived.Test.YtkdlednogenagaaDoorAsciiD
namespace Go.Proofs.YtkdlednogenagaaDoor
open Go.RowKit

theorem strsNew (w : World) (l : List ByteArray) : StrsAt (w.alloc (.cells (l.map Value.string).toArray 9)) (some ⟨w.heap.size, 0, none⟩) l := fun j hj => ⟨_, 0, rfl, by
  rw [World.cell?_alloc_mark]; simp [hj]⟩
theorem below_alloc (w : World) (o : Obj) : Below w.heap.size w (w.alloc o) := (Below.refl _ _).alloc (Nat.le_refl _) _
theorem lowB_idem (c : UInt8) : lowB (lowB c) = lowB c := by
  by_cases h : upB c.toNat = true
  · have e := lowB_val' c h
    have : upB (lowB c).toNat = false := by
      unfold upB at h ⊢; simp at h ⊢; omega
    show (if upB ((lowB c).toNat : Int) = true then lowB c + 32 else lowB c) = lowB c
    rw [this]; rfl
  · have h' : upB c.toNat = false := by simpa using h
    have e : lowB c = c := by unfold lowB; rw [h']; rfl
    rw [e, e]
theorem lowS_idem (s : ByteArray) : lowS (lowS s) = lowS s := by
  unfold lowS; simp only [List.map_map]
  congr 2
  exact List.map_congr_left fun c _ => lowB_idem c
theorem lowS_size (s : ByteArray) : (lowS s).size = s.size := by
  show (lowS s).data.size = s.data.size
  simp [lowS]

section
variable (w : World) (m : Int)

set_option maxRecDepth 100000 in
set_option maxHeartbeats 800000 in
theorem awake_any (hm : w.cell? ⟨0, 0, none⟩ = some (.int .i64 m)) :
    Calls Tryd.prog 12 #[] w fun e w' => e = .returned (.bool true) ∧ Below w.heap.size w w' := by
  have HM := Lib.hid hm
  clear hm
  go_enter Tryd.func12, Tryd.ntmps12
  go_wp2_with fail
  refine (fold_any _ _ _ (by decide) (by decide)).mono ?_
  rintro e w1 ⟨he, hb1⟩
  rw [show foldS ⟨#[72, 111, 115, 116]⟩ ⟨#[104, 79, 83, 84]⟩ = true by decide +kernel] at he
  subst he
  go_wp2_with fail
  refine (token_any _ _ (by decide)).mono ?_
  rintro e w2 ⟨he, rfl⟩
  rw [show tokS ⟨#[88, 45, 65]⟩ = true by decide +kernel] at he
  subst he
  go_wp2_with fail
  refine (token_any _ _ (by decide)).mono ?_
  rintro e w2 ⟨he, rfl⟩
  rw [show tokS ⟨#[97, 32, 98]⟩ = false by decide +kernel] at he
  subst he
  go_wp2_with fail
  refine (trim_any _ _ (by decide)).mono ?_
  rintro e w2 ⟨he, hb2⟩
  rw [show trimBA ⟨#[32, 9, 97, 32]⟩ = ⟨#[97]⟩ by decide +kernel] at he
  subst he
  go_wp2_with fail
  refine (value_any _ _ (by decide)).mono ?_
  rintro e w3 ⟨he, hb3⟩
  rw [show valS ⟨#[97, 32, 98]⟩ = true by decide +kernel] at he
  subst he
  go_wp2_with fail
  refine (value_any _ _ (by decide)).mono ?_
  rintro e w4 ⟨he, hb4⟩
  rw [show valS ⟨#[32, 97]⟩ = false by decide +kernel] at he
  subst he
  have hb := Lib.hid (below_trans (below_trans (below_trans hb1 hb2) hb3) hb4)
  clear hb1 hb2 hb3 hb4
  go_wp2_with fail
  refine (list_any [⟨#[97, 44, 32, 98, 44, 44, 32, 99]⟩, ⟨#[100]⟩] _ _ _ m (strsNew w4 [⟨#[97, 44, 32, 98, 44, 44, 32, 99]⟩, ⟨#[100]⟩]) (below_cell (below_alloc _ _) (below_cell hb.out HM.out)) (by decide)).mono ?_
  rintro e w5 ⟨a, ca, he, hs, hb5⟩
  rw [show listL [⟨#[97, 44, 32, 98, 44, 44, 32, 99]⟩, ⟨#[100]⟩] = [⟨#[97]⟩, ⟨#[98]⟩, ⟨#[99]⟩, ⟨#[100]⟩] by decide +kernel] at he hs
  subst he
  have HS := Lib.hid hs
  have hbb := Lib.hid (below_trans hb.out (below_trans (below_alloc _ _) hb5))
  clear hs hb5
  go_wp2_with fail
  refine (same_any [⟨#[97]⟩, ⟨#[98]⟩, ⟨#[99]⟩, ⟨#[100]⟩] [⟨#[97]⟩, ⟨#[98]⟩, ⟨#[99]⟩, ⟨#[100]⟩] _ _ _ _ _ (HS.out.keep (below_alloc _ _)) (strsNew w5 [⟨#[97]⟩, ⟨#[98]⟩, ⟨#[99]⟩, ⟨#[100]⟩]) (by decide) (by decide)).mono ?_
  rintro e w6 ⟨he, hb6⟩
  rw [show sameS [⟨#[97]⟩, ⟨#[98]⟩, ⟨#[99]⟩, ⟨#[100]⟩] [⟨#[97]⟩, ⟨#[98]⟩, ⟨#[99]⟩, ⟨#[100]⟩] = true by unfold sameS; simp] at he
  subst he
  go_wp2_with fail
  go_ret
  exact ⟨rfl, below_trans hbb.out (below_trans (below_alloc _ _) hb6)⟩

theorem beq_same (a : ByteArray) : (a.toList == a.toList) = true := by simp

set_option maxHeartbeats 800000 in
theorem asciiLower_any (a b : ByteArray) (ha : a.size ≤ maxLen) (hb : b.size ≤ maxLen) (hm : w.cell? ⟨0, 0, none⟩ = some (.int .i64 m)) :
    Calls Tryd.prog 3 #[.string a, .string b] w fun e w' => e = .returned (.bool true) ∧ Below w.heap.size w w' := by
  have HM := Lib.hid hm
  clear hm
  have hz : (lowS a).size = a.size := lowS_size a
  go_enter Tryd.func3, Tryd.ntmps3
  go_wp2_with fail
  refine (lower_any a _ ha).mono ?_
  rintro e w1 ⟨rfl, hb1⟩
  go_wp2_with fail
  refine (refLower_any a _ ha).mono ?_
  rintro e w2 ⟨rfl, hb2⟩
  go_wp2_with fail
  refine (lower_any (lowS a) _ (by rw [lowS_size]; exact ha)).mono ?_
  rintro e w3 ⟨he, hb3⟩
  rw [lowS_idem] at he
  subst he
  go_wp2_with fail
  refine (fold_any a b _ ha hb).mono ?_
  rintro e w4 ⟨rfl, hb4⟩
  go_wp2_with fail
  refine (refFold_any a b _ ha hb).mono ?_
  rintro e w5 ⟨rfl, hb5⟩
  go_wp2_with fail
  refine (fold_any a (lowS a) _ ha (by rw [lowS_size]; exact ha)).mono ?_
  rintro e w6 ⟨he, hb6⟩
  rw [show foldS a (lowS a) = true by unfold foldS; rw [lowS_idem]; simp] at he
  subst he
  have hbb := Lib.hid (below_trans (below_trans (below_trans (below_trans (below_trans hb1 hb2) hb3) hb4) hb5) hb6)
  clear hb1 hb2 hb3 hb4 hb5 hb6
  go_wp2_with fail
  refine (awake_any _ m (below_cell hbb.out HM.out)).mono ?_
  rintro e w7 ⟨rfl, hb7⟩
  go_wp2_with fail
  go_ret
  exact ⟨rfl, below_trans hbb.out hb7⟩
end
end Go.Proofs.YtkdlednogenagaaDoor
