/- The contracts of the laws AsciiToken, AsciiBytes, AsciiTrim. -/
import Derived.Test.YtkdlednogenagaaDoorAsciiE
namespace Go.Proofs.YtkdlednogenagaaDoor
open Go.RowKit

theorem conv1 (w : World) (c : UInt8) (cap : Nat) : (convert 25 9 (.slice (some ⟨w.heap.size, 0, none⟩) 1 cap)).run Tryd.prog (w.alloc (.cells #[.int .u8 (c.toNat : Int)] 5)) = .ok (.string ⟨#[c]⟩) (w.alloc (.cells #[.int .u8 (c.toNat : Int)] 5)) := by
  have h := run_convert_bytes_back (P := Tryd.prog) (w.alloc (.cells #[.int .u8 (c.toNat : Int)] 5)) 25 9 5 ⟨w.heap.size, 0, none⟩ cap [c] Tryd.underlying25 Tryd.underlying5 Tryd.underlying9 (fun j hj => by
    have : j = 0 := by simpa using hj
    subst this
    rw [Addr.add_lit, Nat.zero_add, World.cell?_alloc_mark]; rfl)
  exact h
theorem conv2 (w : World) (o : Obj) (c : UInt8) (cap : Nat) : (convert 25 9 (.slice (some ⟨w.heap.size + 1, 0, none⟩) 1 cap)).run Tryd.prog ((w.alloc o).alloc (.cells #[.int .u8 (c.toNat : Int)] 5)) = .ok (.string ⟨#[c]⟩) ((w.alloc o).alloc (.cells #[.int .u8 (c.toNat : Int)] 5)) := by
  have h : (w.alloc o).heap.size = w.heap.size + 1 := by simp
  rw [← h]; exact conv1 _ _ _
theorem app_size (a b : ByteArray) : (a ++ b).size = a.size + b.size := by
  show (a ++ b).data.size = a.data.size + b.data.size
  rw [ByteArray.data_append]; simp
theorem app_list (a b : ByteArray) : (a ++ b).data.toList = a.data.toList ++ b.data.toList := by
  rw [ByteArray.data_append]; simp

section
variable (w : World) (m : Int)

set_option maxHeartbeats 1600000 in
theorem asciiToken_any (s t : ByteArray) (a : Option Addr) (cap : Nat) (hs : s.size ≤ maxLen) (ht : t.size ≤ maxLen)
    (hconv : (convert 25 9 (.slice a t.size cap)).run Tryd.prog w = .ok (.string t) w)
    (hm : w.cell? ⟨0, 0, none⟩ = some (.int .i64 m)) :
    Calls Tryd.prog 4 #[.string s, .slice a t.size cap] w fun e w' => e = .returned (.bool true) ∧ Below w.heap.size w w' := by
  have HM := Lib.hid hm
  clear hm
  go_enter Tryd.func4, Tryd.ntmps4
  go_wp2_with fail
  refine (token_any s _ hs).mono ?_
  rintro e w1 ⟨rfl, rfl⟩
  go_wp2_with fail
  refine (refToken_any s _ hs).mono ?_
  rintro e w1 ⟨rfl, rfl⟩
  go_wp2_with fail
  refine (token_any t _ ht).mono ?_
  rintro e w1 ⟨rfl, rfl⟩
  go_wp2_with fail
  refine (refToken_any t _ ht).mono ?_
  rintro e w1 ⟨rfl, rfl⟩
  clear hconv
  go_wp2_with fail
  refine (value_any s _ hs).mono ?_
  rintro e w1 ⟨rfl, hb1⟩
  go_wp2_with fail
  refine (refValue_any s _ hs).mono ?_
  rintro e w2 ⟨rfl, rfl⟩
  go_wp2_with fail
  refine (value_any t _ ht).mono ?_
  rintro e w2 ⟨rfl, hb2⟩
  go_wp2_with fail
  refine (refValue_any t _ ht).mono ?_
  rintro e w3 ⟨rfl, rfl⟩
  have hbb := Lib.hid (below_trans hb1 hb2)
  clear hb1 hb2
  go_wp2_with fail
  refine (awake_any _ m (below_cell hbb.out HM.out)).mono ?_
  rintro e w7 ⟨rfl, hb7⟩
  go_wp2_with fail
  go_ret
  exact ⟨rfl, below_trans hbb.out hb7⟩

set_option maxHeartbeats 1600000 in
theorem asciiBytes_any (c : UInt8) (hm : w.cell? ⟨0, 0, none⟩ = some (.int .i64 m)) :
    Calls Tryd.prog 5 #[.int .u8 c.toNat] w fun e w' => e = .returned (.bool true) ∧ Below w.heap.size w w' := by
  have HM := Lib.hid hm
  clear hm
  have hconv := conv1 w c 1
  have hS : (⟨#[c]⟩ : ByteArray).size ≤ maxLen := by show 1 ≤ maxLen; decide
  have hA : ((⟨#[97]⟩ : ByteArray) ++ ⟨#[c]⟩).size ≤ maxLen := by rw [app_size]; show 2 ≤ maxLen; decide
  have hAA : ((⟨#[97]⟩ : ByteArray) ++ ⟨#[c]⟩ ++ ⟨#[97]⟩).size ≤ maxLen := by rw [app_size, app_size]; show 3 ≤ maxLen; decide
  have HS := Lib.hid hS
  have HA := Lib.hid hA
  have HAA := Lib.hid hAA
  clear hS hA hAA
  generalize hsc : (⟨#[c]⟩ : ByteArray) = sc at *
  have hz : sc.size = 1 := by rw [← hsc]; rfl
  clear hsc
  go_enter Tryd.func5, Tryd.ntmps5
  go_wp2_with fail
  clear hconv
  refine (token_any sc _ HS.out).mono ?_
  rintro e w1 ⟨rfl, rfl⟩
  go_wp2_with fail
  refine (refToken_any sc _ HS.out).mono ?_
  rintro e w1 ⟨rfl, rfl⟩
  go_wp2_with fail
  refine (value_any _ _ HAA.out).mono ?_
  rintro e w1 ⟨rfl, hb1⟩
  go_wp2_with fail
  refine (refValue_any _ _ HAA.out).mono ?_
  rintro e w2 ⟨rfl, rfl⟩
  go_wp2_with fail
  refine (token_any _ _ HA.out).mono ?_
  rintro e w2 ⟨rfl, rfl⟩
  go_wp2_with fail
  refine (refToken_any _ _ HA.out).mono ?_
  rintro e w2 ⟨rfl, rfl⟩
  go_wp2_with fail
  refine (value_any sc _ HS.out).mono ?_
  rintro e w2 ⟨rfl, hb2⟩
  go_wp2_with fail
  refine (refValue_any sc _ HS.out).mono ?_
  rintro e w3 ⟨rfl, rfl⟩
  go_wp2_with fail
  refine (lower_any sc _ HS.out).mono ?_
  rintro e w3 ⟨rfl, hb3⟩
  go_wp2_with fail
  refine (refLower_any sc _ HS.out).mono ?_
  rintro e w4 ⟨rfl, hb4⟩
  have hbb := Lib.hid (below_trans (below_trans (below_trans (below_trans (below_alloc _ _) hb1) hb2) hb3) hb4)
  clear hb1 hb2 hb3 hb4
  go_wp2_with fail
  refine (awake_any _ m (below_cell hbb.out HM.out)).mono ?_
  rintro e w7 ⟨rfl, hb7⟩
  go_wp2_with fail
  go_ret
  exact ⟨rfl, below_trans hbb.out hb7⟩

theorem trim_wrapped (s : ByteArray) : trimBA (⟨#[32]⟩ ++ s ++ ⟨#[9]⟩) = trimBA s := ba_ext (by
  rw [trimBA_list, trimBA_list, app_list, app_list]
  show trimL ((32 :: s.data.toList) ++ [9]) = _
  rw [trimL_back _ 9 (by decide), trimL_front _ 32 (by decide)])

set_option maxHeartbeats 1600000 in
theorem asciiTrim_any (s : ByteArray) (b1 b2 : UInt8) (hs : s.size ≤ 140737488351232) (hm : w.cell? ⟨0, 0, none⟩ = some (.int .i64 m)) :
    Calls Tryd.prog 6 #[.string s, .int .u8 b1.toNat, .int .u8 b2.toNat] w fun e w' => e = .returned (.bool true) ∧ Below w.heap.size w w' := by
  have HM := Lib.hid hm
  clear hm
  have hc1 := fun w => conv1 w b1 1
  have hc2 := fun w o => conv2 w o b2 1
  have HS : Hid (s.size ≤ maxLen) := Lib.hid (by unfold maxLen; omega)
  have HW : Hid (((⟨#[32]⟩ : ByteArray) ++ s ++ ⟨#[9]⟩).size ≤ maxLen) := Lib.hid (by rw [app_size, app_size]; show 1 + s.size + 1 ≤ maxLen; unfold maxLen; omega)
  have HY : Hid (((⟨#[b1]⟩ : ByteArray) ++ s ++ ⟨#[b2]⟩).size ≤ maxLen) := Lib.hid (by rw [app_size, app_size]; show 1 + s.size + 1 ≤ maxLen; unfold maxLen; omega)
  have hW1 : ((⟨#[32]⟩ : ByteArray) ++ s).size = 1 + s.size := by rw [app_size]; rfl
  have hz1 : (⟨#[b1]⟩ : ByteArray).size = 1 := rfl
  have hz2 : (⟨#[b2]⟩ : ByteArray).size = 1 := rfl
  have HTW := Lib.hid (trim_wrapped s)
  generalize hsc1 : (⟨#[b1]⟩ : ByteArray) = s1 at *
  generalize hsc2 : (⟨#[b2]⟩ : ByteArray) = s2 at *
  clear hsc1 hsc2
  have hY1 : (s1 ++ s).size = 1 + s.size := by rw [app_size, hz1]
  go_enter Tryd.func6, Tryd.ntmps6
  go_wp2_with fail
  refine (trim_any s _ HS.out).mono ?_
  rintro e w1 ⟨rfl, hb1⟩
  go_wp2_with fail
  refine (trim_any _ _ HY.out).mono ?_
  rintro e w2 ⟨rfl, hb2⟩
  go_wp2_with fail
  refine (refTrim_any s _ HS.out).mono ?_
  rintro e w3 ⟨rfl, rfl⟩
  go_wp2_with fail
  refine (trim_any (trimBA s) _ ?_).mono ?_
  · have h1 := trimBA_size s; have h2 := HS.out; omega
  rintro e w3 ⟨he, hb3⟩
  rw [trimBA_idem] at he
  subst he
  go_wp2_with fail
  refine (trim_any _ _ HW.out).mono ?_
  rintro e w4 ⟨he, hb4⟩
  rw [HTW.out] at he
  subst he
  go_wp2_with fail
  refine (refTrim_any _ _ HY.out).mono ?_
  rintro e w5 ⟨rfl, rfl⟩
  have hbb := Lib.hid (below_trans (below_trans (below_trans (below_trans hb1 (below_trans (below_alloc _ _) (below_trans (below_alloc _ _) hb2))) hb3) hb4) (below_trans (below_alloc _ (.cells #[.int .u8 (b1.toNat : Int)] 5)) (below_alloc _ (.cells #[.int .u8 (b2.toNat : Int)] 5))))
  clear hb1 hb2 hb3 hb4
  go_wp2_with fail
  refine (awake_any _ m (below_cell hbb.out HM.out)).mono ?_
  rintro e w7 ⟨rfl, hb7⟩
  go_wp2_with fail
  go_ret
  exact ⟨rfl, below_trans hbb.out hb7⟩
end
end Go.Proofs.YtkdlednogenagaaDoor
