/- Fields: Valid of package field and of its reference; a field's line. -/
import Derived.Test.YtcniajbfgfikjaaDoorAsciiD
import Derived.Test.YtcniajbfgfikjaaDoorOpenS
import Derived.Test.YtcniajbfgfikjaaDoorBytes
import Derived.Test.YtcniajbfgfikjaaDoorLocS
import Derived.Test.YtcniajbfgfikjaaDoorDigMath
namespace Go.Proofs.YtcniajbfgfikjaaDoor
open Go.RowKit

theorem below_oneF (w : World) (o : Obj) : Below w.heap.size w (w.alloc o) := (Below.refl _ _).alloc (Nat.le_refl _) _
/-- Whether a field is valid. -/
def fldB (n v : ByteArray) : Bool := tokS n && valS v
theorem fldB_tok {n v : ByteArray} (h : tokS n = false) : fldB n v = false := by unfold fldB; rw [h]; rfl
theorem fldB_val {n v : ByteArray} (h : tokS n = true) : fldB n v = valS v := by unfold fldB; rw [h]; rfl

set_option maxHeartbeats 1000000 in
theorem hdrValid_any (n v : ByteArray) (w : World) (hn : n.size ≤ maxLen) (hv : v.size ≤ maxLen) :
    Calls Tryd.prog 34 #[.agg #[.string n, .string v]] w fun e w' => e = .returned (.bool (fldB n v)) ∧ Below w.heap.size w w' := by
  go_enter Tryd.func34, Tryd.ntmps34
  by_cases ht : tokS n = true
  · have HT := Box.mk ht
    go_wp2_with fail
    refine (token_any n _ hn).mono ?_
    rintro e w1 ⟨rfl, rfl⟩
    go_wp2_with fail
    refine (value_any v _ hv).mono ?_
    rintro e w1 ⟨rfl, hb⟩
    clear ht
    go_wp2_with fail
    go_ret
    exact ⟨ret_bool (fldB_val HT.out).symm, below_trans (below_oneF _ _) hb⟩
  · have ht' : tokS n = false := by simpa using ht
    have HT := Box.mk ht'
    clear ht
    go_wp2_with fail
    refine (token_any n _ hn).mono ?_
    rintro e w1 ⟨rfl, rfl⟩
    go_wp2_with fail
    go_ret
    exact ⟨ret_bool (fldB_tok HT.out).symm, below_oneF _ _⟩

set_option maxHeartbeats 1000000 in
theorem fieldValid_any (n v : ByteArray) (w : World) (hn : n.size ≤ maxLen) (hv : v.size ≤ maxLen) :
    Calls Tryd.prog 10 #[.agg #[.string n, .string v]] w fun e w' => e = .returned (.bool (fldB n v)) ∧ Below w.heap.size w w' := by
  go_enter Tryd.func10, Tryd.ntmps10
  go_wp2_with fail
  refine (hdrValid_any n v _ hn hv).mono ?_
  rintro e w1 ⟨rfl, hb⟩
  go_wp2_with fail
  go_ret
  exact ⟨rfl, below_trans (below_oneF _ _) hb⟩

set_option maxHeartbeats 1000000 in
theorem refFieldValid_any (n v : ByteArray) (w : World) (hn : n.size ≤ maxLen) (hv : v.size ≤ maxLen) :
    Calls Tryd.prog 11 #[.agg #[.string n, .string v]] w fun e w' => e = .returned (.bool (fldB n v)) ∧ Below w.heap.size w w' := by
  go_enter Tryd.func11, Tryd.ntmps11
  by_cases ht : tokS n = true
  · have HT := Box.mk ht
    go_wp2_with fail
    refine (refToken_any n _ hn).mono ?_
    rintro e w1 ⟨rfl, rfl⟩
    go_wp2_with fail
    refine (refValue_any v _ hv).mono ?_
    rintro e w1 ⟨rfl, rfl⟩
    clear ht
    go_wp2_with fail
    go_ret
    exact ⟨ret_bool (fldB_val HT.out).symm, below_oneF _ _⟩
  · have ht' : tokS n = false := by simpa using ht
    have HT := Box.mk ht'
    clear ht
    go_wp2_with fail
    refine (refToken_any n _ hn).mono ?_
    rintro e w1 ⟨rfl, rfl⟩
    go_wp2_with fail
    go_ret
    exact ⟨ret_bool (fldB_tok HT.out).symm, below_oneF _ _⟩

set_option maxHeartbeats 1000000 in
theorem hdrLine_any (n v : ByteArray) (w : World) (hn : n.size ≤ 1000000000) (hv : v.size ≤ 1000000000) :
    Calls Tryd.prog 47 #[.agg #[.string n, .string v]] w fun e w' => e = .returned (.string (n ++ ⟨#[58, 32]⟩ ++ v ++ ⟨#[13, 10]⟩)) ∧ Below w.heap.size w w' := by
  have h1 : (n ++ ⟨#[58, 32]⟩).size = n.size + 2 := by rw [ByteArray.size_append]; rfl
  have h2 : (n ++ ⟨#[58, 32]⟩ ++ v).size = n.size + 2 + v.size := by rw [ByteArray.size_append, h1]
  go_enter Tryd.func47, Tryd.ntmps47
  go_wp2_with fail
  go_ret
  exact ⟨rfl, below_oneF _ _⟩
end Go.Proofs.YtcniajbfgfikjaaDoor
