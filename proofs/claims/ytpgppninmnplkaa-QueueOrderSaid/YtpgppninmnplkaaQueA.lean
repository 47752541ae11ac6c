/- Queues: New, Valid, Room; the reference's. -/
import Derived.Test.YtpgppninmnplkaaLocS
import Derived.Test.YtpgppninmnplkaaDigMath
import Derived.Test.YtpgppninmnplkaaOwn
import Derived.Test.YtpgppninmnplkaaSlc
import Derived.Laws.Rows
import Derived.Laws.Tables
namespace Go.Proofs.Ytpgppninmnplkaa
open Go.RowKit

def validB (z : Int) (n : Nat) : Bool := decide (0 ≤ z) && decide (z ≤ 1000000) && decide ((n : Int) ≤ z)
def roomN (z : Int) (n : Nat) : Nat := if validB z n = true then (z - n).toNat else 0
def newZ (most : Int) : Int := max 0 (min most 1000000)
/-- A queue: its size and its bytes. -/
def QAt (w : World) (v : Value) (z : Int) (l : List UInt8) : Prop := ∃ a c, v = .agg #[.int .i64 z, .slice a l.length c] ∧ IsBytes w a l c
theorem QAt.keep {w w' : World} {v : Value} {z : Int} {l : List UInt8} (h : QAt w v z l) (hb : Below w.heap.size w w') : QAt w' v z l := by
  obtain ⟨a, c, h1, h2⟩ := h
  exact ⟨a, c, h1, h2.keep hb⟩
theorem sizeQ : (Try.prog.info? 24).map (·.size) = some 2 := by kernel_rfl

theorem valid_lit (z : Int) (a : Option Addr) (n c : Nat) (w : World) :
    Calls Try.prog 11 #[.agg #[.int .i64 z, .slice a n c]] w fun e w' => e = .returned (.bool (validB z n)) ∧ Below w.heap.size w w' := by
  by_cases h1 : 0 ≤ z
  · by_cases h2 : z ≤ 1000000
    · by_cases h3 : (n : Int) ≤ z
      · go_enter Try.func11, Try.ntmps11
        go_wp2
        go_ret
        exact ⟨by simp [validB, h1, h2, h3], below_one _ _⟩
      · go_enter Try.func11, Try.ntmps11
        go_wp2
        go_ret
        exact ⟨by simp [validB, h1, h2, h3], below_one _ _⟩
    · go_enter Try.func11, Try.ntmps11
      go_wp2
      go_ret
      exact ⟨by have : decide (z ≤ 1000000) = false := decide_eq_false (Int.not_le.2 h2); rw [show validB z n = false by simp only [validB, this, Bool.and_false, Bool.false_and]]; rfl, below_one _ _⟩
  · go_enter Try.func11, Try.ntmps11
    go_wp2
    go_ret
    exact ⟨by have : decide (0 ≤ z) = false := decide_eq_false (Int.not_le.2 h1); rw [show validB z n = false by simp only [validB, this, Bool.false_and]]; rfl, below_one _ _⟩
theorem refValid_lit (z : Int) (a : Option Addr) (n c : Nat) (w : World) :
    Calls Try.prog 12 #[.agg #[.int .i64 z, .slice a n c]] w fun e w' => e = .returned (.bool (validB z n)) ∧ Below w.heap.size w w' := by
  by_cases h1 : 0 ≤ z
  · by_cases h2 : z ≤ 1000000
    · by_cases h3 : (n : Int) ≤ z
      · go_enter Try.func12, Try.ntmps12
        go_wp2
        go_ret
        exact ⟨by simp [validB, h1, h2, h3], below_one _ _⟩
      · go_enter Try.func12, Try.ntmps12
        go_wp2
        go_ret
        exact ⟨by simp [validB, h1, h2, h3], below_one _ _⟩
    · go_enter Try.func12, Try.ntmps12
      go_wp2
      go_ret
      exact ⟨by have : decide (z ≤ 1000000) = false := decide_eq_false (Int.not_le.2 h2); rw [show validB z n = false by simp only [validB, this, Bool.and_false, Bool.false_and]]; rfl, below_one _ _⟩
  · go_enter Try.func12, Try.ntmps12
    go_wp2
    go_ret
    exact ⟨by have : decide (0 ≤ z) = false := decide_eq_false (Int.not_le.2 h1); rw [show validB z n = false by simp only [validB, this, Bool.false_and]]; rfl, below_one _ _⟩

theorem ret_rowQ {P : Program} {fn : Func} {R : Ending → World → Prop} {a : Act} {w : World} {p : Tmp} {ty t : TypeId} {g : Nat} {cs : Array Value} {fr : Nat × Nat} {d : TypeDesc}
    (h : fn.results = #[.cell p ty]) (hd : a.defers = []) (hp : a.tmps.getD p undef = .pointer (some ⟨g, 0, none⟩)) (hg : w.heap[g]? = some (.cells cs t fr))
    (hu : P.underlying ty = some d) (hs : (match d with | .struct _ | .array _ _ => true | _ => false) = true) (hi : (P.info? ty).map (·.size) = some cs.size) (hR : R (.returned (.agg cs)) w) : bodyPost P fn R .ret a w :=
  bodyPost_ret (results_cell_row h _ _ g t cs fr d hp hg hu hs hi) hd hR
theorem new_lit (most : Int) (w : World) (h0 : -9223372036854775808 ≤ most) (h1 : most ≤ 9223372036854775807) :
    Calls Try.prog 8 #[.int .i64 most] w fun e w' => e = .returned (.agg #[.int .i64 (newZ most), .slice none 0 0]) ∧ Below w.heap.size w w' := by
  go_enter Try.func8, Try.ntmps8
  go_wp2_with fail
  all_goals
    (try simp only [Exit.inBlock, Exit.then])
    refine ret_rowQ rfl rfl rfl (heap_alloc_new _ _) Try.underlying24 rfl sizeQ ⟨?_, below_one _ _⟩
    congr 6
    unfold newZ
    omega
theorem refNew_lit (most : Int) (w : World) (h0 : -9223372036854775808 ≤ most) (h1 : most ≤ 9223372036854775807) :
    Calls Try.prog 10 #[.int .i64 most] w fun e w' => e = .returned (.agg #[.int .i64 (newZ most), .slice none 0 0]) ∧ Below w.heap.size w w' := by
  go_enter Try.func10, Try.ntmps10
  go_wp2_with fail
  all_goals
    (try simp only [Exit.inBlock, Exit.then])
    refine ret_rowQ rfl rfl rfl (heap_alloc_new _ _) Try.underlying24 rfl sizeQ ⟨?_, below_one _ _⟩
    congr 6
    unfold newZ
    omega
theorem valid_facts {z : Int} {n : Nat} (h : validB z n = true) : 0 ≤ z ∧ z ≤ 1000000 ∧ (n : Int) ≤ z := by
  simp only [validB, Bool.and_eq_true, decide_eq_true_eq] at h
  exact ⟨h.1.1, h.1.2, h.2⟩
theorem room_lit (z : Int) (a : Option Addr) (n c : Nat) (w : World) :
    Calls Try.prog 13 #[.agg #[.int .i64 z, .slice a n c]] w fun e w' => e = .returned (.int .i64 (roomN z n)) ∧ Below w.heap.size w w' := by
  go_enter Try.func13, Try.ntmps13
  go_wp2_with fail
  refine (valid_lit z a n c _).mono ?_
  rintro e w1 ⟨rfl, hb⟩
  have hbw := Box.mk (below_trans (below_one _ _) hb)
  cases hv : validB z n with
  | false =>
    have hr : roomN z n = 0 := by unfold roomN; rw [hv]; rfl
    clear hb
    go_wp2_with fail
    go_ret
    exact ⟨by rw [hr]; rfl, hbw.out⟩
  | true =>
    obtain ⟨f1, f2, f3⟩ := valid_facts hv
    have hr : ((roomN z n : Nat) : Int) = z - n := by unfold roomN; rw [hv]; simp; omega
    have hz := below_cell hb (alloc_cell_new w #[.int .i64 z, .slice a n c] 24 (0, 0) 0)
    have hd := below_cell hb (alloc_cell_new w #[.int .i64 z, .slice a n c] 24 (0, 0) 1)
    clear hb
    go_wp2_with fail
    go_ret
    exact ⟨by rw [hr]; rfl, hbw.out⟩
theorem refRoom_lit (z : Int) (a : Option Addr) (n c : Nat) (w : World) :
    Calls Try.prog 14 #[.agg #[.int .i64 z, .slice a n c]] w fun e w' => e = .returned (.int .i64 (roomN z n)) ∧ Below w.heap.size w w' := by
  go_enter Try.func14, Try.ntmps14
  go_wp2_with fail
  refine (refValid_lit z a n c _).mono ?_
  rintro e w1 ⟨rfl, hb⟩
  have hbw := Box.mk (below_trans (below_one _ _) hb)
  cases hv : validB z n with
  | false =>
    have hr : roomN z n = 0 := by unfold roomN; rw [hv]; rfl
    clear hb
    go_wp2_with fail
    go_ret
    exact ⟨by rw [hr]; rfl, hbw.out⟩
  | true =>
    obtain ⟨f1, f2, f3⟩ := valid_facts hv
    have hr : ((roomN z n : Nat) : Int) = z - n := by unfold roomN; rw [hv]; simp; omega
    have hz := below_cell hb (alloc_cell_new w #[.int .i64 z, .slice a n c] 24 (0, 0) 0)
    have hd := below_cell hb (alloc_cell_new w #[.int .i64 z, .slice a n c] 24 (0, 0) 1)
    clear hb
    go_wp2_with fail
    go_ret
    exact ⟨by rw [hr]; rfl, hbw.out⟩

/-- How many bytes of the first k lists fit into room r. -/
def fitN (r : Nat) (ls : List (List UInt8)) (k : Nat) : Nat := min r (ls.take k).flatten.length
theorem flat_step (ls : List (List UInt8)) (k : Nat) (h : k < ls.length) : (ls.take (k + 1)).flatten = (ls.take k).flatten ++ ls[k] := by
  rw [List.take_succ_eq_append_getElem h, List.flatten_append]; simp
theorem fitting_any (r : Nat) (ls : List (List UInt8)) (a : Option Addr) (cap : Nat) (w : World) (ha : SlcIn w a ls) (hn : ls.length ≤ 140737488355328) (hr : r ≤ 1000000) :
    Calls Try.prog 23 #[.int .i64 r, .slice a ls.length cap] w fun e w' => e = .returned (.int .i64 (min r ls.flatten.length : Nat)) ∧ w = w' := by
  have HA := Box.mk ha
  clear ha
  go_enter Try.func23, Try.ntmps23
  go_wp2_with fail
  go_loopw [5, 10] (fun nv iv wr => ∃ k n : Nat, k ≤ ls.length ∧ iv = .int .i64 k ∧ nv = .int .i64 n ∧ n ≤ r ∧ Box (n = fitN r ls k) ∧ wr = w) (fun _ iv _ => ls.length - (intOf iv).toNat)
  case atStart => exact ⟨0, 0, Nat.zero_le _, rfl, rfl, Nat.zero_le _, ⟨by simp [fitN]⟩, rfl⟩
  case round =>
    obtain ⟨k, n, hk, rfl, rfl, hnr, HN, rfl⟩ := hrel
    by_cases hlt : k < ls.length
    · obtain ⟨x, ba, bc, rfl, hc, hb⟩ := HA.out k hlt
      have hlen := isBytes_len hb
      unfold maxLen at hlen
      have hS := Box.mk (show fitN r ls (k + 1) = n + min ls[k].length (r - n) by
        rw [HN.out]; unfold fitN; rw [flat_step ls k hlt, List.length_append]; omega)
      clear hb
      generalize ls[k].length = m at *
      go_wp2_with fail
      all_goals
        go_roundw
        case rel => exact ⟨k + 1, fitN r ls (k + 1), by omega, by go_num, by rw [hS.out]; congr 1; omega, by rw [hS.out]; omega, ⟨rfl⟩, by first | rfl | trivial⟩
        case measure => simp [intOf]; omega
    · have hS := Box.mk (show n = min r ls.flatten.length by rw [HN.out]; unfold fitN; rw [List.take_of_length_le (by omega)])
      go_wp2_with fail
      go_ret
      exact ⟨by rw [← hS.out]; rfl, rfl⟩
end Go.Proofs.Ytpgppninmnplkaa
