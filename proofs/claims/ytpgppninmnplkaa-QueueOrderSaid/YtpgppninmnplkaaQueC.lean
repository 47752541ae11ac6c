/- Queues: single operations on a queue's variable; Peek and SameQueue. -/
import Derived.Test.YtpgppninmnplkaaQueB
namespace Go.Proofs.Ytpgppninmnplkaa
open Go.RowKit

/-- Bytes that lie at B or beyond. -/
def BytesF (B : Nat) (w : World) (v : Value) (l : List UInt8) : Prop := ∃ a c, v = .slice a l.length c ∧ IsBytes w a l c ∧ ∀ x, a = some x → B ≤ x.block
theorem BytesF.keep {B : Nat} {w w' : World} {v : Value} {l : List UInt8} (h : BytesF B w v l) (hb : Below w.heap.size w w') : BytesF B w' v l := by
  obtain ⟨a, c, h1, h2, h3⟩ := h
  exact ⟨a, c, h1, h2.keep hb, h3⟩
theorem BytesF.mono {B B' : Nat} {w : World} {v : Value} {l : List UInt8} (h : BytesF B w v l) (hB : B' ≤ B) : BytesF B' w v l := by
  obtain ⟨a, c, h1, h2, h3⟩ := h
  exact ⟨a, c, h1, h2, fun x hx => Nat.le_trans hB (h3 x hx)⟩
theorem BytesF.bytes {B : Nat} {w : World} {v : Value} {l : List UInt8} (h : BytesF B w v l) : BytesV w v l := by
  obtain ⟨a, c, h1, h2, _⟩ := h
  exact ⟨a, c, h1, h2⟩
theorem BytesF.nil (B : Nat) (w : World) : BytesF B w (.slice none 0 0) [] := ⟨none, 0, rfl, .inl ⟨rfl, rfl, rfl⟩, fun x hx => by cases hx⟩
theorem IsBytes.setRowQ {w : World} {a : Option Addr} {l : List UInt8} {cap g : Nat} (h : IsBytes w a l cap) (hf : ∀ x, a = some x → l ≠ [] → x.block ≠ g) (cs : Array Value) : IsBytes (w.setRow g cs) a l cap :=
  h.same fun x hx hl => setRow_other _ _ _ _ (hf x hx hl)
def Spec.fresh (B : Nat) (l : List UInt8) : Spec := ⟨fun v w => BytesF B w v l, fun _ _ _ h hb => h.keep hb⟩
theorem IsBytes.takeQ {w : World} {a : Option Addr} {l : List UInt8} {c : Nat} (h : IsBytes w a l c) (k : Nat) : IsBytes w a (l.take k) c := by
  rcases h with ⟨h1, rfl, h3⟩ | ⟨x, h1, h2, h3, h4⟩
  · exact .inl ⟨h1, by simp, h3⟩
  · refine .inr ⟨x, h1, by rw [List.length_take]; omega, h3, fun j hj => ?_⟩
    rw [List.getElem_take]; exact h4 j (by rw [List.length_take] at hj; omega)
theorem clone_n (l : List UInt8) (a : Option Addr) (n c : Nat) (w : World) (h : IsBytes w a l c) (hn : l.length = n) (hlen : n ≤ 140737488355328) :
    Calls Try.prog 24 #[.slice a n c] w fun e w' => ∃ v, e = .returned v ∧ Below w.heap.size w w' ∧ BytesF w.heap.size w' v l := by
  subst hn
  refine (clone_fresh l a c w h hlen).mono ?_
  rintro e w' ⟨a', c', rfl, hb, h1, h2⟩
  exact ⟨_, rfl, hb, a', c', rfl, h1, h2⟩

def clampN (n : Int) (len : Nat) : Nat := (max 0 (min n len)).toNat
def peekN (z n : Int) (len : Nat) : Nat := if validB z len = true then clampN n len else 0
theorem clampN_le (n : Int) (len : Nat) : clampN n len ≤ len := by unfold clampN; omega
theorem peekN_le (z n : Int) (len : Nat) : peekN z n len ≤ len := by
  unfold peekN; split
  · exact clampN_le n len
  · exact Nat.zero_le _

set_option maxHeartbeats 1000000 in
theorem peek_any (z n : Int) (l : List UInt8) (a : Option Addr) (c : Nat) (w : World) (h : IsBytes w a l c) :
    Calls Try.prog 21 #[.agg #[.int .i64 z, .slice a l.length c], .int .i64 n] w fun e w' => ∃ v, e = .returned v ∧ Below w.heap.size w w' ∧ BytesF w.heap.size w' v (l.take (peekN z n l.length)) := by
  have H0 := Box.mk h
  clear h
  go_enter Try.func21, Try.ntmps21
  go_wp2_with fail
  refine (valid_lit z a l.length c _).mono ?_
  rintro e w1 ⟨rfl, hb⟩
  have hbw := Box.mk (below_trans (below_one _ _) hb)
  cases hv : validB z l.length with
  | false =>
    have hr : peekN z n l.length = 0 := by unfold peekN; rw [hv]; rfl
    clear hb
    go_wp2_with fail
    go_ret
    exact ⟨_, rfl, hbw.out, by rw [hr, List.take_zero]; exact BytesF.nil _ _⟩
  | true =>
    obtain ⟨f1, f2, f3⟩ := valid_facts hv
    have hr := Box.mk (show peekN z n l.length = clampN n l.length by unfold peekN; rw [hv]; rfl)
    have hd := below_cell hb (alloc_cell_new w #[.int .i64 z, .slice a l.length c] 24 (0, 0) 1)
    have hcap : l.length ≤ c := by
      rcases H0.out with ⟨_, h, h'⟩ | ⟨_, _, h, _⟩
      · rw [h, h']; exact Nat.le_refl _
      · exact h
    have HT := Box.mk (fun k => (H0.out.takeQ k).keep hbw.out)
    clear hb
    by_cases hpos : 0 < l.length
    · rcases Int.lt_trichotomy n 0 with h0 | rfl | h0
      · have hk := Box.mk (show clampN n l.length = 0 by unfold clampN; omega)
        have hn1 : ¬ (l.length : Int) ≤ n := by omega
        go_wp2_with fail
        refine (clone_n (l.take 0) a 0 c w1 (HT.out 0) rfl (by omega)).mono ?_
        rintro e w2 ⟨v, rfl, hb2, hf⟩
        have HF := Box.mk (And.intro (below_trans hbw.out hb2) (hf.mono hbw.out.size))
        clear hb2 hf
        go_wp2_with fail
        go_ret
        exact ⟨_, rfl, HF.out.1, by rw [hr.out, hk.out]; exact HF.out.2⟩
      · have hk := Box.mk (show clampN 0 l.length = 0 by unfold clampN; omega)
        go_wp2_with fail
        refine (clone_n (l.take 0) a 0 c w1 (HT.out 0) rfl (by omega)).mono ?_
        rintro e w2 ⟨v, rfl, hb2, hf⟩
        have HF := Box.mk (And.intro (below_trans hbw.out hb2) (hf.mono hbw.out.size))
        clear hb2 hf
        go_wp2_with fail
        go_ret
        exact ⟨_, rfl, HF.out.1, by rw [hr.out, hk.out]; exact HF.out.2⟩
      · obtain ⟨m, rfl⟩ : ∃ m : Nat, n = m := ⟨n.toNat, by omega⟩
        have hm0 : 0 < m := by omega
        by_cases h1 : m < l.length
        · have hk := Box.mk (show clampN m l.length = m by unfold clampN; omega)
          go_wp2_with fail
          refine (clone_n (l.take m) a m c w1 (HT.out m) (by rw [List.length_take]; omega) (by omega)).mono ?_
          rintro e w2 ⟨v, rfl, hb2, hf⟩
          have HF := Box.mk (And.intro (below_trans hbw.out hb2) (hf.mono hbw.out.size))
          clear hb2 hf
          go_wp2_with fail
          go_ret
          exact ⟨_, rfl, HF.out.1, by rw [hr.out, hk.out]; exact HF.out.2⟩
        · have hk := Box.mk (show clampN m l.length = l.length by unfold clampN; omega)
          rcases Nat.lt_or_ge l.length m with h2 | h2
          · have h3 : ¬ (m : Int) < l.length := by omega
            go_wp2_with fail
            refine (clone_n (l.take l.length) a l.length c w1 (HT.out l.length) (by rw [List.length_take]; omega) (by omega)).mono ?_
            rintro e w2 ⟨v, rfl, hb2, hf⟩
            have HF := Box.mk (And.intro (below_trans hbw.out hb2) (hf.mono hbw.out.size))
            clear hb2 hf
            go_wp2_with fail
            go_ret
            exact ⟨_, rfl, HF.out.1, by rw [hr.out, hk.out]; exact HF.out.2⟩
          · obtain rfl : m = l.length := by omega
            go_wp2_with fail
            refine (clone_n (l.take l.length) a l.length c w1 (HT.out l.length) (by rw [List.length_take]; omega) (by omega)).mono ?_
            rintro e w2 ⟨v, rfl, hb2, hf⟩
            have HF := Box.mk (And.intro (below_trans hbw.out hb2) (hf.mono hbw.out.size))
            clear hb2 hf
            go_wp2_with fail
            go_ret
            exact ⟨_, rfl, HF.out.1, by rw [hr.out, hk.out]; exact HF.out.2⟩
    · obtain rfl : l = [] := List.eq_nil_of_length_eq_zero (by omega)
      have hk := Box.mk (show clampN n ([] : List UInt8).length = 0 by show (max 0 (min n ((0 : Nat) : Int))).toNat = 0; omega)
      have hT : IsBytes w1 a [] c := HT.out 0
      clear hpos f3 H0 HT
      rcases Int.lt_trichotomy n 0 with h0 | rfl | h0
      all_goals
        go_wp2_with fail
        refine (clone_n [] a 0 c w1 hT rfl (by omega)).mono ?_
        rintro e w2 ⟨v, rfl, hb2, hf⟩
        have HF := Box.mk (And.intro (below_trans hbw.out hb2) (hf.mono hbw.out.size))
        clear hb2 hf
        go_wp2_with fail
        go_ret
        exact ⟨_, rfl, HF.out.1, by rw [hr.out, hk.out]; exact HF.out.2⟩
theorem below_two (w : World) (o1 o2 : Obj) : Below w.heap.size w ((w.alloc o1).alloc o2) := ((Below.refl _ _).alloc (Nat.le_refl _) _).alloc (by rw [World.size_alloc]; omega) _
set_option maxHeartbeats 400000 in
theorem sameQ_any (z : Int) (l : List UInt8) (a b : Option Addr) (c d : Nat) (w : World) (ha : IsBytes w a l c) (hb : IsBytes w b l d) :
    Calls Try.prog 9 #[.agg #[.int .i64 z, .slice a l.length c], .agg #[.int .i64 z, .slice b l.length d]] w fun e w' => e = .returned (.bool true) ∧ Below w.heap.size w w' := by
  have c1 := conv_bytes (ha.keep (below_two w (.cells #[.int .i64 z, .slice a l.length c] 24) (.cells #[.int .i64 z, .slice b l.length d] 24)))
  have c2 := conv_bytes (hb.keep (below_two w (.cells #[.int .i64 z, .slice a l.length c] 24) (.cells #[.int .i64 z, .slice b l.length d] 24)))
  clear ha hb
  go_enter Try.func9, Try.ntmps9
  go_wp2_with fail
  go_ret
  exact ⟨rfl, below_two w _ _⟩
end Go.Proofs.Ytpgppninmnplkaa
