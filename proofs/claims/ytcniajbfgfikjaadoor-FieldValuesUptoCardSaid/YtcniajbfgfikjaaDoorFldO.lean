/- fields, name and awake of the laws; Short. -/
import Derived.Test.YtcniajbfgfikjaaDoorFldN
namespace Go.Proofs.YtcniajbfgfikjaaDoor
open Go.RowKit

theorem IntsF.alloc {w : World} {a : Option Addr} {n : Nat} (h : IntsF w a n) (o : Obj) : IntsF (w.alloc o) a n := h.keep (below_oneF w o)
theorem src_box {w : World} {a : Option Addr} {n c : Nat} (h : IntsF w a n) (hn : n ≤ maxLen) : Src (w.alloc (.cells #[.slice a n c, .int .i64 0] 47)) w.heap.size a n c := by
  refine ⟨⟨0, Nat.zero_le _, heap_alloc_new _ _⟩, hn, h.alloc _, fun x e h0 => ?_⟩
  obtain ⟨y, z, e2, hc, _⟩ := h 0 h0
  rw [e] at e2
  obtain rfl := Option.some.inj e2
  have := lt_cell hc
  rw [add_blockF] at this
  omega
theorem below_box {w w1 w2 : World} (h : Below w.heap.size w w1) (hg : w1.grownBy w2 (some w.heap.size)) : Below w.heap.size w w2 :=
  h.grown hg h.size fun k e => by have := Option.some.inj e; omega

set_option maxHeartbeats 2000000 in
theorem lawFields_any (l : List Fld) (a : Option Addr) (cap : Nat) (b : Option Addr) (n c : Nat) (wild : Bool) (w : World) (h : FldsC w a l cap) (hcap : l.length ≤ cap) (hcm : cap ≤ maxLen) (hi : IntsF w b n) (hn : n ≤ maxLen) :
    Calls Tryd.prog 8 #[.slice a l.length cap, .slice b n c, .bool wild] w fun e w' => ∃ x a' cap', e = .returned (.slice a' x.length cap') ∧ FldsC w' a' x cap' ∧ x.length ≤ 30 ∧ (∀ f ∈ x, f ∈ l ∨ MadeF f) ∧ Below w.heap.size w w' := by
  have H0 := Box.mk h
  have HI := Box.mk (And.intro hi hn)
  unfold maxLen at hcm
  clear h hi hn
  cases wild with
  | true =>
    by_cases hlt : 30 < l.length
    · have hl : (l.take 30).length = 30 := by rw [List.length_take]; omega
      have HT := Box.mk (show FldsC w a (l.take 30) cap from ⟨H0.out.1.take 30, fun e => by
        have := (H0.out.2 e).1
        rw [this] at hlt; exact absurd hlt (by decide)⟩)
      have HL := Box.mk hl
      clear hl
      go_enter Tryd.func8, Tryd.ntmps8
      go_wp2
      go_ret
      exact ⟨l.take 30, a, cap, by rw [HL.out]; rfl, HT.out, by rw [HL.out]; exact Nat.le_refl _, fun f hf => .inl (List.mem_of_mem_take hf), Below.refl _ _⟩
    · go_enter Tryd.func8, Tryd.ntmps8
      go_wp2
      go_ret
      exact ⟨l, a, cap, rfl, H0.out, by omega, fun f hf => .inl hf, Below.refl _ _⟩
  | false =>
    have HS := Box.mk (src_box (c := c) HI.out.1 HI.out.2)
    have HB := Box.mk (below_oneF w (.cells #[.slice b n c, .int .i64 0] 47))
    go_enter Tryd.func8, Tryd.ntmps8
    go_wp2_with fail
    refine (srcFields_any w.heap.size b n c _ HS.out).mono ?_
    rintro e w1 ⟨x, a', cap', rfl, hx, hxc, hx8, hall, hg⟩
    have HF := Box.mk (show FldsC w1 a' x cap' ∧ (∀ f ∈ x, MadeF f) ∧ Below w.heap.size w w1 from ⟨hx, hall, below_box HB.out hg⟩)
    clear hx hall hg
    go_wp2_with fail
    go_ret
    exact ⟨x, a', cap', rfl, HF.out.1, by omega, fun f hf => .inr (HF.out.2.1 f hf), HF.out.2.2⟩

def NameOf (x : List Fld) (s m : ByteArray) : Prop := m = s ∨ ∃ f ∈ x, m = lowS f.1
theorem NameOf.size {x : List Fld} {s m : ByteArray} (h : NameOf x s m) (hs : s.size ≤ maxLen) (hx : ShortF x) : m.size ≤ maxLen := by
  rcases h with rfl | ⟨f, hf, rfl⟩
  · exact hs
  · rw [lowS_size]; exact (hx f hf).1

set_option maxRecDepth 100000 in
set_option maxHeartbeats 2000000 in
theorem lawName_any (x : List Fld) (a : Option Addr) (cap : Nat) (s : ByteArray) (at_ : Int) (w : World) (h : FldsIn w a x) (hx : ShortF x) (hl : x.length ≤ 30) :
    Calls Tryd.prog 9 #[.slice a x.length cap, .string s, .int .i64 at_] w fun e w' => ∃ m, e = .returned (.string m) ∧ NameOf x s m ∧ Below w.heap.size w w' := by
  have H0 := Box.mk h
  have HX := Box.mk hx
  clear h hx
  by_cases h0 : 0 < x.length
  · have hz : ((x.length : Int) == 0) = false := by rw [beq_eq_false_iff_ne]; omega
    by_cases hb : (bits .and .i64 at_ 1 == 1) = true
    · go_enter Tryd.func9, Tryd.ntmps9
      go_wp2_with fail
      go_ret
      exact ⟨s, rfl, .inl rfl, Below.refl _ _⟩
    · have hb' : (bits .and .i64 at_ 1 == 1) = false := by simpa using hb
      clear hb
      obtain ⟨k, hk, hwk⟩ := withI_range (at_ / 2) x.length h0 (by omega)
      have HWK := Box.mk hwk
      clear hwk
      go_enter Tryd.func9, Tryd.ntmps9
      go_wp2_with fail
      refine (withinF (at_ / 2) x.length w h0 (by omega)).mono ?_
      rintro e w1 ⟨he, hw⟩
      rw [HWK.out] at he
      subst he hw
      obtain ⟨y, rfl, hc1, hc2⟩ := H0.out k hk
      have HSZ := Box.mk (HX.out _ (List.getElem_mem hk))
      have HMEM := Box.mk (List.getElem_mem hk)
      clear hc2
      generalize x[k] = f at *
      go_wp2_with fail
      refine (refLower_any f.1 _ HSZ.out.1).mono ?_
      rintro e w2 ⟨rfl, hb2⟩
      have HB2 := Box.mk hb2
      clear hb2
      go_wp2_with fail
      go_ret
      exact ⟨_, rfl, .inr ⟨f, HMEM.out, rfl⟩, HB2.out⟩
  · have e : x = [] := List.eq_nil_of_length_eq_zero (by omega)
    subst e
    go_enter Tryd.func9, Tryd.ntmps9
    go_wp2_with fail
    go_ret
    exact ⟨s, rfl, .inl rfl, Below.refl _ _⟩

theorem fldsIn_one (w : World) (n v : ByteArray) : FldsIn (w.alloc (.cells #[.string n, .string v] 28)) (some ⟨w.heap.size, 0, none⟩) [(n, v)] := fun j hj => by
  obtain rfl : j = 0 := by simpa using hj
  exact ⟨_, rfl, by rw [Addr.add_lit, new_cellF]; rfl, by rw [Addr.add_lit, new_cellF]; rfl⟩

def lineA : ByteArray := ⟨#[72, 111, 115, 116, 58, 32, 32, 97, 32]⟩
def lineC : ByteArray := ⟨#[72, 111, 115, 116, 32, 58, 32, 97]⟩
theorem parse_lineA : parseF lineA = some (⟨#[72, 111, 115, 116]⟩, ⟨#[97]⟩) := by decide +kernel
theorem parse_lineC : parseF lineC = none := by decide +kernel
theorem has_awake : hasL [((⟨#[72, 111, 115, 116]⟩, ⟨#[97]⟩) : Fld)] ⟨#[72, 79, 83, 84]⟩ = true := by decide +kernel
end Go.Proofs.YtcniajbfgfikjaaDoor
