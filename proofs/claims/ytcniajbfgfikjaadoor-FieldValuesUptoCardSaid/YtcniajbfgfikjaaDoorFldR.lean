/- The law FieldParse. -/
import Derived.Test.YtcniajbfgfikjaaDoorFldQ
namespace Go.Proofs.YtcniajbfgfikjaaDoor
open Go.RowKit

theorem parseF_ok {s : ByteArray} {f : Fld} (h : parseF s = some f) : fldB f.1 f.2 = true ∧ f.1.size ≤ s.size ∧ f.2.size ≤ s.size := by
  unfold parseF at h
  split at h
  · split at h
    · rename_i hb
      injection h with h
      subst h
      exact ⟨hb, extract_le _ _ _, Nat.le_trans (trimBA_size _) (extract_le _ _ _)⟩
    · cases h
  · cases h
theorem IsBytes.takeF {w : World} {a : Option Addr} {l : List UInt8} {c : Nat} (h : IsBytes w a l c) (n : Nat) : IsBytes w a (l.take n) c := by
  rcases h with ⟨h1, h2, h3⟩ | ⟨x, h1, h2, h3, h4⟩
  · exact .inl ⟨h1, by rw [h2]; exact List.take_nil, h3⟩
  · exact .inr ⟨x, h1, by rw [List.length_take]; omega, h3, fun j hj => by rw [List.getElem_take]; exact h4 j (by rw [List.length_take] at hj; omega)⟩
theorem shortF_any (l : List UInt8) (a : Option Addr) (cap n : Nat) (w : World) (h : IsBytes w a l cap) (hn : n ≤ 1000) :
    Calls Tryd.prog 27 #[.slice a l.length cap, .int .i64 n] w fun e w' => ∃ cap', e = .returned (.slice a (l.take n).length cap') ∧ IsBytes w a (l.take n) cap' ∧ w = w' := by
  have H0 := Box.mk h
  clear h
  by_cases hlt : n < l.length
  · have HB := Box.mk (H0.out.takeF n)
    have hle : l.length ≤ cap := by
      rcases H0.out with ⟨h1, h2, _⟩ | ⟨x, h1, h2, _⟩
      · rw [h2] at hlt; exact absurd hlt (by simp)
      · exact h2
    have hl : (l.take n).length = n := by rw [List.length_take]; omega
    rw [hl]
    go_enter Tryd.func27, Tryd.ntmps27
    go_wp2
    go_ret
    exact ⟨_, rfl, HB.out, rfl⟩
  · rw [List.take_of_length_le (by omega)]
    go_enter Tryd.func27, Tryd.ntmps27
    go_wp2
    go_ret
    exact ⟨_, rfl, H0.out, rfl⟩

section
variable (s : ByteArray) (lb : List UInt8) (ab : Option Addr) (cb : Nat) (b : Option Addr) (n c : Nat) (p : Int) (ch : UInt8) (wild : Int) (w : World)
set_option maxRecDepth 100000 in
set_option maxHeartbeats 2000000 in
theorem fieldParse_a (hw : (bits .and .i64 wild 1 == 1) = true) (hb : IsBytes w ab lb cb) :
    Calls Tryd.prog 6 #[.string s, .slice ab lb.length cb, .slice b n c, .int .i64 p, .int .u8 ch.toNat, .int .i64 wild] w fun e w' => e = .returned (.bool true) ∧ Below w.heap.size w w' := by
  have H0 := Box.mk hb
  clear hb
  go_enter Tryd.func6, Tryd.ntmps6
  go_wp2_with fail
  refine (shortF_any lb ab cb 200 w H0.out (by decide)).mono ?_
  rintro e w0 ⟨c0, rfl, hb0, rfl⟩
  have hconv := conv_bytes hb0
  have HLL := Box.mk (show (lb.take 200).length ≤ 200 by rw [List.length_take]; omega)
  clear hb0
  generalize lb.take 200 = L at *
  have HSZ := Box.mk (show (⟨L.toArray⟩ : ByteArray).size ≤ maxLen by
    show L.toArray.size ≤ maxLen
    have := HLL.out
    rw [List.size_toArray]; unfold maxLen; omega)
  have HB := Box.mk (Below.refl w.heap.size w)
  generalize (⟨L.toArray⟩ : ByteArray) = S at *
  go_wp2_with fail
  refine (fParse_any S _ HSZ.out).mono ?_
  rintro e w1 ⟨he, hb1⟩
  have HB1 := Box.mk (below_trans HB.out hb1)
  clear hb1
  cases hp : parseF S with
  | none =>
    have HP := Box.mk hp
    clear hp
    rw [HP.out] at he
    simp only [parseV] at he
    subst he
    have HN1 := Box.mk (below_twoF HB1.out (.cells #[.string ⟨#[]⟩, .string ⟨#[]⟩] 28))
    have HV1 := Box.mk (FVar.new w1 ⟨#[]⟩ ⟨#[]⟩)
    go_wp2_with fail
    refine (refParse_any S _ HSZ.out).mono ?_
    rintro e w2 ⟨he, hb2⟩
    rw [HP.out] at he
    simp only [parseV] at he
    subst he
    have HB2 := Box.mk (below_trans HN1.out hb2)
    have HV2 := Box.mk (HV1.out.keep hb2)
    have hlt : w1.heap.size < w2.heap.size := HV2.out.lt
    have hc0 := HV2.out.c0
    have hc1 := HV2.out.c1
    have HN2 := Box.mk (below_twoF HB2.out (.cells #[.string ⟨#[]⟩, .string ⟨#[]⟩] 28))
    clear hb2 HB1 HN1 HV1
    go_wp2_with fail
    refine (awakeF_any _).mono ?_
    rintro e w9 ⟨rfl, hb9⟩
    have HB9 := Box.mk (below_trans HN2.out hb9)
    clear hb9
    go_wp2_with fail
    go_ret
    exact ⟨rfl, HB9.out⟩
  | some f =>
    obtain ⟨n, v⟩ := f
    have HFV := Box.mk (parseF_ok hp).1
    have HFZ := Box.mk (And.intro (Nat.le_trans (parseF_ok hp).2.1 HSZ.out) (Nat.le_trans (parseF_ok hp).2.2 HSZ.out))
    have HP := Box.mk hp
    clear hp
    rw [HP.out] at he
    simp only [parseV] at he
    subst he
    simp only [] at HFV HFZ
    have HN1 := Box.mk (below_twoF HB1.out (.cells #[.string n, .string v] 28))
    have HV1 := Box.mk (FVar.new w1 n v)
    go_wp2_with fail
    refine (refParse_any S _ HSZ.out).mono ?_
    rintro e w2 ⟨he, hb2⟩
    rw [HP.out] at he
    simp only [parseV] at he
    subst he
    have HB2 := Box.mk (below_trans HN1.out hb2)
    have HV2 := Box.mk (HV1.out.keep hb2)
    have hlt : w1.heap.size < w2.heap.size := HV2.out.lt
    have hc0 := HV2.out.c0
    have hc1 := HV2.out.c1
    have HN2 := Box.mk (below_twoF HB2.out (.cells #[.string n, .string v] 28))
    clear hb2 HB1 HN1 HV1
    go_wp2_with fail
    refine (fieldValid_any n v _ HFZ.out.1 HFZ.out.2).mono ?_
    rintro e w3 ⟨he, hb3⟩
    rw [HFV.out] at he
    subst he
    have HN2 := Box.mk (below_trans HN2.out hb3)
    clear hb3 hc0 hc1 hlt
    go_wp2_with fail
    refine (awakeF_any _).mono ?_
    rintro e w9 ⟨rfl, hb9⟩
    have HB9 := Box.mk (below_trans HN2.out hb9)
    clear hb9
    go_wp2_with fail
    go_ret
    exact ⟨rfl, HB9.out⟩

set_option maxRecDepth 100000 in
set_option maxHeartbeats 2000000 in
theorem fieldParse_c (hw : (bits .and .i64 wild 1 == 1) = false) (hw2 : (bits .and .i64 wild 2 == 2) = false) (hs : s.size ≤ maxLen) :
    Calls Tryd.prog 6 #[.string s, .slice ab lb.length cb, .slice b n c, .int .i64 p, .int .u8 ch.toNat, .int .i64 wild] w fun e w' => e = .returned (.bool true) ∧ Below w.heap.size w w' := by
  have HSZ := Box.mk hs
  clear hs
  have HB := Box.mk (Below.refl w.heap.size w)
  go_enter Tryd.func6, Tryd.ntmps6
  go_wp2_with fail
  refine (fParse_any s _ HSZ.out).mono ?_
  rintro e w1 ⟨he, hb1⟩
  have HB1 := Box.mk (below_trans HB.out hb1)
  clear hb1
  cases hp : parseF s with
  | none =>
    have HP := Box.mk hp
    clear hp
    rw [HP.out] at he
    simp only [parseV] at he
    subst he
    have HN1 := Box.mk (below_twoF HB1.out (.cells #[.string ⟨#[]⟩, .string ⟨#[]⟩] 28))
    have HV1 := Box.mk (FVar.new w1 ⟨#[]⟩ ⟨#[]⟩)
    go_wp2_with fail
    refine (refParse_any s _ HSZ.out).mono ?_
    rintro e w2 ⟨he, hb2⟩
    rw [HP.out] at he
    simp only [parseV] at he
    subst he
    have HB2 := Box.mk (below_trans HN1.out hb2)
    have HV2 := Box.mk (HV1.out.keep hb2)
    have hlt : w1.heap.size < w2.heap.size := HV2.out.lt
    have hc0 := HV2.out.c0
    have hc1 := HV2.out.c1
    have HN2 := Box.mk (below_twoF HB2.out (.cells #[.string ⟨#[]⟩, .string ⟨#[]⟩] 28))
    clear hb2 HB1 HN1 HV1
    go_wp2_with fail
    refine (awakeF_any _).mono ?_
    rintro e w9 ⟨rfl, hb9⟩
    have HB9 := Box.mk (below_trans HN2.out hb9)
    clear hb9
    go_wp2_with fail
    go_ret
    exact ⟨rfl, HB9.out⟩
  | some f =>
    obtain ⟨n, v⟩ := f
    have HFV := Box.mk (parseF_ok hp).1
    have HFZ := Box.mk (And.intro (Nat.le_trans (parseF_ok hp).2.1 HSZ.out) (Nat.le_trans (parseF_ok hp).2.2 HSZ.out))
    have HP := Box.mk hp
    clear hp
    rw [HP.out] at he
    simp only [parseV] at he
    subst he
    simp only [] at HFV HFZ
    have HN1 := Box.mk (below_twoF HB1.out (.cells #[.string n, .string v] 28))
    have HV1 := Box.mk (FVar.new w1 n v)
    go_wp2_with fail
    refine (refParse_any s _ HSZ.out).mono ?_
    rintro e w2 ⟨he, hb2⟩
    rw [HP.out] at he
    simp only [parseV] at he
    subst he
    have HB2 := Box.mk (below_trans HN1.out hb2)
    have HV2 := Box.mk (HV1.out.keep hb2)
    have hlt : w1.heap.size < w2.heap.size := HV2.out.lt
    have hc0 := HV2.out.c0
    have hc1 := HV2.out.c1
    have HN2 := Box.mk (below_twoF HB2.out (.cells #[.string n, .string v] 28))
    clear hb2 HB1 HN1 HV1
    go_wp2_with fail
    refine (fieldValid_any n v _ HFZ.out.1 HFZ.out.2).mono ?_
    rintro e w3 ⟨he, hb3⟩
    rw [HFV.out] at he
    subst he
    have HN2 := Box.mk (below_trans HN2.out hb3)
    clear hb3 hc0 hc1 hlt
    go_wp2_with fail
    refine (awakeF_any _).mono ?_
    rintro e w9 ⟨rfl, hb9⟩
    have HB9 := Box.mk (below_trans HN2.out hb9)
    clear hb9
    go_wp2_with fail
    go_ret
    exact ⟨rfl, HB9.out⟩

end
end Go.Proofs.YtcniajbfgfikjaaDoor
