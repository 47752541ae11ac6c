/- The law FieldParse, where a byte of a made line is put; the whole law. -/
import Derived.Test.YtcniajbfgfikjaaDoorFldR
namespace Go.Proofs.YtcniajbfgfikjaaDoor
open Go.RowKit

section
variable (s : ByteArray) (lb : List UInt8) (ab : Option Addr) (cb : Nat) (b : Option Addr) (n c : Nat) (p : Int) (ch : UInt8) (wild : Int) (w : World)
set_option maxRecDepth 100000 in
set_option maxHeartbeats 2000000 in
theorem fieldParse_b (hw : (bits .and .i64 wild 1 == 1) = false) (hw2 : (bits .and .i64 wild 2 == 2) = true) (hi : IntsF w b n) (hn : n ≤ maxLen) :
    Calls Tryd.prog 6 #[.string s, .slice ab lb.length cb, .slice b n c, .int .i64 p, .int .u8 ch.toNat, .int .i64 wild] w fun e w' => e = .returned (.bool true) ∧ Below w.heap.size w w' := by
  have H0 := Box.mk (src_box (c := c) hi hn)
  clear hi hn
  go_enter Tryd.func6, Tryd.ntmps6
  go_wp2_with fail
  refine (srcField_any w.heap.size b n c _ H0.out).mono ?_
  rintro e w0 ⟨⟨nm, vl⟩, rfl, hmd, hsrc, hg⟩
  have HB0 := Box.mk (below_box (below_oneF w (.cells #[.slice b n c, .int .i64 0] 47)) hg)
  have hz1 : nm.size ≤ 1000 := hmd.2.1
  have hz2 : vl.size ≤ 1000 := hmd.2.2
  clear hmd hsrc hg H0
  have g1 : (nm ++ ⟨#[58]⟩).size = nm.size + 1 := by rw [ByteArray.size_append]; rfl
  have g2 : (nm ++ ⟨#[58]⟩ ++ vl).size = nm.size + 1 + vl.size := by rw [ByteArray.size_append, g1]
  have hcv := fun (w : World) (s : ByteArray) => run_bytes_of_string (P := Tryd.prog) w 9 43 5 s Tryd.underlying9 Tryd.underlying43 Tryd.underlying5
  go_wp2_with fail
  rw [show ((nm.size : Int) + 1 + (vl.size : Int)) = ((nm.size + 1 + vl.size : Nat) : Int) by omega]
  generalize hS : nm ++ ⟨#[58]⟩ ++ vl = S at *
  have hN : 0 < nm.size + 1 + vl.size ∧ nm.size + 1 + vl.size ≤ 1000000000 := ⟨by omega, by omega⟩
  clear hS
  generalize nm.size + 1 + vl.size = N at *
  generalize grownCap (w0.alloc (.cells #[.string nm, .string vl] 28)) N 0 5 = cp at *
  obtain ⟨W, hW⟩ : ∃ W, W = ((w0.alloc (.cells #[.string nm, .string vl] 28)).alloc (.cells (bytesRow S cp) 5 ((bytesRow S cp).size, (bytesRow S cp).size + 1))).drew := ⟨_, rfl⟩
  have HBW := Box.mk (show Below w.heap.size w W by
    rw [hW]
    exact ((below_twoF (below_twoF HB0.out (.cells #[.string nm, .string vl] 28)) _)).drew)
  have HBA := Box.mk (show BytesAt W (w0.heap.size + 1) S.data.toList by
    have h := bytesAt_new (w0.alloc (.cells #[.string nm, .string vl] 28)) S cp
    rw [World.size_alloc] at h
    rw [hW]; exact h)
  have HLE := Box.mk (show S.data.toList.length = N by rw [Array.length_toList]; exact g2)
  have HGB := Box.mk (show w.heap.size ≤ w0.heap.size + 1 by have := HB0.out.size; omega)
  change Calls _ _ _ (((w0.alloc (.cells #[.string nm, .string vl] 28)).alloc (.cells (bytesRow S cp) 5 ((bytesRow S cp).size, (bytesRow S cp).size + 1))).drew) _
  rw [← hW]
  obtain ⟨g, hg⟩ : ∃ g, Box (g = w0.heap.size + 1) := ⟨_, ⟨rfl⟩⟩
  rw [← hg.out] at HBA HGB ⊢
  clear hW hcv g2 g1 hz1 hz2 HB0
  obtain ⟨h0, h1⟩ := hN
  obtain ⟨k, hk, hwk⟩ := withI_range p N h0 h1
  have HWK := Box.mk hwk
  clear hwk
  refine (withinF p N W h0 h1).mono ?_
  rintro e w1 ⟨he, hww⟩
  rw [HWK.out] at he
  subst he hww
  obtain ⟨c1, c2⟩ := HBA.out k (by rw [HLE.out]; exact hk)
  have HBA2 := Box.mk (HBA.out.set (by rw [HLE.out]; exact hk) ch)
  have HLE2 := Box.mk (show (S.data.toList.set k ch).length = N by rw [List.length_set]; exact HLE.out)
  have hback := run_convert_bytes_back (P := Tryd.prog) (w1.setCell ⟨g, k, none⟩ (.int .u8 (ch.toNat : Int))) 43 9 5 ⟨g, 0, none⟩ cp (S.data.toList.set k ch) Tryd.underlying43 Tryd.underlying5 Tryd.underlying9 (fun j hj => by
    rw [Addr.add_lit, Nat.zero_add]; exact (HBA2.out j hj).1)
  rw [HLE2.out] at hback
  have HSZ0 := Box.mk (show (⟨(S.data.toList.set k ch).toArray⟩ : ByteArray).size ≤ maxLen by
    show (S.data.toList.set k ch).toArray.size ≤ maxLen
    rw [List.size_toArray, HLE2.out]; unfold maxLen; omega)
  have HB0 := Box.mk (HBW.out.setCell (p := ⟨g, k, none⟩) HGB.out (.int .u8 (ch.toNat : Int)))
  have hch : (ch.toNat : Int) ≤ 255 := by have := ch.toNat_lt; omega
  clear HBA HBA2 HLE2 HBW
  generalize (⟨(S.data.toList.set k ch).toArray⟩ : ByteArray) = L at *
  have HSZ := HSZ0
  have HB := HB0
  clear HSZ0 HB0
  go_wp2_with fail
  refine (fParse_any L _ HSZ.out).mono ?_
  rintro e w1 ⟨he, hb1⟩
  have HB1 := Box.mk (below_trans HB.out hb1)
  clear hb1
  cases hp : parseF L with
  | none =>
    have HP := Box.mk hp
    clear hp
    rw [HP.out] at he
    simp only [parseV] at he
    subst he
    have HN1 := Box.mk (below_twoF HB1.out (.cells #[.string ⟨#[]⟩, .string ⟨#[]⟩] 28))
    have HV1 := Box.mk (FVar.new w1 ⟨#[]⟩ ⟨#[]⟩)
    go_wp2_with fail
    refine (refParse_any L _ HSZ.out).mono ?_
    rintro e w2 ⟨he, hb2⟩
    rw [HP.out] at he
    simp only [parseV] at he
    subst he
    have HB2 := Box.mk (below_trans HN1.out hb2)
    have HV2 := Box.mk (HV1.out.keep hb2)
    have hlt : w1.heap.size < w2.heap.size := HV2.out.lt
    have hc0 := HV2.out.c0
    have hc1 := HV2.out.c1
    have HN2 := Box.mk (below_twoF HB2.out (.cells #[.string ⟨#[]⟩, .string ⟨#[]⟩] 28))
    clear hb2 HB1 HN1 HV1
    go_wp2_with fail
    refine (awakeF_any _).mono ?_
    rintro e w9 ⟨rfl, hb9⟩
    have HB9 := Box.mk (below_trans HN2.out hb9)
    clear hb9
    go_wp2_with fail
    go_ret
    exact ⟨rfl, HB9.out⟩
  | some f =>
    obtain ⟨n, v⟩ := f
    have HFV := Box.mk (parseF_ok hp).1
    have HFZ := Box.mk (And.intro (Nat.le_trans (parseF_ok hp).2.1 HSZ.out) (Nat.le_trans (parseF_ok hp).2.2 HSZ.out))
    have HP := Box.mk hp
    clear hp
    rw [HP.out] at he
    simp only [parseV] at he
    subst he
    simp only [] at HFV HFZ
    have HN1 := Box.mk (below_twoF HB1.out (.cells #[.string n, .string v] 28))
    have HV1 := Box.mk (FVar.new w1 n v)
    go_wp2_with fail
    refine (refParse_any L _ HSZ.out).mono ?_
    rintro e w2 ⟨he, hb2⟩
    rw [HP.out] at he
    simp only [parseV] at he
    subst he
    have HB2 := Box.mk (below_trans HN1.out hb2)
    have HV2 := Box.mk (HV1.out.keep hb2)
    have hlt : w1.heap.size < w2.heap.size := HV2.out.lt
    have hc0 := HV2.out.c0
    have hc1 := HV2.out.c1
    have HN2 := Box.mk (below_twoF HB2.out (.cells #[.string n, .string v] 28))
    clear hb2 HB1 HN1 HV1
    go_wp2_with fail
    refine (fieldValid_any n v _ HFZ.out.1 HFZ.out.2).mono ?_
    rintro e w3 ⟨he, hb3⟩
    rw [HFV.out] at he
    subst he
    have HN2 := Box.mk (below_trans HN2.out hb3)
    clear hb3 hc0 hc1 hlt
    go_wp2_with fail
    refine (awakeF_any _).mono ?_
    rintro e w9 ⟨rfl, hb9⟩
    have HB9 := Box.mk (below_trans HN2.out hb9)
    clear hb9
    go_wp2_with fail
    go_ret
    exact ⟨rfl, HB9.out⟩

theorem fieldParse_any (hi : IntsF w b n) (hn : n ≤ maxLen) (hb : IsBytes w ab lb cb) (hs : s.size ≤ maxLen) :
    Calls Tryd.prog 6 #[.string s, .slice ab lb.length cb, .slice b n c, .int .i64 p, .int .u8 ch.toNat, .int .i64 wild] w fun e w' => e = .returned (.bool true) ∧ Below w.heap.size w w' := by
  by_cases h1 : (bits .and .i64 wild 1 == 1) = true
  · exact fieldParse_a s lb ab cb b n c p ch wild w h1 hb
  · have h1' : (bits .and .i64 wild 1 == 1) = false := by simpa using h1
    by_cases h2 : (bits .and .i64 wild 2 == 2) = true
    · exact fieldParse_b s lb ab cb b n c p ch wild w h1' h2 hi hn
    · exact fieldParse_c s lb ab cb b n c p ch wild w h1' (by simpa using h2) hs
end
end Go.Proofs.YtcniajbfgfikjaaDoor
