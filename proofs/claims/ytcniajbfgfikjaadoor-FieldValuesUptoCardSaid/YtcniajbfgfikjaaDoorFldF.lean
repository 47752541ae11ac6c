/- Has of package field (a closure), Elements, SameFields. -/
import Derived.Test.YtcniajbfgfikjaaDoorFldE
namespace Go.Proofs.YtcniajbfgfikjaaDoor
open Go.RowKit

set_option maxHeartbeats 1000000 in
theorem hasClosure_any (f : Fld) (c b m : Nat) (S : List ByteArray) (w : World) (hc : w.cell? ⟨c, 0, none⟩ = some (.map (some b))) (h : SetIn w b m S) (hn : f.1.size ≤ maxLen) :
    Calls Tryd.prog 41 #[.agg #[.string f.1, .string f.2], .pointer (some ⟨c, 0, none⟩)] w fun e w' => e = .returned (.bool (inS (lowS f.1) S)) ∧ Below w.heap.size w w' := by
  have H0 := Box.mk (h.keep (below_oneF w (.cells #[.string f.1, .string f.2] 28)))
  have hc' := below_cell (below_oneF w (.cells #[.string f.1, .string f.2] 28)) hc
  clear h hc
  go_enter Tryd.func41, Tryd.ntmps41
  go_wp2_with fail
  refine (hdrIn_any f.1 f.2 b m S _ H0.out hn).mono ?_
  rintro e w1 ⟨rfl, hb⟩
  have HB := Box.mk (below_trans (below_oneF w (.cells #[.string f.1, .string f.2] 28)) hb)
  clear hb
  generalize hr : inS (lowS f.1) S = r at *
  have HR := Box.mk hr
  clear hr
  go_wp2_with fail
  go_ret
  exact ⟨ret_bool HR.out.symm, HB.out⟩

def findI (l : List Fld) (S : List ByteArray) : Int := if l.any (fun f => inS (lowS f.1) S) then 1 else 0

set_option maxRecDepth 100000 in
set_option maxHeartbeats 2000000 in
theorem indexFunc_any (l : List Fld) (S : List ByteArray) (a : Option Addr) (cap c b m : Nat) (w : World) (h : FldsIn w a l) (hz : ShortF l) (hc : w.cell? ⟨c, 0, none⟩ = some (.map (some b))) (hS : SetIn w b m S) (hl : l.length ≤ 1000000) :
    Calls Tryd.prog 60 #[.slice a l.length cap, .func (.func 41) #[] #[.pointer (some ⟨c, 0, none⟩)]] w
      fun e w' => ∃ i : Int, e = .returned (.int .i64 i) ∧ decide (0 ≤ i) = l.any (fun f => inS (lowS f.1) S) ∧ Below w.heap.size w w' := by
  have H0 := Box.mk h
  have HZ := Box.mk hz
  have HC := Box.mk hc
  have HS := Box.mk hS
  clear h hz hc hS
  go_enter Tryd.func60, Tryd.ntmps60
  go_wp2_with fail
  go_loopw [8] (fun iv wr => ∃ k : Nat, k ≤ l.length ∧ iv = .int .i64 k ∧ Box (Below w.heap.size w wr ∧ ∀ f ∈ l.take k, inS (lowS f.1) S = false)) (fun iv _ => l.length - (intOf iv).toNat)
  case atStart => exact ⟨0, Nat.zero_le _, rfl, ⟨Below.refl _ _, by simp⟩⟩
  case round =>
    obtain ⟨k, hk, rfl, HM⟩ := hrel
    by_cases hlt : k < l.length
    · obtain ⟨x, rfl, hx1, hx2⟩ := (H0.out.keep HM.out.1) k hlt
      have hx2 := cell_next hx2
      have HSZ := Box.mk (HZ.out _ (List.getElem_mem hlt))
      have HMEM := Box.mk (List.getElem_mem hlt)
      have HTK := Box.mk (show l.take (k + 1) = l.take k ++ [l[k]] from List.take_succ_eq_append_getElem hlt)
      generalize l[k] = f at *
      have HC1 := Box.mk (below_cell HM.out.1 HC.out)
      by_cases hin : inS (lowS f.1) S = true
      · have HIN := Box.mk hin
        have HR := Box.mk (show l.any (fun f => inS (lowS f.1) S) = true from List.any_eq_true.2 ⟨f, HMEM.out, hin⟩)
        clear hin
        go_wp2_with fail
        refine (hasClosure_any f c b m S _ HC1.out (HS.out.keep HM.out.1) HSZ.out.1).mono ?_
        rintro e w1 ⟨he, hb1⟩
        rw [HIN.out] at he
        subst he
        have HB1 := Box.mk (below_trans HM.out.1 hb1)
        clear hb1
        go_wp2_with fail
        go_ret
        exact ⟨(k : Int), rfl, by rw [HR.out]; simp, HB1.out⟩
      · have HIN := Box.mk (show inS (lowS f.1) S = false by simpa using hin)
        clear hin
        go_wp2_with fail
        refine (hasClosure_any f c b m S _ HC1.out (HS.out.keep HM.out.1) HSZ.out.1).mono ?_
        rintro e w1 ⟨he, hb1⟩
        rw [HIN.out] at he
        subst he
        have HM1 := Box.mk (show Below w.heap.size w w1 ∧ ∀ f ∈ l.take (k + 1), inS (lowS f.1) S = false from ⟨below_trans HM.out.1 hb1, by
          rw [HTK.out]
          intro y hy
          rcases List.mem_append.1 hy with h | h
          · exact HM.out.2 y h
          · simp at h; rw [h]; exact HIN.out⟩)
        clear hb1
        go_wp2_with fail
        go_roundw
        case rel => exact ⟨k + 1, by omega, by go_num, HM1⟩
        case measure => simp [intOf]; omega
    · have HR := Box.mk (show l.any (fun f => inS (lowS f.1) S) = false by
        have := HM.out.2
        rw [List.take_of_length_le (by omega)] at this
        rw [List.any_eq_false]
        intro y hy; rw [this y hy]; simp)
      go_wp2_with fail
      go_ret
      exact ⟨-1, rfl, by rw [HR.out]; rfl, HM.out.1⟩

set_option maxHeartbeats 1000000 in
theorem containsFunc_any (l : List Fld) (S : List ByteArray) (a : Option Addr) (cap c b m : Nat) (w : World) (h : FldsIn w a l) (hz : ShortF l) (hc : w.cell? ⟨c, 0, none⟩ = some (.map (some b))) (hS : SetIn w b m S) (hl : l.length ≤ 1000000) :
    Calls Tryd.prog 40 #[.slice a l.length cap, .func (.func 41) #[] #[.pointer (some ⟨c, 0, none⟩)]] w
      fun e w' => e = .returned (.bool (l.any (fun f => inS (lowS f.1) S))) ∧ Below w.heap.size w w' := by
  have H0 := Box.mk h
  have HC := Box.mk hc
  clear h hc
  go_enter Tryd.func40, Tryd.ntmps40
  go_wp2_with fail
  refine (indexFunc_any l S a cap c b m _ H0.out hz HC.out hS hl).mono ?_
  rintro e w1 ⟨i, rfl, hi, hb⟩
  have HI := Box.mk hi
  clear hi
  go_wp2_with fail
  go_ret
  exact ⟨ret_bool HI.out, hb⟩

theorem hasL_set (l : List Fld) (n : ByteArray) : (l.any fun f => inS (lowS f.1) ([n].map lowS)) = hasL l n := by
  unfold hasL
  congr 1
  funext f
  rw [inS_one]

set_option maxHeartbeats 1000000 in
theorem fHas_any (l : List Fld) (n : ByteArray) (a : Option Addr) (cap : Nat) (w : World) (h : FldsIn w a l) (hz : ShortF l) (hn : n.size ≤ maxLen) (hl : l.length ≤ 1000000) :
    Calls Tryd.prog 15 #[.slice a l.length cap, .string n] w fun e w' => e = .returned (.bool (hasL l n)) ∧ Below w.heap.size w w' := by
  have H0 := Box.mk h
  clear h
  go_enter Tryd.func15, Tryd.ntmps15
  go_wp2_with fail
  refine (setOf_any [n] _ _ _ (strsIn_one w n _) (by simpa using hn) (one_short n)).mono ?_
  rintro e w1 ⟨b, m, rfl, hS, hb⟩
  have HB1 := Box.mk (below_trans (below_oneF w (.cells #[.string n] 9)) hb)
  have HS := Box.mk hS
  clear hS hb
  go_wp2_with fail
  have HB2 := Box.mk (below_trans HB1.out (below_oneF w1 (.cells #[.map (some b)] 62)))
  have hcn : (w1.alloc (.cells #[.map (some b)] 62)).cell? ⟨w1.heap.size, 0, none⟩ = some (.map (some b)) := by rw [new_cellF]; rfl
  have HS2 := Box.mk (HS.out.keep (below_oneF w1 (.cells #[.map (some b)] 62)))
  have HH := Box.mk (hasL_set l n)
  generalize [n].map lowS = S at *
  refine (containsFunc_any l S a cap _ b m _ (H0.out.keep HB2.out) hz hcn HS2.out hl).mono ?_
  rintro e w3 ⟨he, hb3⟩
  rw [HH.out] at he
  subst he
  have HB3 := Box.mk (below_trans HB2.out hb3)
  clear hb3 hcn
  go_wp2_with fail
  go_ret
  exact ⟨rfl, HB3.out⟩

theorem StrsIn.at {w : World} {b off : Nat} {l : List ByteArray} (h : StrsIn w (some ⟨b, off, none⟩) l) : StrsAt w (some ⟨b, off, none⟩) l := fun j hj => by
  obtain ⟨x, e, hc⟩ := h j hj
  obtain rfl := Option.some.inj e
  exact ⟨b, off, rfl, by rw [← hc, show (⟨b, off, none⟩ : Addr).add j = ⟨b, off + j, none⟩ by unfold Addr.add; split <;> simp_all]⟩

section
variable (w : World) (m : Int)
set_option maxHeartbeats 1000000 in
theorem fElements_any (l : List Fld) (n : ByteArray) (a : Option Addr) (cap : Nat) (h : FldsIn w a l) (hz : ShortF l) (hn : n.size ≤ maxLen) (hl : l.length ≤ 1000000) (hm : w.cell? ⟨0, 0, none⟩ = some (.int .i64 m)) (ht : total (valuesL l n) ≤ 4000000000) :
    Calls Tryd.prog 17 #[.slice a l.length cap, .string n] w (RetStrs w (listL (valuesL l n))) := by
  have H0 := Box.mk h
  have HM := Box.mk hm
  clear h hm
  go_enter Tryd.func17, Tryd.ntmps17
  go_wp2_with fail
  refine (fValues_any l n a cap _ H0.out hz hn hl).mono ?_
  rintro e w1 ⟨a', cap', rfl, hs, hb⟩
  have HB := Box.mk hb
  clear hb
  go_wp2_with fail
  refine (list_any _ a' cap' _ m hs (below_cell HB.out HM.out) ht).mono ?_
  rintro e w2 ⟨a2, cap2, rfl, hs2, hb2⟩
  have HB2 := Box.mk (below_trans HB.out hb2)
  have HS2 := Box.mk hs2
  clear hb2 hs2 hs
  go_wp2_with fail
  go_ret
  exact ⟨a2, cap2, rfl, HS2.out, HB2.out⟩
set_option maxHeartbeats 1000000 in
theorem refElements_any (l : List Fld) (n : ByteArray) (a : Option Addr) (cap : Nat) (h : FldsIn w a l) (hz : ShortF l) (hn : n.size ≤ maxLen) (hl : l.length ≤ 1000000) (ht : total (valuesL l n) ≤ 4000000000) :
    Calls Tryd.prog 18 #[.slice a l.length cap, .string n] w (RetStrs w (listL (valuesL l n))) := by
  have H0 := Box.mk h
  clear h
  go_enter Tryd.func18, Tryd.ntmps18
  go_wp2_with fail
  refine (refValues_any l n a cap _ H0.out hz hn hl).mono ?_
  rintro e w1 ⟨a', cap', rfl, hs, hb⟩
  have HB := Box.mk hb
  clear hb
  go_wp2_with fail
  refine (refList_any _ a' cap' _ hs ht).mono ?_
  rintro e w2 ⟨a2, cap2, rfl, hs2, hb2⟩
  have HB2 := Box.mk (below_trans HB.out hb2)
  have HS2 := Box.mk hs2
  clear hb2 hs2 hs
  go_wp2_with fail
  go_ret
  exact ⟨a2, cap2, rfl, HS2.out, HB2.out⟩
end
end Go.Proofs.YtcniajbfgfikjaaDoor
