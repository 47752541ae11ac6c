/- Sum and Of. -/
import Derived.Test.YtpgppninmnplkaaDoorDigHa
import Derived.Test.YtpgppninmnplkaaDoorSlc
namespace Go.Proofs.YtpgppninmnplkaaDoor
open Go.RowKit

theorem digSum_any (L : List UInt8) (v : Value) (w : World) (hv : DigAt w v L) (hL : L.length ≤ 70368744177664) (hk : RowAt w 1 kkV) :
    Calls Tryd.prog 17 #[v] w fun e w' => ∃ v', e = .returned v' ∧ AccB w w' v' (sumS L) := by
  obtain ⟨ta, tcap, rfl, ht⟩ := hv
  exact sum_core (stS L) L rfl ta tcap w ht hL hk

theorem of_world {w w1 W : World} (hb : Below w.heap.size w w1) (hW : W = (w1.alloc (.cells dzero 34)).setRow w1.heap.size (digV initS 0 (.slice none 0 0))) : DigRow W w1.heap.size (([] : List (List UInt8)).flatten) ∧ Below w.heap.size w W := by
  subst hW
  have hB : Below w1.heap.size w1 ((w1.alloc (.cells dzero 34)).setRow w1.heap.size (digV initS 0 (.slice none 0 0))) := below_setRow ((Below.refl _ _).alloc (Nat.le_refl _) _) (Nat.le_refl _) _
  exact ⟨⟨none, 0, setRow_heap _ _ _ _ _ _ (heap_alloc_new _ _), .inl ⟨rfl, rfl, rfl⟩, fun x hx => by cases hx⟩, below_trans hb hB⟩
theorem flatten_snoc (ls : List (List UInt8)) (k : Nat) (h : k < ls.length) : (ls.take (k + 1)).flatten = (ls.take k).flatten ++ ls[k] := by
  rw [List.take_succ_eq_append_getElem h, List.flatten_append]; simp
theorem flatten_take_le (ls : List (List UInt8)) (k : Nat) (h : k < ls.length) {n : Nat} (hn : ls.flatten.length ≤ n) : (ls.take k).flatten.length + ls[k].length ≤ n := by
  have e : ls.flatten = (ls.take (k + 1)).flatten ++ (ls.drop (k + 1)).flatten := by rw [← List.flatten_append, List.take_append_drop]
  rw [e, List.length_append, flatten_snoc ls k h, List.length_append] at hn
  omega
theorem AccB.weaken {w w1 w' : World} {v : Value} {l : List UInt8} (h : AccB w1 w' v l) (hb : Below w.heap.size w w1) : AccB w w' v l := by
  obtain ⟨⟨h1, h2⟩, h3⟩ := h
  refine ⟨⟨h1, ?_⟩, hb.trans (h3.mono hb.size)⟩
  rcases h2 with h2 | ⟨g, cap, cur, hv, hg, r⟩
  · exact .inl h2
  · exact .inr ⟨g, cap, cur, hv, Nat.le_trans hb.size hg, r⟩

/-- What Write hands back, as cells that nobody looks into. -/
structure RowNew (w w' : World) (L : List UInt8) (cs : Array Value) : Prop where
  size : cs.size = 10
  one : cs.all (·.oneCell') = true
  val : ∃ ta tcap, cs = digV (stS L) L.length (.slice ta (tailS L).length tcap) ∧ IsBytes w' ta (tailS L) tcap ∧ ∀ x, ta = some x → w.heap.size ≤ x.block
  below : Below w.heap.size w w'
theorem digV_size (s : St) (n : Int) (t : Value) : (digV s n t).size = 10 := rfl
theorem write_row (L l : List UInt8) (v : Value) (ba : Option Addr) (bcap : Nat) (w : World) (hv : DigAt w v L) (hb : IsBytes w ba l bcap) (hlen : L.length + l.length ≤ 140737488355328) (hk : RowAt w 1 kkV) :
    Calls Tryd.prog 16 #[v, .slice ba l.length bcap] w fun e w' => ∃ cs, e = .returned (.agg cs) ∧ RowNew w w' (L ++ l) cs := by
  refine (write_any L l v ba bcap w hv hb hlen hk).mono ?_
  rintro e w' ⟨ta, tc, rfl, h1, h2, h3⟩
  exact ⟨_, rfl, digV_size _ _ _, digV_one _ _ _ _ _, ⟨ta, tc, rfl, h1, h3⟩, h2⟩
theorem size_row {cs : Array Value} (h : cs.size = 10) : (Tryd.prog.info? 34).map (·.size) = some cs.size := by rw [h]; exact sizeDig
theorem DigRow.cells {w : World} {g : Nat} {L : List UInt8} (h : DigRow w g L) : ∃ cs, w.heap[g]? = some (.cells cs 34 (0, 0)) ∧ cs.size = 10 ∧ DigAt w (.agg cs) L := by
  obtain ⟨ta, tc, h1, h2, _⟩ := h
  exact ⟨_, h1, digV_size _ _ _, ta, tc, rfl, h2⟩
theorem DigRow.setRow {w w' : World} {g : Nat} {L0 L : List UInt8} {cs : Array Value} (h : DigRow w g L0) (hn : RowNew w w' L cs) : DigRow (w'.setRow g cs) g L := by
  obtain ⟨ta, tc, rfl, h1, h2⟩ := hn.val
  exact (h.keep hn.below).set h1 fun x hx => by have := h2 x hx; have := h.lt; omega

set_option maxRecDepth 100000 in
set_option maxHeartbeats 2000000 in
theorem digOf_any (ls : List (List UInt8)) (a : Option Addr) (cap : Nat) (w : World) (ha : SlcIn w a ls) (hn : ls.length ≤ 140737488355328) (hL : ls.flatten.length ≤ 70368744177664) (hk : RowAt w 1 kkV) (hi : RowAt w 0 initS.cells) :
    Calls Tryd.prog 10 #[.slice a ls.length cap] w fun e w' => ∃ v', e = .returned v' ∧ AccB w w' v' (sumS ls.flatten) := by
  have HA := Box.mk ha
  have HK := Box.mk hk
  have HI := Box.mk hi
  clear ha hk hi
  go_enter Tryd.func10, Tryd.ntmps10
  go_wp2_with fail
  refine (digStart_any w HI.out).mono ?_
  rintro e w1 ⟨rfl, hb1⟩
  have HB1 := Box.mk hb1
  clear hb1
  go_wp2_with (refine wpList_store_row rfl 34 _ _ rfl w1.heap.size (digV initS 0 (.slice none 0 0)) rfl rfl 34 dzero (heap_alloc_new _ _) sizeDig rfl (digV_one _ _ _ _ _) ?_)
  obtain ⟨W, hW⟩ : ∃ W, W = (w1.alloc (.cells dzero 34)).setRow w1.heap.size (digV initS 0 (.slice none 0 0)) := ⟨_, rfl⟩
  have H0 := Box.mk (of_world HB1.out hW)
  change Code.wp _ _ _ _ ((w1.alloc (.cells dzero 34)).setRow w1.heap.size (digV initS 0 (.slice none 0 0)))
  rw [← hW]
  clear hW
  have HG0 := Box.mk HB1.out.size
  clear HB1
  generalize w1.heap.size = g at *
  go_loopw [9] (fun iv wr => ∃ k : Nat, k ≤ ls.length ∧ iv = .int .i64 k ∧ Box (DigRow wr g (ls.take k).flatten ∧ Below w.heap.size w wr)) (fun iv _ => ls.length - (intOf iv).toNat)
  case atStart => exact ⟨0, Nat.zero_le _, rfl, ⟨H0.out⟩⟩
  case round =>
    clear H0
    obtain ⟨k, hk, rfl, HM⟩ := hrel
    by_cases hlt : k < ls.length
    · obtain ⟨x, ba, bc, rfl, hc, hb⟩ := HA.out.keep HM.out.2 k hlt
      obtain ⟨cs0, hd1, hd2, hd3⟩ := HM.out.1.cells
      have HD := Box.mk (And.intro hd1 (And.intro (size_row hd2) hd3))
      have HZ := Box.mk hd2
      have HBy := Box.mk hb
      have HS := Box.mk (flatten_snoc ls k hlt)
      have HLe := Box.mk (flatten_take_le ls k hlt hL)
      clear hd1 hd2 hd3 hb
      generalize ls[k] = l at *
      generalize (ls.take k).flatten = L at *
      go_wp2_with (refine wpList_load_row rfl 34 _ rfl g rfl 34 cs0 (0, 0) _ HD.out.1 Tryd.underlying34 rfl HD.out.2.1 ?_)
      refine (write_row L l _ ba bc wr HD.out.2.2 HBy.out (by have := HLe.out; omega) (HK.out.keep HM.out.2)).mono ?_
      rintro e w2 ⟨cs, rfl, hr⟩
      have HR := Box.mk hr
      have HB2 := Box.mk (below_trans HM.out.2 hr.below)
      have HG := Box.mk (show w2.heap[g]? = some (.cells cs0 34 (0, 0)) by rw [hr.below.block _ HM.out.1.lt]; exact HD.out.1)
      have HE := Box.mk (show cs0.size = cs.size by rw [HZ.out, hr.size])
      clear hr
      go_wp2_with (refine wpList_store_row rfl 34 _ _ rfl g cs rfl rfl 34 cs0 HG.out (size_row HR.out.size) HE.out HR.out.one ?_)
      go_roundw
      case rel => exact ⟨k + 1, by omega, by go_num, ⟨by rw [HS.out]; exact HM.out.1.setRow HR.out, below_setRow HB2.out HG0.out _⟩⟩
      case measure => simp [intOf]; omega
    · obtain ⟨cs0, hd1, hd2, hd3⟩ := HM.out.1.cells
      rw [List.take_of_length_le (by omega)] at hd3
      obtain ⟨M, hM⟩ : ∃ M, M = ls.flatten := ⟨_, rfl⟩
      rw [← hM] at hd3 hL
      have HMM := Box.mk hM
      clear hM
      have HD := Box.mk (And.intro hd1 (And.intro (size_row hd2) hd3))
      clear hd1 hd2 hd3
      go_wp2_with (refine wpList_load_row rfl 34 _ rfl g rfl 34 cs0 (0, 0) _ HD.out.1 Tryd.underlying34 rfl HD.out.2.1 ?_)
      refine (digSum_any M _ wr HD.out.2.2 hL (HK.out.keep HM.out.2)).mono ?_
      rintro e w2 ⟨v2, rfl, h2⟩
      have H2 := Box.mk (h2.weaken HM.out.2)
      clear h2
      go_wp2_with fail
      go_ret
      refine ⟨_, rfl, ?_⟩
      rw [← HMM.out]
      exact H2.out
end Go.Proofs.YtpgppninmnplkaaDoor
