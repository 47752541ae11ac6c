/- The law that Sum changes no state. -/
import Derived.Test.YtpgppninmnplkaaDoorDigZ
namespace Go.Proofs.YtpgppninmnplkaaDoor
open Go.RowKit

/-- A variable that holds the digest's state after L. -/
def DigVar (w : World) (g : Nat) (L : List UInt8) : Prop := ∃ cs, w.heap[g]? = some (.cells cs 34 (0, 0)) ∧ cs.size = 10 ∧ DigAt w (.agg cs) L
theorem DigVar.keep {w w' : World} {g : Nat} {L : List UInt8} (h : DigVar w g L) (hb : Below w.heap.size w w') : DigVar w' g L := by
  obtain ⟨cs, h1, h2, h3⟩ := h
  exact ⟨cs, by rw [hb.block _ (lt_of_row' h1)]; exact h1, h2, h3.keep hb⟩
structure DigNew (w w' : World) (L : List UInt8) (cs : Array Value) : Prop where
  size : cs.size = 10
  one : cs.all (·.oneCell') = true
  at' : DigAt w' (.agg cs) L
  below : Below w.heap.size w w'
theorem write_n (L l : List UInt8) (v u : Value) (w : World) (hv : DigAt w v L) (hu : BytesV w u l) (hlen : L.length + l.length ≤ 70368744177664) (ht : DTabs w) :
    Calls Tryd.prog 16 #[v, u] w fun e w' => ∃ cs, e = .returned (.agg cs) ∧ DigNew w w' (L ++ l) cs := by
  obtain ⟨a, c, rfl, hb⟩ := hu
  refine (write_row L l v a c w hv hb (by omega) ht.k).mono ?_
  rintro e w' ⟨cs, rfl, h⟩
  obtain ⟨ta, tc, h1, h2, _⟩ := h.val
  exact ⟨cs, rfl, h.size, h.one, ⟨ta, tc, by rw [h1], h2⟩, h.below⟩
theorem digVar_new {w0 w : World} {L : List UInt8} {cs : Array Value} (h : DigNew w0 w L cs) {W : World} (hW : W = (w.alloc (.cells dzero 34)).setRow w.heap.size cs) : DigVar W w.heap.size L ∧ Below w.heap.size w W := by
  subst hW
  have hB : Below w.heap.size w ((w.alloc (.cells dzero 34)).setRow w.heap.size cs) := below_setRow ((Below.refl _ _).alloc (Nat.le_refl _) _) (Nat.le_refl _) _
  exact ⟨⟨cs, setRow_heap _ _ _ _ _ _ (heap_alloc_new _ _), h.size, h.at'.keep hB⟩, hB⟩

section
variable {Q : Exit → Act → World → Prop} {a : Act} {w : World} {o : Oper} {s : Spec}
theorem loc_dig {x : Operand} (ho : o.op = .load 34 x) {g : Nat} (hx : a.eval x = .pointer (some ⟨g, 0, none⟩)) {L : List UInt8} (h : DigVar w g L) (hs : ∀ v, DigAt w v L → s.p v w) :
    o.wp Tryd.prog a w (fun a' w' => ∃ v, a' = a.put o.dst v ∧ Below w.heap.size w w' ∧ s.p v w') Q := by
  obtain ⟨cs, h1, h2, h3⟩ := h
  exact wp_load_row 34 x ho g hx 34 cs (0, 0) _ h1 Tryd.underlying34 rfl (size_row h2) ⟨_, rfl, Below.refl _ _, hs _ h3⟩
end

set_option maxRecDepth 100000 in
set_option maxHeartbeats 2000000 in
theorem digestKeeps_any (la lb : List UInt8) (a b : Option Addr) (ca cb : Nat) (w : World) (ha : IsBytes w a la ca) (hb : IsBytes w b lb cb) (ht : DTabs w) :
    Calls Tryd.prog 6 #[.slice a la.length ca, .slice b lb.length cb] w fun e w' => e = .returned (.bool true) ∧ Below w.heap.size w w' := by
  obtain ⟨va, hva⟩ : ∃ va, va = Value.slice a la.length ca := ⟨_, rfl⟩
  obtain ⟨vb, hvb⟩ : ∃ vb, vb = Value.slice b lb.length cb := ⟨_, rfl⟩
  rw [← hva, ← hvb]
  have HA : Box (BytesV w va la) := ⟨a, ca, hva, ha⟩
  have HB : Box (BytesV w vb lb) := ⟨b, cb, hvb, hb⟩
  have HT := Box.mk ht
  clear ha hb ht hva hvb
  go_enter Tryd.func6, Tryd.ntmps6
  go_wp2_with fail
  refine (short_v la va 200 w HA.out (by decide)).mono ?_
  rintro e w1 ⟨a1, rfl, rfl, h⟩
  have HA1 := Box.mk h
  have hal : (la.take 200).length ≤ 200 := by rw [List.length_take]; omega
  clear h HA
  go_wp2_with fail
  refine (short_v lb vb 200 w HB.out (by decide)).mono ?_
  rintro e w1 ⟨b1, rfl, rfl, h⟩
  have HB1 := Box.mk h
  have hbl : (lb.take 200).length ≤ 200 := by rw [List.length_take]; omega
  clear h HB
  generalize la.take 200 = A at *
  generalize lb.take 200 = B at *
  go_wp2_with fail
  refine (start_v w HT.out).mono ?_
  rintro e w1 ⟨v1, rfl, h1, h2⟩
  have HW1 := Box.mk h1
  have HD1 := Box.mk h2
  clear h1 h2
  go_wp2_with fail
  refine (write_n [] A v1 a1 w1 HD1.out (HA1.out.keep HW1.out) (by rw [List.length_nil]; omega) (HT.out.keep HW1.out)).mono ?_
  rintro e w2 ⟨cs, rfl, h⟩
  have HN := Box.mk h
  have HW2 := Box.mk (below_trans HW1.out h.below)
  clear h HD1
  go_wp2_with (first
    | (refine wpList_store_row rfl 34 _ _ rfl w2.heap.size cs rfl rfl 34 dzero (heap_alloc_new _ _) (size_row HN.out.size) HN.out.size.symm HN.out.one ?_)
    | (refine wpList_load_row rfl 34 _ rfl w2.heap.size rfl 34 cs (0, 0) _ (setRow_heap _ _ _ _ _ _ (heap_alloc_new _ (.cells dzero 34))) Tryd.underlying34 rfl (size_row HN.out.size) ?_))
  obtain ⟨W, hW⟩ : ∃ W, W = (w2.alloc (.cells dzero 34)).setRow w2.heap.size cs := ⟨_, rfl⟩
  have hnew := digVar_new HN.out hW
  change Calls _ _ _ ((w2.alloc (.cells dzero 34)).setRow w2.heap.size cs) _
  rw [← hW]
  have HV : Box (DigVar W w2.heap.size A) := ⟨hnew.1⟩
  have HW3 := Box.mk (below_trans HW2.out hnew.2)
  have HDW : Box (DigAt W (.agg cs) A) := ⟨HN.out.at'.keep hnew.2⟩
  clear hW hnew HN
  generalize w2.heap.size = g at *
  refine (sum_v A (.agg cs) W HDW.out (by omega) (HT.out.keep HW3.out)).mono ?_
  rintro e w4 ⟨v4, rfl, h1, h2⟩
  have HW4 := Box.mk (below_trans HW3.out h1)
  have HV4 := Box.mk (HV.out.keep h1)
  have HX := Box.mk h2
  obtain ⟨cs', hc1, hc2, hc3⟩ := HV4.out
  have HC := Box.mk (And.intro hc1 (And.intro (size_row hc2) hc3))
  clear h1 h2 hc1 hc2 hc3 HV
  go_wp2_with (refine wpList_load_row rfl 34 _ rfl g rfl 34 cs' (0, 0) _ HC.out.1 Tryd.underlying34 rfl HC.out.2.1 ?_)
  refine (write_v A B (.agg cs') b1 w4 HC.out.2.2 (HB1.out.keep HW4.out) (by omega) (HT.out.keep HW4.out)).mono ?_
  rintro e w5 ⟨v5, rfl, h1, h2⟩
  have HW5 := Box.mk (below_trans HW4.out h1)
  have HD5 := Box.mk h2
  have HV5 := Box.mk (HV4.out.keep h1)
  have HX5 := Box.mk (HX.out.keep h1)
  clear h1 h2
  go_wp2_with fail
  refine (sum_v (A ++ B) v5 w5 HD5.out (by rw [List.length_append]; omega) (HT.out.keep HW5.out)).mono ?_
  rintro e w6 ⟨v6, rfl, h1, h2⟩
  have HW6 := Box.mk (below_trans HW5.out h1)
  have HY := Box.mk h2
  have HV6 := Box.mk (HV5.out.keep h1)
  have HX6 := Box.mk (HX5.out.keep h1)
  have HA6 := Box.mk (HA1.out.keep HW6.out)
  have HB6 := Box.mk (HB1.out.keep HW6.out)
  have HT6 := Box.mk (HT.out.keep HW6.out)
  clear h1 h2 HV4 HV5 HX HX5 HD5 HC HDW HA1 HB1
  go_wp2_with fail
  rename_i K hK
  refine wp_region_local (S := [.val v4, .val (.string ⟨(sumS A).toArray⟩), .dig A, .bytes (sumS A), .val (.string ⟨(sumS A).toArray⟩), .val (.bool true), .val (.bool true), .val v6, .val (.string ⟨(sumS (A ++ B)).toArray⟩),
    .val a1, .val b1, .slc [A, B], .bytes (sumS (A ++ B)), .val (.string ⟨(sumS (A ++ B)).toArray⟩), .val (.bool true), .val (.bool true), .val (.bool true), .val (.bool true), .val (.bool true), .val (.bool true)])
    (by kernel_rfl) (by kernel_rfl) (by kernel_rfl) ?_ ?_
  · refine ⟨?_, ?_, ?_, ?_, ?_, ?_, ?_, ?_, ?_, ?_, ?_, ?_, ?_, ?_, ?_, ?_, ?_, ?_, ?_, ?_, trivial⟩ <;> intro a w hb hf hd
    · exact ⟨wanted_none rfl, loc_move rfl (hf.base 6 rfl)⟩
    · exact ⟨wanted_none rfl, loc_string rfl (by rw [show a.eval (.tmp 21) = v4 from hd 0 rfl]; exact HX6.out.keep hb) rfl⟩
    · exact ⟨wanted_none rfl, loc_dig rfl (hf.base 5 rfl) (HV6.out.keep hb) fun v h => h⟩
    · exact ⟨wanted_none rfl, loc_call rfl (by kernel_rfl) (sum_v A _ w (hd 2 rfl) (by omega) (HT6.out.keep hb))⟩
    · exact ⟨wanted_none rfl, loc_string rfl (hd 3 rfl) rfl⟩
    · exact ⟨wanted_none rfl, loc_eql_str rfl (hd 1 rfl) (hd 4 rfl) rfl⟩
    · exact ⟨wanted_none rfl, loc_move rfl (hd 5 rfl)⟩
    · exact ⟨wanted_true rfl rfl (hd 6 rfl), loc_move rfl (hf.base 7 rfl)⟩
    · exact ⟨wanted_true rfl rfl (hd 6 rfl), loc_string rfl (by rw [show a.eval (.tmp 28) = v6 from hd 7 rfl]; exact HY.out.keep hb) rfl⟩
    · exact ⟨wanted_true rfl rfl (hd 6 rfl), loc_move rfl (hf.base 0 rfl)⟩
    · exact ⟨wanted_true rfl rfl (hd 6 rfl), loc_move rfl (hf.base 1 rfl)⟩
    · exact ⟨wanted_true rfl rfl (hd 6 rfl), loc_slices2 rfl (by rw [show a.eval (.tmp 30) = a1 from hd 9 rfl]; exact HA6.out.keep hb) (by rw [show a.eval (.tmp 31) = b1 from hd 10 rfl]; exact HB6.out.keep hb) fun v w' h => h⟩
    · exact ⟨wanted_true rfl rfl (hd 6 rfl), loc_call rfl (by kernel_rfl) (of_v [A, B] (A ++ B) _ w (hd 11 rfl) (Nat.le_refl _) (by simp) (by rw [List.length_append]; omega) (HT6.out.keep hb))⟩
    · exact ⟨wanted_true rfl rfl (hd 6 rfl), loc_string rfl (hd 12 rfl) rfl⟩
    · exact ⟨wanted_true rfl rfl (hd 6 rfl), loc_eql_str rfl (hd 8 rfl) (hd 13 rfl) rfl⟩
    · exact ⟨wanted_none rfl, loc_pick rfl (hd 6 rfl) (hd 14 rfl)⟩
    · exact ⟨wanted_none rfl, loc_move rfl (hd 15 rfl)⟩
    · exact ⟨wanted_true rfl rfl (hd 16 rfl), loc_call rfl (by kernel_rfl) (awake_v w (HT6.out.keep hb))⟩
    · exact ⟨wanted_none rfl, loc_pick rfl (hd 16 rfl) (hd 17 rfl)⟩
    · exact ⟨wanted_none rfl, loc_assign rfl (hd 18 rfl)⟩
  · intro a w hb hf hh
    refine hK a w ?_
    go_wp2_with fail
    exact local_ret rfl hf.defers (show a.eval (.tmp 4) = .bool true from hh 19 (by decide)) ⟨rfl, below_trans HW6.out hb⟩
end Go.Proofs.YtpgppninmnplkaaDoor
